import PyProof.Rows.All
import Wide.All
import OpenK.AllK
import Wide.FinOn
import Lean
import PyProof.EqAt
import PyProof.EqKinds
import PyProof.TupleCall
import PyProof.NeKinds
import KE.KRevSl
import KE.KRevIter
import PyProof.FactsAll.tuple
import PyProof.Rows.SortWalk
import PyProof.Rows.StrJoin2
import PyProof.StrBlockH
import PyProof.StrWalks
import PyProof.StrCalls2
import PyProof.ConsumeWalk
import KE.KIntText
import PyProof.Rows.SortStr
import PyProof.EnumStmt
import PyProof.WalksMore
import KE.KEqDict
import PyProof.DictWalks
import KE.KLam
import PyProof.Rows.SortShellK
import PyProof.AttrMissHeap
import KE.KDictOf
import PyProof.ZipIter
import PyProof.CollectWalk
import PyProof.ListNew
import KE.KSortTup
import PyProof.Rows.TupDisplay
import OpenK.KOwn
import PyProof.Rows.TopTwo
import PyProof.Rows.CatchOwn
import PyProof.RulesDel
import PyProof.RulesAs
import KE.KIsNot
import PyProof.ExcAttrAll.ValueError
import KE.KIsAll
import PyProof.StrReplace2
import PyProof.ReprStr
import PyProof.FString
import PyProof.StrLawsChain
import PyProof.SetRoads
import PyProof.StrLawsRepr
import PyProof.ReprHeads
import PyProof.ReprLen
import PyProof.FactsAll.bool
import PySem.Challenge.RW_everywidth_k19_least_apart
-- CHANGE: your row's module here, as the last of these rows
set_option Elab.async false
set_option linter.all false
set_option maxRecDepth 100000
namespace L2
open PySem PySem.Spec PyProof.Rows
noncomputable abbrev Key := Sum Int Str
noncomputable def keyIs : Key → Value → Bool
  | .inl k, v => Value.isInt k v
  | .inr x, v => Value.isStrOf x v
noncomputable def keyH (w : World) : Key → Int
  | .inl k => hashInt k
  | .inr x => hashStr w x
theorem keyIs_shape : ∀ {k : Key} {v : Value}, keyIs k v = true → (∃ i t, k = Sum.inl i ∧ v = Value.int i t) ∨ (∃ x t, k = Sum.inr x ∧ v = Value.str x t)
  | .inl i, v, h => by
    obtain ⟨t, e⟩ := Value.isInt_shape (k := i) (v := v) h
    exact .inl ⟨i, t, rfl, e⟩
  | .inr x, v, h => by
    obtain ⟨t, e⟩ := Value.isStrOf_shape (x := x) (v := v) h
    exact .inr ⟨x, t, rfl, e⟩
theorem keyIs_int (i : Int) (t : Tok) : keyIs (.inl i) (.int i t) = true := by simp [keyIs, Value.isInt]
theorem keyIs_str (x : Str) (t : Tok) : keyIs (.inr x) (.str x t) = true := by simp [keyIs, Value.isStrOf]
theorem key_ll (a b : Int) : decide ((Sum.inl a : Key) = Sum.inl b) = (a == b) := by
  by_cases e : a = b
  · subst e; simp
  · have h : ¬ (Sum.inl a : Key) = Sum.inl b := fun q => e (Sum.inl.inj q)
    rw [decide_eq_false h]
    exact (beq_eq_false_iff_ne.mpr e).symm
theorem key_rr (a b : Str) : decide ((Sum.inr a : Key) = Sum.inr b) = decide (a = b) := by
  by_cases e : a = b
  · subst e; simp
  · have h : ¬ (Sum.inr a : Key) = Sum.inr b := fun q => e (Sum.inr.inj q)
    rw [decide_eq_false h, decide_eq_false e]
theorem key_lr (a : Int) (b : Str) : decide ((Sum.inl a : Key) = Sum.inr b) = false := decide_eq_false (fun q => nomatch q)
theorem key_rl (a : Str) (b : Int) : decide ((Sum.inr a : Key) = Sum.inl b) = false := decide_eq_false (fun q => nomatch q)
noncomputable def mixKind (prog : Program) (w : World) : PySem.KeyKind prog w Key where
  is := keyIs
  hash := keyH w
  inj := fun v a b ha hb => by
    rcases keyIs_shape ha with ⟨i, t, rfl, rfl⟩ | ⟨x, t, rfl, rfl⟩
    · rcases keyIs_shape hb with ⟨j, u, rfl, e⟩ | ⟨y, u, rfl, e⟩
      · injection e with e1 _; rw [e1]
      · exact nomatch e
    · rcases keyIs_shape hb with ⟨j, u, rfl, e⟩ | ⟨y, u, rfl, e⟩
      · exact nomatch e
      · injection e with e1 _; rw [e1]
  byValue := fun k v h => by
    rcases keyIs_shape h with ⟨i, t, rfl, rfl⟩ | ⟨x, t, rfl, rfl⟩ <;> rfl
  pyHash := fun hv h => by
    rcases keyIs_shape hv with ⟨i, t, rfl, rfl⟩ | ⟨x, t, rfl, rfl⟩
    · exact wpAny_pyHash_int h
    · exact wpAny_pyHash_str h
  eqBool := fun hu hv h => by
    rcases keyIs_shape hu with ⟨i, t, rfl, rfl⟩ | ⟨x, t, rfl, rfl⟩
    · rcases keyIs_shape hv with ⟨j, u, rfl, rfl⟩ | ⟨y, u, rfl, rfl⟩
      · rw [key_ll] at h; exact wpAny_eqBool_int h
      · rw [key_lr] at h; exact SeqAt.EqAt.int_str i t y u _ _ _ _ h
    · rcases keyIs_shape hv with ⟨j, u, rfl, rfl⟩ | ⟨y, u, rfl, rfl⟩
      · rw [key_rl] at h; exact SeqAt.EqAt.str_int x t j u _ _ _ _ h
      · rw [key_rr] at h; exact wpAny_eqBool_str h
  «strs» := fun k x t v h => by
    rcases keyIs_shape h with ⟨i, u, rfl, e⟩ | ⟨y, u, rfl, e⟩
    · exact nomatch e
    · injection e with e1 _
      subst e1
      cases v <;> rfl
theorem mixKind_int (prog : Program) (w : World) (i : Int) (t : Tok) : (mixKind prog w).is (.inl i) (.int i t) = true := keyIs_int i t
theorem mixKind_str (prog : Program) (w : World) (x : Str) (t : Tok) : (mixKind prog w).is (.inr x) (.str x t) = true := keyIs_str x t
end L2
namespace L2
open PySem PySem.Spec PyProof.Rows
inductive V where
  | non | bl (b : Bool) | int (i : Int) | str (x : Str) | byt (b : Array UInt8) | flt (b : UInt64) | ref (a : Addr) | ty (n : String)
  deriving DecidableEq
noncomputable def RelV : V → Value → Prop
  | .non, u => u = Value.none
  | .bl b, u => u = Value.bool b
  | .int i, u => ∃ t, u = Value.int i t
  | .str x, u => ∃ t, u = Value.str x t
  | .byt b, u => ∃ t, u = Value.bytes b t
  | .flt b, u => ∃ t, u = Value.float b t
  | .ref a, u => u = Value.ref a
  | .ty n, u => u = Value.type n
noncomputable abbrev Vals : List V → List Value → Prop := Paired RelV
theorem Vals.length {xs : List V} {us : List Value} (r : Vals xs us) : xs.length = us.length := Paired.length r
theorem Vals.get : ∀ {xs : List V} {us : List Value} {i : Nat} {x : V}, Vals xs us → xs[i]? = some x → ∃ u, us[i]? = some u ∧ RelV x u
  | _, _, _, _, .nil, e => by simp at e
  | _, _, 0, _, .cons r _, e => by simp at e; subst e; exact ⟨_, rfl, r⟩
  | _, _, i + 1, x, .cons _ t, e => by
    obtain ⟨u, h1, h2⟩ := Vals.get (i := i) (x := x) t (by simpa using e)
    exact ⟨u, by simpa using h1, h2⟩
theorem Vals.set {x : V} {u : Value} (r : RelV x u) : ∀ {xs : List V} {us : List Value} (i : Nat), Vals xs us → Vals (xs.set i x) (us.set i u)
  | _, _, _, .nil => .nil
  | _, _, 0, .cons _ t => .cons r t
  | _, _, i + 1, .cons q t => .cons q (Vals.set r i t)
theorem Vals.append : ∀ {xs ys : List V} {us ws : List Value}, Vals xs us → Vals ys ws → Vals (xs ++ ys) (us ++ ws)
  | _, _, _, _, .nil, s => s
  | _, _, _, _, .cons r t, s => .cons r (Vals.append t s)
theorem Vals.take : ∀ {xs : List V} {us : List Value} (n : Nat), Vals xs us → Vals (xs.take n) (us.take n)
  | _, _, 0, _ => .nil
  | _, _, _ + 1, .nil => .nil
  | _, _, n + 1, .cons r t => .cons r (Vals.take n t)
theorem Vals.drop : ∀ {xs : List V} {us : List Value} (n : Nat), Vals xs us → Vals (xs.drop n) (us.drop n)
  | _, _, 0, r => r
  | _, _, _ + 1, .nil => .nil
  | _, _, n + 1, .cons _ t => Vals.drop n t
noncomputable def RelO : Option V → Option Value → Prop
  | some v, some u => RelV v u
  | none, none => True
  | _, _ => False
noncomputable def KV {κ : Type} : List (κ × V) → List (κ × Value) → Prop := Paired fun (p : κ × V) (q : κ × Value) => p.1 = q.1 ∧ RelV p.2 q.2
noncomputable def kV : Key → V
  | .inl i => .int i
  | .inr x => .str x
inductive HO where
  /-- a list -/
  | lst (xs : List V)
  /-- a tuple (never changes) -/
  | tup (xs : List V)
  /-- a dict whose keys are ints and texts; one whose keys are tuples of ints and texts (the empty one is both) -/
  | dK (kvs : List (Key × V)) | dT (kvs : List (List Key × V))
  /-- a set of ints: its members, its size -/
  | set (S : Int → Bool) (n : Nat)
  /-- an instance of the class at C, its dict at dx, its attributes -/
  | ins (C dx : Addr) (fs : List (Str × V))
  /-- the dict of the instance at x -/
  | own (x : Addr)
  /-- the dict of an exception -/
  | xd (fs : List (Str × V))
  /-- a bound method, f of x -/
  | met (f x : Addr)
  /-- a range object lo, lo + 1, .. below hi -/
  | rng (lo hi : Int)
  /-- a thing that is known to the object (the script; a dict while a loop walks it): read, never written while it is so -/
  | frz (o : Obj) (u : HO)
  /-- a code object's table -/
  | tbl (ps : Array Value)
  /-- any other thing, by what is true of its one object (a def of one's own: SetO a S n := HO.ext fun h => ..) -/
  | ext (φ : Heap → Prop)
noncomputable abbrev Hp := Addr → Option HO
noncomputable def upd (H : Hp) (a : Addr) (o : HO) : Hp := fun b => if b = a then some o else H b
theorem upd_same {H : Hp} {a : Addr} {o : HO} : upd H a o a = some o := by unfold upd; rw [if_pos rfl]
theorem upd_ne {H : Hp} {a b : Addr} {o : HO} (h : b ≠ a) : upd H a o b = H b := by unfold upd; rw [if_neg h]
theorem upd_upd {H : Hp} {a : Addr} {o u : HO} : upd (upd H a o) a u = upd H a u := by
  funext b; unfold upd; split <;> rfl
theorem ne_of {H : Hp} {a b : Addr} {o u : HO} (h : H a = some o) (h' : H b = some u) (d : o ≠ u) : a ≠ b := by
  intro e; subst e; rw [h] at h'; exact d (Option.some.inj h')
theorem ne_of_none {H : Hp} {a b : Addr} {o : HO} (h : H a = some o) (h' : H b = none) : a ≠ b := by
  intro e; subst e; rw [h] at h'; cases h'
section
variable (P : Program) (w : World)
noncomputable def ObjOk (H : Hp) (h : Heap) (a : Addr) : HO → Prop
  | .lst xs => xs.length ≤ sizeLine ∧ ∃ (its : List Value) (n : Nat), Vals xs its ∧ h.get? a = some { cls := .type "list", data := .seq its.toArray n }
  | .tup xs => xs.length ≤ sizeLine ∧ ∃ its : List Value, Vals xs its ∧ IsTup h a its.toArray
  | .dK kvs => kvs.length ≤ sizeLine ∧ (a == sysModules) = false ∧ ∃ vs, KV kvs vs ∧ h.DictOf (mixKind P w) a vs
  | .dT kvs => kvs.length ≤ sizeLine ∧ (a == sysModules) = false ∧ ∃ xs : List (List Key × Addr × Value),
      Paired (fun (p : List Key × V) (q : List Key × Addr × Value) => p.1 = q.1 ∧ H q.2.1 = some (.tup (p.1.map kV)) ∧ RelV p.2 q.2.2) kvs xs ∧
      ∃ o es ep, h.get? a = some o ∧ o.ExactDict ∧ o.data = .dict es ep ∧ es.toList = xs.map (entryOfKey (tupleKind (mixKind P w))) ∧ (xs.map (·.1)).Nodup
  | .set S n => h.SetOf (intKind P w) a S n
  | .ins C dx fs => H dx = some (.own a) ∧ fs.length ≤ 1000 ∧ dx ≠ a ∧ h.get? a = some (PySem.W.instObj C dx) ∧
      ∃ mA, h.Ns1 dx mA ∧ (∀ f, RelO (fs.lookup f) (mA f)) ∧ PySem.Within mA (fs.map (·.1))
  | .own _ => ∃ o, h.get? a = some o
  | .xd fs => ∃ mA, h.Ns1 a mA ∧ ∀ f, RelO (fs.lookup f) (mA f)
  | .rng lo hi => ∃ t u v, h.get? a = some { cls := .type "range", data := .fields #[.int lo t, .int hi u, .int 1 v] }
  | .frz o u => h.get? a = some o ∧ ObjOk H h a u
  | .tbl ps => h.get? a = some { cls := .none, data := .fields ps }
  | .met f x => h.get? a = some (PySem.W.methodObj (.ref f) (.ref x))
  | .ext φ => φ h ∧ (∃ o, h.get? a = some o) ∧ ∀ h1 h2 : Heap, φ h1 → (∀ o, h1.get? a = some o → h2.get? a = some o) → φ h2
noncomputable def HOk (H : Hp) (h : Heap) : Prop := ∀ a o, H a = some o → ObjOk P w H h a o
end
section
variable {P : Program} {w : World} {H H' : Hp} {h h' : Heap} {a : Addr} {o : HO}
theorem ObjOk.lt (x : ObjOk P w H h a o) : a < h.objs.size := by
  cases o with
  | lst xs => obtain ⟨_, _, _, _, e⟩ := x; exact Heap.lt_size e
  | tup xs => obtain ⟨_, _, _, p⟩ := x; exact p.lt
  | dK kvs => obtain ⟨_, _, _, _, o, _, _, e, _⟩ := x; exact Heap.lt_size e
  | dT kvs => obtain ⟨_, _, _, _, o, _, _, e, _⟩ := x; exact Heap.lt_size e
  | set S n => obtain ⟨o, _, _, _, e, _⟩ := x; exact Heap.lt_size e
  | ins C dx fs => obtain ⟨_, _, _, e, _⟩ := x; exact Heap.lt_size e
  | own y => obtain ⟨_, e⟩ := x; exact Heap.lt_size e
  | xd fs => obtain ⟨_, ⟨_, _, _, e, _⟩, _⟩ := x; exact Heap.lt_size e
  | rng lo hi => obtain ⟨_, _, _, e⟩ := x; exact Heap.lt_size e
  | frz ob u => obtain ⟨e, _⟩ := x; exact Heap.lt_size e
  | tbl ps => exact Heap.lt_size (show h.get? a = some _ from x)
  | met f y => exact Heap.lt_size (show h.get? a = some _ from x)
  | ext φ => obtain ⟨_, ⟨_, e⟩, _⟩ := x; exact Heap.lt_size e
theorem Paired.mapP {α β : Type} {F G : α → β → Prop} : ∀ {l₁ : List α} {l₂ : List β}, Paired F l₁ l₂ → (∀ a b, F a b → G a b) → Paired G l₁ l₂
  | _, _, .nil, _ => .nil
  | _, _, .cons r t, f => .cons (f _ _ r) (Paired.mapP t f)
theorem ObjOk.stay (x : ObjOk P w H h a o) (k : ∀ b u, (b = a ∨ H b = some (.own a)) → h.get? b = some u → h'.get? b = some u)
    (ho : ∀ b, H b = some (.own a) → H' b = some (.own a)) (ht : ∀ b xs, H b = some (.tup xs) → H' b = some (.tup xs)) : ObjOk P w H' h' a o := by
  induction o with
  | lst xs => obtain ⟨z, its, n, r, e⟩ := x; exact ⟨z, its, n, r, k _ _ (.inl rfl) e⟩
  | tup xs => obtain ⟨z, its, r, ob, e, c⟩ := x; exact ⟨z, its, r, ob, k _ _ (.inl rfl) e, c⟩
  | dK kvs => obtain ⟨z, y, vs, r, ob, es, ep, e, c⟩ := x; exact ⟨z, y, vs, r, ob, es, ep, k _ _ (.inl rfl) e, c⟩
  | dT kvs =>
    obtain ⟨z, y, xs, r, ob, es, ep, e, c⟩ := x
    exact ⟨z, y, xs, Paired.mapP r fun p q z => ⟨z.1, ht _ _ z.2.1, z.2.2⟩, ob, es, ep, k _ _ (.inl rfl) e, c⟩
  | set S n => obtain ⟨ob, es, ep, t, e, c⟩ := x; exact ⟨ob, es, ep, t, k _ _ (.inl rfl) e, c⟩
  | ins C dx fs =>
    obtain ⟨d, z, ne, e, mA, ⟨od, es, ep, e2, c⟩, r⟩ := x
    exact ⟨ho _ d, z, ne, k _ _ (.inl rfl) e, mA, ⟨od, es, ep, k _ _ (.inr d) e2, c⟩, r⟩
  | own y => obtain ⟨ob, e⟩ := x; exact ⟨ob, k _ _ (.inl rfl) e⟩
  | xd fs => obtain ⟨mA, ⟨od, es, ep, e, c⟩, r⟩ := x; exact ⟨mA, ⟨od, es, ep, k _ _ (.inl rfl) e, c⟩, r⟩
  | rng lo hi => obtain ⟨t, u, v, e⟩ := x; exact ⟨t, u, v, k _ _ (.inl rfl) e⟩
  | frz ob u ih => obtain ⟨e, q⟩ := x; exact ⟨k _ _ (.inl rfl) e, ih q⟩
  | tbl ps =>
    have e : h.get? a = some { cls := .none, data := .fields ps } := x
    show h'.get? a = some { cls := .none, data := .fields ps }
    exact k a _ (.inl rfl) e
  | met f y =>
    have e : h.get? a = some (PySem.W.methodObj (.ref f) (.ref y)) := x
    show h'.get? a = some (PySem.W.methodObj (.ref f) (.ref y))
    exact k a _ (.inl rfl) e
  | ext φ => obtain ⟨p, ⟨o, e⟩, st⟩ := x; exact ⟨st _ _ p fun o q => k _ _ (.inl rfl) q, ⟨o, k _ _ (.inl rfl) e⟩, st⟩
theorem HOk.lt (x : HOk P w H h) (e : H a = some o) : a < h.objs.size := (x a o e).lt
theorem HOk.fresh (x : HOk P w H h) (e : h.objs.size ≤ a) : H a = none := by
  cases q : H a with
  | none => rfl
  | some u => exact absurd (Nat.lt_of_lt_of_le (x.lt q) e) (Nat.lt_irrefl _)
theorem HOk.kept (x : HOk P w H h) (k : ∀ b u, h.get? b = some u → h'.get? b = some u) : HOk P w H h' := fun a o e =>
  (x a o e).stay (fun b u _ q => k b u q) (fun _ q => q) fun _ _ q => q
theorem HOk.laid (x : HOk P w H h) (k : ∀ b u, h.get? b = some u → h'.get? b = some u) (hp : h.objs.size ≤ a) (new : ObjOk P w (upd H a o) h' a o) : HOk P w (upd H a o) h' := fun b u e => by
  have hn := x.fresh hp
  by_cases hb : b = a
  · subst hb; rw [upd_same] at e; cases e; exact new
  · rw [upd_ne hb] at e
    exact (x b u e).stay (fun c v _ q => k c v q) (fun c q => by rw [upd_ne (ne_of_none q hn)]; exact q) fun c xs q => by rw [upd_ne (ne_of_none q hn)]; exact q
end
noncomputable def Rd (H : Hp) (a : Addr) (u : HO) : Prop := H a = some u ∨ ∃ o, H a = some (.frz o u)
theorem Rd.ok {P : Program} {w : World} {H : Hp} {h : Heap} {a : Addr} {u : HO} (r : Rd H a u) (x : HOk P w H h) : ObjOk P w H h a u := by
  rcases r with r | ⟨o, r⟩
  · exact x a u r
  · obtain ⟨_, q⟩ := x a _ r
    exact q
noncomputable def Mut : Option HO → Prop
  | some (.lst _) => True
  | some (.dK _) => True
  | some (.dT _) => True
  | some (.set _ _) => True
  | some (.ins _ _ _) => True
  | some (.ext _) => True
  | _ => False
section
variable {P : Program} {w : World} {H : Hp} {h h' : Heap} {x e : Addr} {o' : HO}
theorem HOk.write (ok : HOk P w H h) (mu : Mut (H x)) (he : e = x ∨ H e = some (.own x)) (k : ∀ b u, b ≠ e → h.get? b = some u → h'.get? b = some u) (heo : ∃ u, h'.get? e = some u)
    (new : ObjOk P w (upd H x o') h' x o') : HOk P w (upd H x o') h' := fun b u q => by
  have nown : ∀ c y, H c = some (.own y) → c ≠ x := fun c y r z => by subst z; rw [r] at mu; exact mu
  have ntup : ∀ c xs, H c = some (.tup xs) → c ≠ x := fun c xs r z => by subst z; rw [r] at mu; exact mu
  by_cases hb : b = x
  · subst hb; rw [upd_same] at q; cases q; exact new
  · rw [upd_ne hb] at q
    by_cases hbe : b = e
    · have q' : H b = some (.own x) := by
        rcases he with z | z
        · exact absurd (hbe.trans z) hb
        · rw [hbe]; exact z
      rw [q] at q'; cases q'
      obtain ⟨v, hv⟩ := heo
      exact ⟨v, by rw [hbe]; exact hv⟩
    · refine (ok b u q).stay (fun c v hc r => k c v ?_ r) (fun c r => by rw [upd_ne (nown c b r)]; exact r) fun c xs r => by rw [upd_ne (ntup c xs r)]; exact r
      rcases hc with rfl | hc
      · exact hbe
      · rintro rfl
        rcases he with z | z
        · exact nown c b hc z
        · rw [hc] at z; cases z; exact hb rfl
end
structure Un (fs ex : List Addr) (H H' : Hp) (h h' : Heap) : Prop where
  keep : ∀ b o, h.get? b = some o → H b = none → b ∉ fs → b ∉ ex → h'.get? b = some o
  slot : ∀ b o, h.get? b = some o → H b = none → b ∈ fs → b ∉ ex → ∃ sl, h'.get? b = some { o with slots := sl }
  free : ∀ b o, h.get? b = some o → H b = none → b ∉ ex → H' b = none
  there : ∀ b o, h.get? b = some o → b ∉ ex → ∃ o', h'.get? b = some o'
  tups : ∀ b xs, H b = some (.tup xs) → H' b = some (.tup xs)
  frzs : ∀ b o u, H b = some (.frz o u) → H' b = some (.frz o u)
  tbls : ∀ b ps, H b = some (.tbl ps) → ∃ more, H' b = some (.tbl (ps ++ more))
section
variable {fs fs' ex ex' : List Addr} {H H1 H2 : Hp} {h h1 h2 h' : Heap} {a x e : Addr} {o : HO}
theorem Un.any (u : Un fs ex H H1 h h1) {b : Addr} {ob : Obj} (q : h.get? b = some ob) (n : H b = none) (hx : b ∉ ex) : ∃ sl, h1.get? b = some { ob with slots := sl } := by
  by_cases hb : b ∈ fs
  · exact u.slot b ob q n hb hx
  · exact ⟨ob.slots, u.keep b ob q n hb hx⟩
theorem Un.kept (k : ∀ b u, h.get? b = some u → h'.get? b = some u) : Un fs ex H H h h' :=
  ⟨fun b ob q _ _ _ => k b ob q, fun b ob q _ _ _ => ⟨ob.slots, k b ob q⟩, fun _ _ _ n _ => n, fun b ob q _ => ⟨ob, k b ob q⟩, fun _ _ q => q, fun _ _ _ q => q, fun _ ps q => ⟨#[], by rw [q]; simp⟩⟩
theorem Un.refl : Un fs ex H H h h := Un.kept fun _ _ q => q
theorem Un.laid (k : ∀ b u, h.get? b = some u → h'.get? b = some u) (hp : h.objs.size ≤ a) (hn : H a = none) : Un fs ex H (upd H a o) h h' where
  keep := fun b u q _ _ _ => k b u q
  slot := fun b u q _ _ _ => ⟨u.slots, k b u q⟩
  free := fun b u q n _ => by rw [upd_ne (Nat.ne_of_lt (Nat.lt_of_lt_of_le (Heap.lt_size q) hp))]; exact n
  there := fun b u q _ => ⟨u, k b u q⟩
  tups := fun b xs q => by rw [upd_ne (ne_of_none q hn)]; exact q
  frzs := fun b u xs q => by rw [upd_ne (ne_of_none q hn)]; exact q
  tbls := fun b ps q => ⟨#[], by rw [upd_ne (ne_of_none q hn), q]; simp⟩
theorem Un.write (mu : Mut (H x)) (he : e = x ∨ H e = some (.own x)) (k : ∀ b u, b ≠ e → h.get? b = some u → h'.get? b = some u) (heo : ∃ u, h'.get? e = some u) : Un fs ex H (upd H x o) h h' := by
  have hx : ∀ b, H b = none → b ≠ x := fun b n z => by subst z; rw [n] at mu; exact mu
  have hb : ∀ b, H b = none → b ≠ e := fun b n z => by
    subst z
    rcases he with r | r
    · exact hx b n r
    · rw [n] at r; cases r
  have hm : ∀ b u, H b = some u → ¬ Mut (some u) → b ≠ x := fun b u q nm z => by subst z; rw [q] at mu; exact nm mu
  refine ⟨fun b u q n _ _ => k b u (hb b n) q, fun b u q n _ _ => ⟨u.slots, k b u (hb b n) q⟩, fun b u q n _ => by rw [upd_ne (hx b n)]; exact n, fun b u q _ => ?_,
    fun b xs q => by rw [upd_ne (hm b _ q fun z => z)]; exact q, fun b u xs q => by rw [upd_ne (hm b _ q fun z => z)]; exact q, fun b ps q => ⟨#[], by rw [upd_ne (hm b _ q fun z => z), q]; simp⟩⟩
  by_cases hbe : b = e
  · subst hbe; exact heo
  · exact ⟨u, k b u hbe q⟩
end
noncomputable def trk (h : Heap) (H : Hp) : List Addr := (List.range h.objs.size).filter fun a => (H a).isSome
noncomputable def hidT (h : Heap) (H : Hp) : Heap := PySem.W.hideAll h (trk h H)
theorem hidT_size (h : Heap) (H : Hp) : (hidT h H).objs.size = h.objs.size := PySem.W.hideAll_size _ _
theorem hidT_get {h : Heap} {H : Hp} {b : Addr} {o : Obj} (e : h.get? b = some o) (n : H b = none) : (hidT h H).get? b = some o :=
  PySem.W.hideAll_get _ e fun hm => by
    have q : (H b).isSome = true := (List.mem_filter.mp hm).2
    rw [n] at q; simp at q
theorem of_hidT {h : Heap} {H : Hp} {b : Addr} {o : Obj} (e : (hidT h H).get? b = some o) : h.get? b = some o ∧ H b = none := by
  have e' : h.get? b = some o := PySem.W.of_hideAll (trk h H) e
  refine ⟨e', ?_⟩
  cases q : H b with
  | none => rfl
  | some x =>
    have hm : b ∈ trk h H := List.mem_filter.mpr ⟨List.mem_range.mpr (Heap.lt_size e'), by simp [q]⟩
    have z : (hidT h H).get? b = none := PySem.W.hideAll_none (trk h H) hm
    rw [z] at e; cases e
noncomputable def allNews (g h : Heap) (L : Addr) : List (Addr × Obj) := (List.range h.objs.size).filterMap fun a => if a = L ∨ (g.get? a).isSome = true then none else (h.get? a).map fun o => (a, o)
noncomputable def rest (g h : Heap) (L d : Addr) : List (Addr × Obj) := (allNews g h L).filter fun p => decide (p.1 ≠ d)
end L2
namespace L2
open PySem PySem.Spec PyProof.Rows
structure Mod (K : PySem.W.Frag) (mg : Str → Option Value) (base : Heap) : Prop where
  kin : K.In base
  glob : base.Ns mainGlobals mg
  blt : ∃ mb, base.Ns builtinsNs mb ∧ ∀ x : Str, x ≠ "__name__" → mb x = bootBuiltins x
  nolimit : base.NoLimit
set_option genInjectivity false in
set_option genSizeOfSpec false in
structure Cx where
  prog : Program
  w : World
  K : PySem.W.Frag
  mg : Str → Option Value
  base : Heap
  A : Around
  N : List Str
  s₀ : Shared
  H₀ : Hp
  env : Env
  outer : List Env
  stack : List Env
  ex : List Addr
  fn : Str → Bool
  calm : Bool
  pn : List (Addr × Obj)
  xe : Value → Shared → Prop
noncomputable def frs (l : List Env) : List Addr := l.filterMap (·.frame)
noncomputable abbrev Cx.fs (X : Cx) : List Addr := frs X.outer
noncomputable def Vis (sc : Scope) (x : Str) : Prop := sc.names.lookup x = some .local ∨ sc.names.lookup x = some .cell ∨ sc.names.lookup x = some .free
noncomputable def Loc (sc : Scope) (x : Str) : Prop := sc.names.lookup x = some .local ∨ sc.names.lookup x = some .cell
noncomputable def Look (env : Env) (h : Heap) (m : Str → Option Value) (x : Str) (u : Value) : Prop :=
  (env.kindOf x = some .local ∧ m x = some u) ∨ ((env.kindOf x = some .cell ∨ env.kindOf x = some .free) ∧ ∃ c, env.cells.lookup x = some c ∧ h.IsCell c (some u))
set_option genInjectivity false in
set_option genSizeOfSpec false in
structure Cx.Ok (X : Cx) : Prop where
  mod : Mod X.K X.mg X.base
  kind : X.env.scope.kind = .function
  glob : X.env.globals = mainGlobals
  blt : X.env.builtins = builtinsNs
  above : X.s₀.heap.objs.size ≤ X.env.locals
  inj : ∀ x y c, X.env.cells.lookup x = some c → X.env.cells.lookup y = some c → x = y
  has : ∀ x, (X.env.kindOf x = some .cell ∨ X.env.kindOf x = some .free) → ∃ c, X.env.cells.lookup x = some c
  cab : ∀ x c, X.fn x = true → X.env.cells.lookup x = some c → X.s₀.heap.objs.size ≤ c
  hd : X.calm = true → X.A.handled = none
  frames : X.A.frames = some X.stack
  stk : X.stack = X.outer ∨ (X.stack = X.env :: X.outer ∧ X.env.frame = some X.env.locals)
  exf : ∀ b ∈ X.ex, b ≠ X.env.locals ∧ ∀ x c, X.env.cells.lookup x = some c → c ≠ b
  bs : ∀ b o, X.base.get? b = some o → X.s₀.heap.get? b = some o ∧ X.H₀ b = none
  bsz : X.base.objs.size ≤ X.s₀.heap.objs.size
  noex : ∀ b o, X.base.get? b = some o → b ∉ X.ex
  exfs : ∀ b ∈ X.ex, b ∉ X.fs
  funs : X.s₀.heap.FunFrames X.base X.outer
  frf : ∀ b ∈ X.fs, X.H₀ b = none
structure Inv (X : Cx) (pins : List (Addr × Obj)) (σ : List (Option V)) (H : Hp) (s : Shared) : Prop where
  ok : X.Ok
  os : s.os = X.s₀.os
  bare : AllBare s.gens
  base : Un X.fs X.ex X.H₀ H X.s₀.heap s.heap
  loc : ∃ m, s.heap.Ns X.env.locals m ∧ ∀ (i : Nat) (x : Str) (v : V), X.N[i]? = some x → σ[i]? = some (some v) → Vis X.env.scope x → ∃ u, RelV v u ∧ Look X.env s.heap m x u
  cell : ∀ x c, X.env.cells.lookup x = some c → ∃ v, s.heap.IsCell c v
  free : H X.env.locals = none
  freeC : ∀ x c, X.env.cells.lookup x = some c → H c = none
  pin : ∀ p ∈ X.pn ++ pins, s.heap.get? p.1 = some p.2 ∧ H p.1 = none ∧ p.1 ≠ X.env.locals ∧ p.1 ∉ X.fs ∧ ∀ v, p.2.data ≠ .cell v
  hok : HOk X.prog X.w H s.heap
  len : σ.length = X.N.length
section
variable {X : Cx} {pins : List (Addr × Obj)} {σ : List (Option V)} {H H' : Hp} {s : Shared} {h' : Heap}
theorem Cx.Ok.nofr (ok : X.Ok) {b : Addr} {o : Obj} (e : X.base.get? b = some o) : b ∉ X.fs := fun hb => by
  have := (ok.funs.mem hb).1
  rw [e] at this; cases this
theorem Inv.bs (I : Inv X pins σ H s) : ∀ b o, X.base.get? b = some o → s.heap.get? b = some o ∧ H b = none := fun b o e =>
  ⟨I.base.keep b o (I.ok.bs b o e).1 (I.ok.bs b o e).2 (I.ok.nofr e) (I.ok.noex b o e), I.base.free b o (I.ok.bs b o e).1 (I.ok.bs b o e).2 (I.ok.noex b o e)⟩
theorem Inv.bk (I : Inv X pins σ H s) : ∀ b o, X.base.get? b = some o → s.heap.get? b = some o := fun b o e => (I.bs b o e).1
theorem Inv.mod (I : Inv X pins σ H s) : Mod X.K X.mg X.base := I.ok.mod
theorem Inv.kIn (I : Inv X pins σ H s) : X.K.In s.heap := I.ok.mod.kin.keeps I.bk
theorem Inv.nolimit (I : Inv X pins σ H s) : s.heap.NoLimit := I.ok.mod.nolimit.keeps I.bk
theorem Inv.fr (I : Inv X pins σ H s) : ∃ m, Fr X.base X.env.locals s.heap m :=
  let ⟨m, hn, _⟩ := I.loc
  ⟨m, hn, I.bk, Nat.le_trans I.ok.bsz I.ok.above⟩
theorem Inv.lt (I : Inv X pins σ H s) : X.env.locals < s.heap.objs.size := let ⟨_, hn, _⟩ := I.loc; hn.lt
theorem Inv.sz (I : Inv X pins σ H s) : X.s₀.heap.objs.size ≤ s.heap.objs.size := Nat.le_trans I.ok.above (Nat.le_of_lt I.lt)
theorem Inv.nofs (I : Inv X pins σ H s) {a : Addr} (h : s.heap.objs.size ≤ a) : a ∉ X.fs := fun hb => by
  obtain ⟨_, o, ho, _⟩ := I.ok.funs.mem hb
  exact absurd (Nat.lt_of_lt_of_le (Heap.lt_size ho) (Nat.le_trans I.sz h)) (Nat.lt_irrefl _)
theorem Inv.cne (I : Inv X pins σ H s) : ∀ x c, X.env.cells.lookup x = some c → c ≠ X.env.locals := fun x c e z => by
  obtain ⟨v, o, ho, hd⟩ := I.cell x c e
  obtain ⟨m, ⟨o', es, ep, ho', hd', _⟩, _⟩ := I.loc
  rw [z, ho'] at ho; cases ho; rw [hd'] at hd; cases hd
theorem Inv.funs (I : Inv X pins σ H s) : s.heap.FunFrames X.base X.outer := by
  have all : ∀ (l : List Env), (∀ b ∈ frs l, b ∈ X.fs) → X.s₀.heap.FunFrames X.base l → s.heap.FunFrames X.base l := by
    intro l
    induction l with
    | nil => intro _ _; trivial
    | cons env r ih =>
      intro hs hl
      obtain ⟨hk, ⟨L, o, hf, hn, ho, hd⟩, hr⟩ := hl
      have hL : L ∈ X.fs := hs L (by unfold frs; rw [List.filterMap_cons, hf]; exact List.mem_cons_self)
      obtain ⟨sl, e⟩ := I.base.slot L o ho (I.ok.frf L hL) hL fun z => I.ok.exfs L z hL
      exact ⟨hk, ⟨L, _, hf, hn, e, hd⟩, ih (fun b hb => hs b (by unfold frs; rw [List.filterMap_cons, hf]; exact List.mem_cons_of_mem _ hb)) hr⟩
  exact all X.outer (fun _ hb => hb) I.ok.funs
theorem Inv.stack (I : Inv X pins σ H s) : s.heap.FunFrames X.base X.stack := by
  rcases I.ok.stk with e | ⟨e, hf⟩
  · rw [e]; exact I.funs
  · rw [e]
    obtain ⟨m, hn, _⟩ := I.loc
    refine .cons (by rw [I.ok.kind]; decide) hf hn ?_ I.funs
    exact Heap.get?_none_of_le (Nat.le_trans I.ok.bsz I.ok.above)
theorem Inv.stkSub (I : Inv X pins σ H s) : ∀ b ∈ frs X.stack, b ∈ X.env.locals :: X.fs := fun b hb => by
  rcases I.ok.stk with e | ⟨e, hf⟩
  · rw [e] at hb; exact List.mem_cons_of_mem _ hb
  · rw [e] at hb
    unfold frs at hb
    rw [List.filterMap_cons, hf] at hb
    exact hb
theorem Inv.stkFree (I : Inv X pins σ H s) : ∀ b ∈ frs X.stack, H b = none := fun b hb => by
  rcases List.mem_cons.mp (I.stkSub b hb) with e | hb
  · rw [e]; exact I.free
  · obtain ⟨_, o, ho, _⟩ := I.ok.funs.mem hb
    exact I.base.free b o ho (I.ok.frf b hb) fun z => I.ok.exfs b z hb
theorem Inv.step {g' : Array GenState} {t' : Nat} {d' : Drawn} {ch : List Addr} (I : Inv X pins σ H s)
    (hch : ∀ b ∈ ch, (b ∈ X.ex ∨ X.s₀.heap.objs.size ≤ b) ∧ b ≠ X.env.locals ∧ (∀ x c, X.env.cells.lookup x = some c → c ≠ b) ∧ ∀ p ∈ X.pn ++ pins, p.1 ≠ b)
    (keep : ∀ b o, b ≠ X.env.locals → b ∉ X.fs → b ∉ ch → s.heap.get? b = some o → H b = none → h'.get? b = some o)
    (slot : ∀ b o, b ≠ X.env.locals → b ∈ X.fs → b ∉ ch → s.heap.get? b = some o → H b = none → ∃ sl, h'.get? b = some { o with slots := sl }) (free : ∀ b o, b ∉ ch → s.heap.get? b = some o → H b = none → H' b = none)
    (there : ∀ b o, b ∉ ch → s.heap.get? b = some o → ∃ o', h'.get? b = some o')
    (tups : ∀ b xs, H b = some (.tup xs) → H' b = some (.tup xs)) (frzs : ∀ b o u, H b = some (.frz o u) → H' b = some (.frz o u)) (tbls : ∀ b ps, H b = some (.tbl ps) → ∃ more, H' b = some (.tbl (ps ++ more)))
    (ns : ∀ m, s.heap.Ns X.env.locals m → h'.Ns X.env.locals m) (hok : HOk X.prog X.w H' h') (hg : AllBare g') :
    Inv X pins σ H' { s with heap := h', gens := g', drawn := d', toks := t' } := by
  have neL : ∀ b o, X.s₀.heap.get? b = some o → b ≠ X.env.locals := fun b o e => Nat.ne_of_lt (Nat.lt_of_lt_of_le (Heap.lt_size e) I.ok.above)
  have neC : ∀ b o, X.s₀.heap.get? b = some o → b ∉ X.ex → b ∉ ch := fun b o e hx hb => by
    rcases (hch b hb).1 with z | z
    · exact hx z
    · exact absurd (Nat.lt_of_lt_of_le (Heap.lt_size e) z) (Nat.lt_irrefl _)
  have cellK : ∀ x c, X.env.cells.lookup x = some c → ∀ v, s.heap.IsCell c v → h'.IsCell c v := fun x c e v ⟨o, ho, hd⟩ => by
    have nch : c ∉ ch := fun z => (hch c z).2.2.1 x c e rfl
    by_cases hc : c ∈ X.fs
    · obtain ⟨sl, q⟩ := slot c o (I.cne x c e) hc nch ho (I.freeC x c e)
      exact ⟨_, q, hd⟩
    · exact ⟨o, keep c o (I.cne x c e) hc nch ho (I.freeC x c e), hd⟩
  refine ⟨I.ok, I.os, hg, ⟨fun b o e n hb hx => ?_, fun b o e n hb hx => ?_, fun b o e n hx => ?_, fun b o e hx => ?_, fun b xs e => tups b xs (I.base.tups b xs e), fun b o xs e => frzs b o xs (I.base.frzs b o xs e), fun b ps e => ?_⟩, ?_, fun x c e => ?_, ?_, fun x c e => ?_, fun p hp => ?_, hok, I.len⟩
  · exact keep b o (neL b o e) hb (neC b o e hx) (I.base.keep b o e n hb hx) (I.base.free b o e n hx)
  · obtain ⟨sl, e1⟩ := I.base.slot b o e n hb hx
    obtain ⟨sl', e2⟩ := slot b _ (neL b o e) hb (neC b o e hx) e1 (I.base.free b o e n hx)
    exact ⟨sl', e2⟩
  · obtain ⟨o', e1⟩ := I.base.there b o e hx
    exact free b o' (neC b o e hx) e1 (I.base.free b o e n hx)
  · obtain ⟨o', e1⟩ := I.base.there b o e hx
    exact there b o' (neC b o e hx) e1
  · obtain ⟨m1, e1⟩ := I.base.tbls b ps e
    obtain ⟨m2, e2⟩ := tbls b _ e1
    exact ⟨m1 ++ m2, by rw [e2, Array.append_assoc]⟩
  · obtain ⟨m, hn, hl⟩ := I.loc
    refine ⟨m, ns m hn, fun i x v e1 e2 e3 => ?_⟩
    obtain ⟨u, r, l⟩ := hl i x v e1 e2 e3
    refine ⟨u, r, ?_⟩
    rcases l with l | ⟨k, c, e, z⟩
    · exact .inl l
    · exact .inr ⟨k, c, e, cellK x c e _ z⟩
  · obtain ⟨v, z⟩ := I.cell x c e
    exact ⟨v, cellK x c e v z⟩
  · obtain ⟨m, ⟨o, _, _, ho, _⟩, _⟩ := I.loc
    exact free _ o (fun z => (hch _ z).2.1 rfl) ho I.free
  · obtain ⟨v, o, ho, hd⟩ := I.cell x c e
    exact free c o (fun z => (hch c z).2.2.1 x c e rfl) ho (I.freeC x c e)
  · obtain ⟨e, n, ne, nf, d⟩ := I.pin p hp
    have nch : p.1 ∉ ch := fun z => (hch p.1 z).2.2.2 p hp rfl
    exact ⟨keep p.1 p.2 ne nf nch e n, free p.1 p.2 nch e n, ne, nf, d⟩
theorem Inv.un {t' : Nat} (I : Inv X pins σ H s) (u : Un X.fs [] H H' s.heap h') (hok : HOk X.prog X.w H' h') : Inv X pins σ H' { s with heap := h', toks := t' } := by
  obtain ⟨m, ⟨o, es, ep, ho, r⟩, _⟩ := id I.loc
  obtain ⟨sl, hL⟩ := u.any ho I.free (by simp)
  exact I.step (g' := s.gens) (d' := s.drawn) (ch := []) (fun _ z => nomatch z) (fun b o _ hb _ e n => u.keep b o e n hb (by simp)) (fun b o _ hb _ e n => u.slot b o e n hb (by simp)) (fun b o _ e n => u.free b o e n (by simp)) (fun b o _ e => u.there b o e (by simp)) u.tups u.frzs u.tbls (fun m' hm => by
    obtain ⟨o', es', ep', ho', r'⟩ := hm
    rw [ho] at ho'; cases ho'
    exact ⟨_, es', ep', hL, r'⟩) hok I.bare
theorem Inv.call {g' : Array GenState} {t' : Nat} {d' : Drawn} {ch : List Addr} (I : Inv X pins σ H s) (u : Un (frs X.stack) ch H H' s.heap h') (hok : HOk X.prog X.w H' h') (hg : AllBare g')
    (hch : ∀ b ∈ ch, (b ∈ X.ex ∨ X.s₀.heap.objs.size ≤ b) ∧ b ≠ X.env.locals ∧ (∀ x c, X.env.cells.lookup x = some c → c ≠ b) ∧ ∀ p ∈ X.pn ++ pins, p.1 ≠ b) :
    Inv X pins σ H' { s with heap := h', gens := g', drawn := d', toks := t' } := by
  obtain ⟨m, ⟨o, es, ep, ho, r⟩, _⟩ := id I.loc
  obtain ⟨sl, hL⟩ := u.any ho I.free fun z => (hch _ z).2.1 rfl
  exact I.step (ch := ch) hch (fun b o hL hb hc e n => u.keep b o e n (fun z => (List.mem_cons.mp (I.stkSub b z)).elim hL hb) hc) (fun b o _ _ hc e n => u.any e n hc) (fun b o hc e n => u.free b o e n hc) (fun b o hc e => u.there b o e hc) u.tups u.frzs u.tbls (fun m' hm => by
    obtain ⟨o', es', ep', ho', r'⟩ := hm
    rw [ho] at ho'; cases ho'
    exact ⟨_, es', ep', hL, r'⟩) hok hg
theorem Inv.turned {t' : Nat} {it : Addr} (I : Inv X pins σ H s) (k : ∀ b o, b ≠ it → s.heap.get? b = some o → h'.get? b = some o) (hn : H it = none) (hL : it ≠ X.env.locals)
    (h1 : it ∈ X.ex ∨ X.s₀.heap.objs.size ≤ it) (h2 : ∀ x c, X.env.cells.lookup x = some c → c ≠ it) (h3 : ∀ p ∈ X.pn ++ pins, p.1 ≠ it) : Inv X pins σ H { s with heap := h', toks := t' } := by
  have nit : ∀ b u, H b = some u → b ≠ it := fun b u e z => by rw [z, hn] at e; cases e
  refine I.step (g' := s.gens) (d' := s.drawn) (ch := [it]) (fun b hb => ?_) (fun b o _ _ hc e _ => k b o (fun z => hc (by simp [z])) e) (fun b o _ _ hc e _ => ⟨o.slots, k b o (fun z => hc (by simp [z])) e⟩) (fun _ _ _ _ n => n)
    (fun b o hc e => ⟨o, k b o (fun z => hc (by simp [z])) e⟩) (fun _ _ e => e) (fun _ _ _ e => e) (fun b ps e => ⟨#[], by rw [e]; simp⟩) (fun m hm => ?_) (fun b u e => ?_) I.bare
  · have e : b = it := by simpa using hb
    subst e
    exact ⟨h1, hL, h2, h3⟩
  · obtain ⟨o, es, ep, ho, r⟩ := hm
    exact ⟨o, es, ep, k _ o (Ne.symm hL) ho, r⟩
  · refine (I.hok b u e).stay (fun c v hc q => k c v ?_ q) (fun _ q => q) fun _ _ q => q
    rcases hc with z | z
    · rw [z]; exact nit b u e
    · exact nit c _ z
theorem Inv.tok (I : Inv X pins σ H s) (t : Nat) : Inv X pins σ H { s with toks := t } := I.un (h' := s.heap) (t' := t) Un.refl I.hok
theorem Inv.kept {t' : Nat} (I : Inv X pins σ H s) (k : ∀ b u, s.heap.get? b = some u → h'.get? b = some u) : Inv X pins σ H { s with heap := h', toks := t' } := I.un (Un.kept k) (I.hok.kept k)
theorem Inv.laid {a : Addr} {o : HO} {t' : Nat} (I : Inv X pins σ H s) (k : ∀ b u, s.heap.get? b = some u → h'.get? b = some u) (hp : s.heap.objs.size ≤ a) (new : ObjOk X.prog X.w (upd H a o) h' a o) :
    Inv X pins σ (upd H a o) { s with heap := h', toks := t' } := I.un (Un.laid k hp (I.hok.fresh hp)) (I.hok.laid k hp new)
theorem Inv.write {x e : Addr} {o : HO} {t' : Nat} (I : Inv X pins σ H s) (mu : Mut (H x)) (he : e = x ∨ H e = some (.own x)) (k : ∀ b u, b ≠ e → s.heap.get? b = some u → h'.get? b = some u) (heo : ∃ u, h'.get? e = some u)
    (new : ObjOk X.prog X.w (upd H x o) h' x o) : Inv X pins σ (upd H x o) { s with heap := h', toks := t' } := I.un (Un.write mu he k heo) (I.hok.write mu he k heo new)
theorem Inv.pins_of {pins' : List (Addr × Obj)} (I : Inv X pins σ H s) (h : ∀ p ∈ pins', s.heap.get? p.1 = some p.2 ∧ H p.1 = none ∧ p.1 ≠ X.env.locals ∧ p.1 ∉ X.fs ∧ ∀ v, p.2.data ≠ .cell v) : Inv X pins' σ H s :=
  ⟨I.ok, I.os, I.bare, I.base, I.loc, I.cell, I.free, I.freeC, fun p hp => (List.mem_append.mp hp).elim (fun z => I.pin p (List.mem_append_left _ z)) (h p), I.hok, I.len⟩
theorem nodup_ix {N : List Str} (hN : N.Nodup) {i j : Nat} {x : Str} (a : N[i]? = some x) (b : N[j]? = some x) : i = j := by
  obtain ⟨h1, e1⟩ := List.getElem?_eq_some_iff.mp a
  obtain ⟨h2, e2⟩ := List.getElem?_eq_some_iff.mp b
  exact (List.getElem_inj hN).mp (e1.trans e2.symm)
theorem store_ok2 {M : Model} {A : Around} {E : Value → Shared → Prop} {i : Nat} {x : Str} {v : V} {u : Value} {Q : Unit → Shared → Prop} (I : Inv X pins σ H s) (hN : X.N.Nodup) (hi : X.N[i]? = some x) (hx : Loc X.env.scope x) (r : RelV v u)
    (h : ∀ s', Inv X pins (σ.set i (some v)) H s' → (∃ a, Heap.SameBut a s.heap s'.heap ∧ (a = X.env.locals ∨ X.env.cells.lookup x = some a)) → Q () s') (hf : X.fn x = true ∨ X.env.scope.names.lookup x = some .local := by first | exact .inl rfl | exact .inr rfl | assumption) : wpAny M A (storeName X.env x u) Q E s := by
  obtain ⟨m, hn, hl⟩ := id I.loc
  have hcls : (X.env.scope.kind == .class || (X.env.scope.kind == .module && X.env.locals != X.env.globals)) = false := by rw [I.ok.kind]; rfl
  have hiσ : i < σ.length := by rw [I.len]; exact (List.getElem?_eq_some_iff.mp hi).1
  have cne := I.cne
  have tracked : ∀ {a : Addr} {h' : Heap}, (∃ o, s.heap.get? a = some o ∧ H a = none) → Heap.SameBut a s.heap h' → HOk X.prog X.w H h' := fun {a h'} ha hs b ob e => by
    obtain ⟨_, _, hfree⟩ := ha
    refine (I.hok b ob e).stay (fun c w' hc q => (hs.2 c ?_).trans q) (fun _ q => q) fun _ _ q => q
    rintro rfl
    rcases hc with rfl | hc
    · rw [hfree] at e; cases e
    · rw [hfree] at hc; cases hc
  rcases hx with hk | hk
  · refine wpAny_storeName_local hk hn (fun h' hn' hs => ?_) hcls
    obtain ⟨oL, _, _, hoL, _⟩ := id hn
    refine h _ ⟨I.ok, I.os, I.bare, ⟨fun b o e n hb hx => ?_, fun b o e n hb hx => ?_, I.base.free, fun b o e hx => ?_, I.base.tups, I.base.frzs, I.base.tbls⟩, ⟨_, hn', fun j y v' e1 e2 e3 => ?_⟩, fun y c e => ?_, I.free, I.freeC, fun p hp => ?_, tracked ⟨oL, hoL, I.free⟩ hs, by simpa using I.len⟩ ⟨_, hs, .inl rfl⟩
    · exact (hs.2 b (Nat.ne_of_lt (Nat.lt_of_lt_of_le (Heap.lt_size e) I.ok.above))).trans (I.base.keep b o e n hb hx)
    · obtain ⟨sl, e1⟩ := I.base.slot b o e n hb hx
      exact ⟨sl, (hs.2 b (Nat.ne_of_lt (Nat.lt_of_lt_of_le (Heap.lt_size e) I.ok.above))).trans e1⟩
    · obtain ⟨o', e1⟩ := I.base.there b o e hx
      exact ⟨o', (hs.2 b (Nat.ne_of_lt (Nat.lt_of_lt_of_le (Heap.lt_size e) I.ok.above))).trans e1⟩
    · by_cases hj : j = i
      · subst hj
        rw [hi] at e1; cases e1
        rw [List.getElem?_set_self hiσ] at e2
        cases e2
        exact ⟨u, r, .inl ⟨hk, by simp⟩⟩
      · rw [List.getElem?_set_ne (Ne.symm hj)] at e2
        obtain ⟨u', r', q⟩ := hl j y v' e1 e2 e3
        refine ⟨u', r', ?_⟩
        rcases q with ⟨k, e⟩ | ⟨k, c, e, z⟩
        · refine .inl ⟨k, ?_⟩
          have : y ≠ x := fun e => hj (nodup_ix hN e1 (e ▸ hi))
          simp [this, e]
        · exact .inr ⟨k, c, e, z.sameBut hs (cne y c e)⟩
    · obtain ⟨w', z⟩ := I.cell y c e
      exact ⟨w', z.sameBut hs (cne y c e)⟩
    · obtain ⟨e, n, ne, nf, d⟩ := I.pin p hp
      exact ⟨(hs.2 p.1 ne).trans e, n, ne, nf, d⟩
  · have hfn : X.fn x = true := by
      rcases hf with z | z
      · exact z
      · rw [z] at hk; cases hk
    obtain ⟨c, hc⟩ := I.ok.has x (.inl hk)
    obtain ⟨w', z⟩ := I.cell x c hc
    refine wpAny_storeName_cell I.ok.kind hk hc z (fun h' hc' hs => ?_)
    obtain ⟨oc, hoc, hocd⟩ := id z
    refine h { s with heap := h' } ⟨I.ok, I.os, I.bare, ⟨fun b o e n hb hx => ?_, fun b o e n hb hx => ?_, I.base.free, fun b o e hx => ?_, I.base.tups, I.base.frzs, I.base.tbls⟩, ⟨m, hn.sameBut hs (Ne.symm (cne x c hc)), fun j y v' e1 e2 e3 => ?_⟩, fun y c' e => ?_, I.free, I.freeC, fun p hp => ?_, tracked ⟨oc, hoc, I.freeC x c hc⟩ hs, by simpa using I.len⟩ ⟨c, hs, .inr hc⟩
    · exact (hs.2 b (Nat.ne_of_lt (Nat.lt_of_lt_of_le (Heap.lt_size e) (I.ok.cab x c hfn hc)))).trans (I.base.keep b o e n hb hx)
    · obtain ⟨sl, e1⟩ := I.base.slot b o e n hb hx
      exact ⟨sl, (hs.2 b (Nat.ne_of_lt (Nat.lt_of_lt_of_le (Heap.lt_size e) (I.ok.cab x c hfn hc)))).trans e1⟩
    · obtain ⟨o', e1⟩ := I.base.there b o e hx
      exact ⟨o', (hs.2 b (Nat.ne_of_lt (Nat.lt_of_lt_of_le (Heap.lt_size e) (I.ok.cab x c hfn hc)))).trans e1⟩
    · by_cases hj : j = i
      · subst hj
        rw [hi] at e1; cases e1
        rw [List.getElem?_set_self hiσ] at e2
        cases e2
        exact ⟨u, r, .inr ⟨.inl hk, c, hc, hc'⟩⟩
      · rw [List.getElem?_set_ne (Ne.symm hj)] at e2
        obtain ⟨u', r', q⟩ := hl j y v' e1 e2 e3
        refine ⟨u', r', ?_⟩
        rcases q with q | ⟨k, c', e, z'⟩
        · exact .inl q
        · refine .inr ⟨k, c', e, z'.sameBut hs ?_⟩
          rintro rfl
          exact hj (nodup_ix hN e1 (I.ok.inj _ _ _ e hc ▸ hi))
    · by_cases hcc : c' = c
      · subst hcc; exact ⟨_, hc'⟩
      · obtain ⟨w2, z2⟩ := I.cell y c' e
        exact ⟨w2, z2.sameBut hs hcc⟩
    · obtain ⟨e, n, ne, nf, d⟩ := I.pin p hp
      refine ⟨(hs.2 p.1 ?_).trans e, n, ne, nf, d⟩
      intro q
      rw [q, hoc] at e
      have q' : oc = p.2 := Option.some.inj e
      exact d w' (by rw [← q']; exact hocd)
theorem store_ok {M : Model} {A : Around} {E : Value → Shared → Prop} {i : Nat} {x : Str} {v : V} {u : Value} {Q : Unit → Shared → Prop} (I : Inv X pins σ H s) (hN : X.N.Nodup) (hi : X.N[i]? = some x) (hx : Loc X.env.scope x) (r : RelV v u)
    (h : ∀ s', Inv X pins (σ.set i (some v)) H s' → Q () s') (hf : X.fn x = true ∨ X.env.scope.names.lookup x = some .local := by first | exact .inl rfl | exact .inr rfl | assumption) : wpAny M A (storeName X.env x u) Q E s :=
  store_ok2 I hN hi hx r (fun s' I' _ => h s' I') hf
theorem Inv.call' {s' : Shared} {ch : List Addr} (I : Inv X pins σ H s) (ho : s'.os = s.os) (u : Un (frs X.stack) ch H H' s.heap s'.heap) (hok : HOk X.prog X.w H' s'.heap) (hg : AllBare s'.gens)
    (hch : ∀ b ∈ ch, (b ∈ X.ex ∨ X.s₀.heap.objs.size ≤ b) ∧ b ≠ X.env.locals ∧ (∀ x c, X.env.cells.lookup x = some c → c ≠ b) ∧ ∀ p ∈ X.pn ++ pins, p.1 ≠ b) : Inv X pins σ H' s' := by
  obtain ⟨h', g', d', t', o'⟩ := s'
  have e : o' = s.os := ho
  subst e
  exact I.call (g' := g') (t' := t') (d' := d') u hok hg hch
end
noncomputable abbrev XK := Value → Option Addr → Hp → Prop
noncomputable abbrev St := List (Option V)
noncomputable abbrev VK := V → Hp → Prop
noncomputable abbrev TE := St → Hp → VK → Prop
noncomputable abbrev TT := St → Hp → (Bool → Hp → Prop) → Prop
noncomputable abbrev TA := St → Hp → (List V → Hp → Prop) → Prop
structure Ends where
  nx : St → Hp → Prop
  rt : VK
  bk : St → Hp → Prop := fun _ _ => False
  ct : St → Hp → Prop := fun _ _ => False
noncomputable abbrev TS := Ends → St → Hp → Prop
noncomputable def EP (X : Cx) (pins : List (Addr × Obj)) (σ : St) (Q : VK) (u : Value) (s' : Shared) : Prop := ∃ v H', Inv X pins σ H' s' ∧ RelV v u ∧ Q v H'
noncomputable def TP (X : Cx) (pins : List (Addr × Obj)) (σ : St) (Q : Bool → Hp → Prop) (b : Bool) (s' : Shared) : Prop := ∃ H', Inv X pins σ H' s' ∧ Q b H'
noncomputable def AP (X : Cx) (pins : List (Addr × Obj)) (σ : St) (Q : List V → Hp → Prop) (us : List Value) (s' : Shared) : Prop := ∃ vs H', Inv X pins σ H' s' ∧ Vals vs us ∧ Q vs H'
noncomputable def SP (X : Cx) (pins : List (Addr × Obj)) (D : Ends) (f : Flow) (s' : Shared) : Prop :=
  match f with
  | .next => ∃ σ' H', Inv X pins σ' H' s' ∧ D.nx σ' H'
  | .brk => ∃ σ' H', Inv X pins σ' H' s' ∧ D.bk σ' H'
  | .cont => ∃ σ' H', Inv X pins σ' H' s' ∧ D.ct σ' H'
  | .ret u => ∃ v σ' H', Inv X pins σ' H' s' ∧ RelV v u ∧ D.rt v H'
noncomputable def PE (X : Cx) (e : Expr) (t : TE) : Prop :=
  ∀ (pins : List (Addr × Obj)) (s : Shared) (σ : St) (H : Hp) (Q : VK), Inv X pins σ H s → t σ H Q → wpAny (model X.prog X.w) X.A (eval e X.env) (EP X pins σ Q) X.xe s
noncomputable def PT (X : Cx) (e : Expr) (t : TT) : Prop :=
  ∀ (pins : List (Addr × Obj)) (s : Shared) (σ : St) (H : Hp) (Q : Bool → Hp → Prop), Inv X pins σ H s → t σ H Q → wpAny (model X.prog X.w) X.A (isTrue e X.env (eval e X.env)) (TP X pins σ Q) X.xe s
noncomputable def PW (X : Cx) (e : Expr) (t : TT) : Prop :=
  ∀ (whole : Sem Value) (pins : List (Addr × Obj)) (s : Shared) (σ : St) (H : Hp) (Q : Bool → Hp → Prop), Inv X pins σ H s → t σ H Q → wpAny (model X.prog X.w) X.A (isTrue e X.env whole) (TP X pins σ Q) X.xe s
theorem PW.pt {X : Cx} {e : Expr} {t : TT} (h : PW X e t) : PT X e t := h _
noncomputable def PA (X : Cx) (es : List Expr) (t : TA) : Prop :=
  ∀ (pos : Pos) (pins : List (Addr × Obj)) (s : Shared) (σ : St) (H : Hp) (Q : List V → Hp → Prop), Inv X pins σ H s → t σ H Q → wpAny (model X.prog X.w) X.A (spliced (backTo pos (starEach es X.env))) (AP X pins σ Q) X.xe s
noncomputable def PS (X : Cx) (st : Stmt) (t : TS) : Prop :=
  ∀ (pins : List (Addr × Obj)) (s : Shared) (σ : St) (H : Hp) (D : Ends), Inv X pins σ H s → t D σ H → wpAny (model X.prog X.w) X.A (exec st X.env) (SP X pins D) X.xe s
noncomputable def PSs (X : Cx) (st : List Stmt) (t : TS) : Prop :=
  ∀ (pins : List (Addr × Obj)) (s : Shared) (σ : St) (H : Hp) (D : Ends), Inv X pins σ H s → t D σ H → wpAny (model X.prog X.w) X.A (execs st X.env) (SP X pins D) X.xe s
theorem thn {α : Type} {t : Sem α} {Q Q' : α → Shared → Prop} {M : Model} {A : Around} {E : Value → Shared → Prop} {s : Shared} (h : wpAny M A t Q E s) (hQ : ∀ a s, Q a s → Q' a s) : wpAny M A t Q' E s := wpAny_mono h hQ fun _ _ x => x
end L2
namespace L2
open PySem PySem.Spec PyProof.Rows
section
variable {X : Cx}
noncomputable def tVar (i : Nat) : TE := fun σ H Q => ∃ v, σ[i]? = some (some v) ∧ Q v H
noncomputable def tC (v : V) : TE := fun _ H Q => Q v H
theorem pe_var {i : Nat} {x : Str} {pos : Pos} (hN : X.N[i]? = some x) (hv : Vis X.env.scope x) (hd : (x == ("__debug__" : Str)) = false := by decide) (hcd : (x == ("__classdict__" : Str)) = false := by decide) : PE X (.Name x pos) (tVar i) := by
  intro pins s σ H Q I h
  obtain ⟨v, e, h⟩ := h
  obtain ⟨m, hn, hl⟩ := I.loc
  obtain ⟨u, r, l⟩ := hl i x v hN e hv
  have fin : EP X pins σ Q u s := ⟨v, H, I, r, h⟩
  rcases l with ⟨hk, hm⟩ | ⟨hk, c, hc, hcell⟩
  · exact wpAny_Name (wpAny_loadName_local I.ok.kind hk hn hm fin) hd
  · rcases hk with hk | hk
    · exact wpAny_Name (wpAny_loadName_cell I.ok.kind hk hc hcell fin) hd
    · exact wpAny_Name (wpAny_loadName_free I.ok.kind hk hc hcell fin hcd) hd
theorem pe_int {i j pos} : PE X (.Constant (.int i) j pos) (tC (.int i)) := fun _ _ _ H _ I h => wpAny_Constant_int ⟨.int i, H, I.tok _, ⟨_, rfl⟩, h⟩
theorem pe_bl {b j pos} : PE X (.Constant (.bool b) j pos) (tC (.bl b)) := fun _ _ _ H _ I h => Constant_bool ⟨.bl b, H, I, rfl, h⟩
theorem pe_str {x j pos} : PE X (.Constant (.str x) j pos) (tC (.str x)) := fun _ _ _ H _ I h => Calls.Constant_str ⟨.str x, H, I.tok _, ⟨_, rfl⟩, h⟩
noncomputable def Gl (X : Cx) (x : Str) : Prop := X.env.kindOf x = some .globalImplicit
theorem ld_glob {E : Value → Shared → Prop} {pins : List (Addr × Obj)} {s : Shared} {σ : St} {H : Hp} {x : Str} {u : Value} {pos : Pos} {Q : Value → Shared → Prop} (I : Inv X pins σ H s) (hg : Gl X x) (hm : X.mg x = some u) (h : Q u s)
    (hd : (x == ("__debug__" : Str)) = false := by decide) : wpAny (model X.prog X.w) X.A (eval (.Name x pos) X.env) Q E s :=
  Calls.Name_function_global I.ok.kind hg (Calls.loadGlobal_global (by rw [I.ok.glob]; exact I.mod.glob.keeps I.bk) hm h) hd
theorem ld_blt {E : Value → Shared → Prop} {pins : List (Addr × Obj)} {s : Shared} {σ : St} {H : Hp} {x : Str} {u : Value} {pos : Pos} {Q : Value → Shared → Prop} (I : Inv X pins σ H s) (hg : Gl X x) (hm : X.mg x = none) (hv : bootBuiltins x = some u) (h : Q u s)
    (hn : x ≠ "__name__" := by decide) (hd : (x == ("__debug__" : Str)) = false := by decide) : wpAny (model X.prog X.w) X.A (eval (.Name x pos) X.env) Q E s := by
  obtain ⟨mb, h1, h2⟩ := I.mod.blt
  exact Calls.Name_function_global I.ok.kind hg (Calls.loadGlobal_builtin (by rw [I.ok.glob]; exact I.mod.glob.keeps I.bk) hm (by rw [I.ok.blt]; exact h1.keeps I.bk) ((h2 x hn).trans hv) h) hd
theorem pe_bltn {x : Str} {v : V} {u : Value} {pos : Pos} (hg : Gl X x) (hm : X.mg x = none) (hv : bootBuiltins x = some u) (r : RelV v u) (hn : x ≠ "__name__" := by decide) (hd : (x == ("__debug__" : Str)) = false := by decide) : PE X (.Name x pos) (tC v) :=
  fun _ _ _ H _ I h => ld_blt I hg hm hv ⟨v, H, I, r, h⟩ hn hd
variable {a b : Expr} {ta tb : TE} {pos : Pos}
noncomputable def tB (t : TE) : TT := fun σ H Q => t σ H fun x H1 => ∃ c, x = .bl c ∧ Q c H1
theorem pt_val {e : Expr} {t : TE} (h : PE X e t) (he : ∀ whole, isTrue e X.env whole = (do let v ← whole; standAt e.pos; holding [v] (truthy v)) := by intro _; rfl) : PT X e (tB t) := by
  intro pins s σ H Q I hw
  refine isTrue_plain (thn (h pins s σ H _ I hw) fun v s1 ⟨x, H1, I1, r1, q1⟩ => ?_) (he _)
  obtain ⟨d, rfl, q⟩ := q1
  cases r1
  exact wpAny_truthy_bool ⟨H1, I1, q⟩
variable {tA tB' : TT} {rest : List Expr}
noncomputable def tOr (t u : TT) : TT := fun σ H Q => t σ H fun c H1 => if c = true then Q true H1 else u σ H1 Q
noncomputable def tNot (t : TT) : TT := fun σ H Q => t σ H fun c H1 => Q (!c) H1
theorem pw_or1 (ha : PT X a tA) : PW X (.BoolOp .Or [a] pos) tA := by
  intro wh pins s σ H Q I h
  refine isTrue_or (thn (ha pins s σ H Q I h) fun c s1 e => ?_)
  cases c with
  | false => exact isTrue_or_nil e
  | true => exact e
theorem pw_or (ha : PT X a tA) (hb : PW X (.BoolOp .Or (b :: rest) pos) tB') : PW X (.BoolOp .Or (a :: b :: rest) pos) (tOr tA tB') := by
  intro wh pins s σ H Q I h
  refine isTrue_or (thn (ha pins s σ H _ I h) fun c s1 ⟨H1, I1, q1⟩ => ?_)
  cases c with
  | true => exact ⟨H1, I1, q1⟩
  | false => exact hb wh pins s1 σ H1 Q I1 q1
theorem pt_not (ha : PT X a tA) : PT X (.UnaryOp .Not a pos) (tNot tA) := by
  intro pins s σ H Q I h
  exact isTrue_not (ha pins s σ H (fun c H1 => Q (!c) H1) I h)
noncomputable def tNotV (ta : TE) : TE := fun σ H Q => ta σ H fun x H1 => ∃ c, x = .bl c ∧ Q (.bl (!c)) H1
theorem pe_not (ha : PE X a ta) : PE X (.UnaryOp .Not a pos) (tNotV ta) := by
  intro pins s σ H Q I h
  refine UnaryOp_ (thn (ha pins s σ H _ I h) fun v s1 ⟨x, H1, I1, r1, q1⟩ => ?_)
  obtain ⟨c, rfl, q1⟩ := q1
  cases r1
  exact not_of (wpAny_truthy_bool ⟨.bl (!c), H1, I1, rfl, q1⟩)
noncomputable def tIf (t : TT) (ta tb : TE) : TE := fun σ H Q => t σ H fun c H1 => if c = true then ta σ H1 Q else tb σ H1 Q
theorem pe_ifExp {c : Expr} (hc : PT X c tA) (ha : PE X a ta) (hb : PE X b tb) : PE X (.IfExp c a b pos) (tIf tA ta tb) := by
  intro pins s σ H Q I h
  refine wpAny_IfExp (thn (hc pins s σ H _ I h) fun d s1 ⟨H1, I1, q1⟩ => ?_)
  cases d with
  | true => exact ha pins s1 σ H1 Q I1 q1
  | false => exact hb pins s1 σ H1 Q I1 q1
end
end L2
namespace L2
open PySem PySem.Spec PyProof.Rows
noncomputable def SqL (K : PySem.W.Frag) (H : Hp) (a : Addr) (xs : List V) : Prop :=
  Rd H a (.lst xs) ∨
    ∃ (o : Obj) (its : Array Value) (n : Nat), K.lookup a = some o ∧ o.cls = .type "list" ∧ o.dict = none ∧ o.data = .seq its n ∧ its.size ≤ sizeLine ∧ Vals xs its.toList
noncomputable def SqT (K : PySem.W.Frag) (H : Hp) (a : Addr) (xs : List V) : Prop :=
  Rd H a (.tup xs) ∨
    ∃ (o : Obj) (its : Array Value) (n : Nat), K.lookup a = some o ∧ o.cls = .type "tuple" ∧ o.data = .seq its n ∧ its.size ≤ sizeLine ∧ Vals xs its.toList
noncomputable def absV : Value → Option V
  | .none => some .non
  | .bool b => some (.bl b)
  | .int i _ => some (.int i)
  | .str x _ => some (.str x)
  | .bytes b _ => some (.byt b)
  | .float b _ => some (.flt b)
  | .ref a => some (.ref a)
  | .type n => some (.ty n)
  | _ => none
theorem RelV.abs {x : V} {u : Value} (r : RelV x u) : absV u = some x := by
  cases x with
  | non => cases r; rfl
  | bl _ => cases r; rfl
  | int _ => obtain ⟨t, rfl⟩ := r; rfl
  | str _ => obtain ⟨t, rfl⟩ := r; rfl
  | byt _ => obtain ⟨t, rfl⟩ := r; rfl
  | flt _ => obtain ⟨t, rfl⟩ := r; rfl
  | ref _ => cases r; rfl
  | ty _ => cases r; rfl
theorem RelV.inj {x y : V} {u : Value} (r : RelV x u) (q : RelV y u) : x = y := Option.some.inj (r.abs.symm.trans q.abs)
theorem Vals.inj : ∀ {xs ys : List V} {us : List Value}, Vals xs us → Vals ys us → xs = ys
  | _, _, _, .nil, .nil => rfl
  | _, _, _, .cons r t, .cons r' t' => by rw [r.inj r', Vals.inj t t']
section
variable {X : Cx} {pins : List (Addr × Obj)} {σ : St} {H : Hp} {s : Shared} {a : Addr} {xs ys : List V}
theorem SqL.of {K : PySem.W.Frag} (h : H a = some (.lst xs)) : SqL K H a xs := .inl (.inl h)
theorem SqT.of {K : PySem.W.Frag} (h : H a = some (.tup xs)) : SqT K H a xs := .inl (.inl h)
theorem Inv.list (I : Inv X pins σ H s) (h : SqL X.K H a xs) : ∃ its : List Value, Vals xs its ∧ PlainL s.heap a its.toArray ∧ xs.length ≤ sizeLine := by
  rcases h with h | ⟨o, its, n, hk, hc, hd, hs, hz, r⟩
  · obtain ⟨z, its, n, r, e⟩ := h.ok I.hok
    exact ⟨its, r, ⟨_, n, e, rfl, rfl, rfl⟩, z⟩
  · refine ⟨its.toList, r, ⟨o, n, I.kIn a o hk, hc, hd, by simpa using hs⟩, ?_⟩
    have e := r.length
    simp only [Array.length_toList] at e
    omega
theorem Inv.tuple (I : Inv X pins σ H s) (h : SqT X.K H a xs) : ∃ its : List Value, Vals xs its ∧ IsTup s.heap a its.toArray ∧ xs.length ≤ sizeLine := by
  rcases h with h | ⟨o, its, n, hk, hc, hs, hz, r⟩
  · obtain ⟨z, its, r, p⟩ := h.ok I.hok
    exact ⟨its, r, p, z⟩
  · refine ⟨its.toList, r, ⟨o, I.kIn a o hk, hc, n, by simpa using hs⟩, ?_⟩
    have e := r.length
    simp only [Array.length_toList] at e
    omega
theorem Inv.list_inj (I : Inv X pins σ H s) (h : SqL X.K H a xs) (h' : SqL X.K H a ys) : xs = ys := by
  obtain ⟨its, r, ⟨o, n, e, _, _, d⟩, _⟩ := I.list h
  obtain ⟨its', r', ⟨o', n', e', _, _, d'⟩, _⟩ := I.list h'
  rw [e] at e'; cases e'
  rw [d] at d'
  injection d' with d1 _
  have : its = its' := by simpa using congrArg Array.toList d1
  subst this
  exact r.inj r'
theorem Inv.tuple_inj (I : Inv X pins σ H s) (h : SqT X.K H a xs) (h' : SqT X.K H a ys) : xs = ys := by
  obtain ⟨its, r, ⟨o, e, _, n, d⟩, _⟩ := I.tuple h
  obtain ⟨its', r', ⟨o', e', _, n', d'⟩, _⟩ := I.tuple h'
  rw [e] at e'; cases e'
  rw [d] at d'
  injection d' with d1 _
  have : its = its' := by simpa using congrArg Array.toList d1
  subst this
  exact r.inj r'
end
noncomputable abbrev Cx.wish (X : Cx) (E : Value → Shared → Prop) : Cx := { X with xe := E }
noncomputable abbrev Cx.nox (X : Cx) : Cx := X.wish fun _ _ => False
theorem Cx.Ok.wish {X : Cx} (ok : X.Ok) (E : Value → Shared → Prop) : (X.wish E).Ok :=
  ⟨ok.mod, ok.kind, ok.glob, ok.blt, ok.above, ok.inj, ok.has, ok.cab, ok.hd, ok.frames, ok.stk, ok.exf, ok.bs, ok.bsz, ok.noex, ok.exfs, ok.funs, ok.frf⟩
theorem Cx.Ok.unwish {X : Cx} {E : Value → Shared → Prop} (ok : (X.wish E).Ok) : X.Ok :=
  ⟨ok.mod, ok.kind, ok.glob, ok.blt, ok.above, ok.inj, ok.has, ok.cab, ok.hd, ok.frames, ok.stk, ok.exf, ok.bs, ok.bsz, ok.noex, ok.exfs, ok.funs, ok.frf⟩
section
variable {X : Cx} {pins : List (Addr × Obj)} {σ : St} {H : Hp} {s : Shared} {E : Value → Shared → Prop}
theorem Inv.wish (I : Inv X pins σ H s) (E : Value → Shared → Prop) : Inv (X.wish E) pins σ H s := ⟨I.ok.wish E, I.os, I.bare, I.base, I.loc, I.cell, I.free, I.freeC, I.pin, I.hok, I.len⟩
theorem Inv.unwish (I : Inv (X.wish E) pins σ H s) : Inv X pins σ H s := ⟨I.ok.unwish, I.os, I.bare, I.base, I.loc, I.cell, I.free, I.freeC, I.pin, I.hok, I.len⟩
theorem SP.unwish {D : Ends} {f : Flow} {s' : Shared} (h : SP (X.wish E) pins D f s') : SP X pins D f s' := by
  cases f with
  | next => obtain ⟨σ', H', I, q⟩ := h; exact ⟨σ', H', I.unwish, q⟩
  | brk => obtain ⟨σ', H', I, q⟩ := h; exact ⟨σ', H', I.unwish, q⟩
  | cont => obtain ⟨σ', H', I, q⟩ := h; exact ⟨σ', H', I.unwish, q⟩
  | ret u => obtain ⟨v, σ', H', I, r, q⟩ := h; exact ⟨v, σ', H', I.unwish, r, q⟩
theorem PSs.nox {st : List Stmt} {t : TS} (h : PSs X.nox st t) : PSs X st t := fun pins s σ H D I hw =>
  wpAny_mono (h pins s σ H D (I.wish _) hw) (fun _ _ q => q.unwish) fun _ _ z => False.elim z
end
section
variable {X : Cx} {st : Stmt} {rest : List Stmt} {t u : TS} {e : Expr} {te : TE} {pos : Pos}
noncomputable def tNext : TS := fun D σ H => D.nx σ H
noncomputable def tSeq (t u : TS) : TS := fun D σ H => t { D with nx := u D } σ H
theorem pss_nil : PSs X [] tNext := fun _ _ σ H _ I h => wpAny_execs_nil ⟨σ, H, I, h⟩
theorem pss_cons (h1 : PS X st t) (h2 : PSs X rest u) : PSs X (st :: rest) (tSeq t u) := by
  intro pins s σ H D I h
  refine wpAny_execs_cons (thn (h1 pins s σ H { D with nx := u D } I h) fun f s1 q => ?_)
  cases f with
  | next =>
    obtain ⟨σ', H', I', q⟩ := q
    exact h2 pins s1 σ' H' D I' q
  | ret v => exact q
  | brk => exact q
  | cont => exact q
theorem pss_one (h1 : PS X st t) : PSs X [st] t := by
  intro pins s σ H D I h
  refine wpAny_execs_cons (thn (h1 pins s σ H D I h) fun f s1 q => ?_)
  cases f with
  | next => exact wpAny_execs_nil q
  | ret v => exact q
  | brk => exact q
  | cont => exact q
theorem Inv.quiet {pins : List (Addr × Obj)} {σ : St} {H : Hp} {s : Shared} (I : Inv X pins σ H s) : interactive X.env = false := by simp [interactive, I.ok.kind]
noncomputable def tDrop (te : TE) : TS := fun D σ H => te σ H fun _ H1 => D.nx σ H1
theorem ps_expr (he : PE X e te) (hs : swapsWith e none pos.line X.env = pure false := by rfl) : PS X (.Expr e pos) (tDrop te) := by
  intro pins s σ H D I h
  exact wpAny_Expr_any (thn (he pins s σ H _ I h) fun v s1 ⟨x, H1, I1, r1, q1⟩ => ⟨σ, H1, I1, q1⟩) I.quiet hs
noncomputable def tRet (te : TE) : TS := fun D σ H => te σ H D.rt
theorem ps_ret (he : PE X e te) : PS X (.Return (some e) pos) (tRet te) := by
  intro pins s σ H D I h
  exact wpAny_Return_some (thn (he pins s σ H _ I h) fun v s1 ⟨x, H1, I1, r1, q1⟩ => ⟨x, σ, H1, I1, r1, q1⟩)
noncomputable def tIfS (c : TT) (t u : TS) : TS := fun D σ H => c σ H fun b H1 => if b = true then t D σ H1 else u D σ H1
theorem ps_if {c : Expr} {a b : List Stmt} {tc : TT} (hc : PT X c tc) (ha : PSs X a t) (hb : PSs X b u) : PS X (.If c a b pos) (tIfS tc t u) := by
  intro pins s σ H D I h
  refine wpAny_If (thn (hc pins s σ H _ I h) fun d s1 ⟨H1, I1, q1⟩ => ?_)
  cases d with
  | true => exact ha pins s1 σ H1 D I1 q1
  | false => exact hb pins s1 σ H1 D I1 q1
end
noncomputable abbrev TG := V → St → Hp → (St → Hp → Prop) → Prop
noncomputable abbrev TGs := List V → St → Hp → (St → Hp → Prop) → Prop
noncomputable def PG (X : Cx) (target : Expr) (t : TG) : Prop :=
  ∀ (pins : List (Addr × Obj)) (s : Shared) (σ : St) (H : Hp) (v : V) (u : Value) (Q : St → Hp → Prop), Inv X pins σ H s → RelV v u → t v σ H Q →
    wpAny (model X.prog X.w) X.A (assign target X.env u) (fun _ s' => ∃ σ' H', Inv X pins σ' H' s' ∧ Q σ' H') X.xe s
noncomputable def PGs (X : Cx) (ts : List Expr) (t : TGs) : Prop :=
  ∀ (pins : List (Addr × Obj)) (s : Shared) (σ : St) (H : Hp) (vs : List V) (us : List Value) (Q : St → Hp → Prop), Inv X pins σ H s → Vals vs us → t vs σ H Q →
    wpAny (model X.prog X.w) X.A (assignInOrder ((assignEach ts X.env).map (·.2)) us) (fun _ s' => ∃ σ' H', Inv X pins σ' H' s' ∧ Q σ' H') X.xe s
noncomputable abbrev TSet := V → V → V → Hp → (Hp → Prop) → Prop
noncomputable def PSet (X : Cx) (t : TSet) : Prop :=
  ∀ (pins : List (Addr × Obj)) (s : Shared) (σ : St) (H : Hp) (o i v : V) (ov iv u : Value) (Q : Hp → Prop), Inv X pins σ H s → RelV o ov → RelV i iv → RelV v u → t o i v H Q →
    wpAny (model X.prog X.w) X.A (setItem ov iv u) (fun _ s' => ∃ H', Inv X pins σ H' s' ∧ Q H') X.xe s
section
variable {X : Cx} {pos : Pos}
noncomputable def gName (i : Nat) : TG := fun v σ H Q => Q (σ.set i (some v)) H
theorem pg_name {i : Nat} {x : Str} (hN : X.N.Nodup) (hi : X.N[i]? = some x) (hx : Loc X.env.scope x) (hf : X.fn x = true ∨ X.env.scope.names.lookup x = some .local := by first | exact .inl rfl | exact .inr rfl | assumption) : PG X (.Name x pos) (gName i) := by
  intro pins s σ H v u Q I r h
  exact wpAny_assign_Name (store_ok I hN hi hx r (fun s' I' => ⟨_, H, I', h⟩) hf)
noncomputable def gNil : TGs := fun vs σ H Q => vs = [] ∧ Q σ H
noncomputable def gCons (t : TG) (u : TGs) : TGs := fun vs σ H Q => ∃ v r, vs = v :: r ∧ t v σ H fun σ' H' => u r σ' H' Q
theorem pgs_nil : PGs X [] gNil := by
  intro pins s σ H vs us Q I r h
  obtain ⟨e, h⟩ := h
  subst e
  cases r
  exact assignInOrder_nil ⟨σ, H, I, h⟩
theorem pgs_cons {e : Expr} {es : List Expr} {t : TG} {u : TGs} (h1 : PG X e t) (h2 : PGs X es u)
    (hs : (assignEach (e :: es) X.env).map (·.2) = assign e X.env :: (assignEach es X.env).map (·.2) := by rfl) : PGs X (e :: es) (gCons t u) := by
  intro pins s σ H vs us Q I r h
  obtain ⟨v, vr, e1, h⟩ := h
  subst e1
  cases r with
  | cons r rr =>
    rw [hs]
    refine assignInOrder_cons (thn (h1 pins s σ H _ _ _ I r h) fun _ s1 ⟨σ1, H1, I1, q1⟩ => ?_)
    exact h2 pins s1 σ1 H1 _ _ Q I1 rr q1
noncomputable def gTup (K : PySem.W.Frag) (n : Nat) (t : TGs) : TG := fun v σ H Q => ∃ a xs, v = .ref a ∧ SqT K H a xs ∧ xs.length = n ∧ t xs σ H Q
theorem pg_tup {es : List Expr} {k : Nat} {t : TGs} {n : Nat} (hc : X.calm = true) (h : PGs X es t)
    (hn : (assignEach es X.env).length = n := by rfl) (hst : (assignEach es X.env).findIdx? (·.1) = none := by rfl) : PG X (.Tuple es k pos) (gTup X.K n t) := by
  intro pins s σ H v u Q I r hw
  obtain ⟨a, xs, e1, hq, hl, hw⟩ := hw
  subst e1
  cases r
  obtain ⟨its, rv, ht, hz⟩ := I.tuple hq
  refine assign_Tuple_tuple (I.ok.hd hc) ht (by simp [hn, ← hl, rv.length]) hst fun h' hx => ?_
  have I1 : Inv X pins σ H { s with heap := h' } := I.kept (t' := s.toks) fun b o e => hx b o (Nat.ne_of_lt (Heap.lt_size e)) e
  exact h pins _ σ H xs _ Q I1 (by simpa using rv) hw
noncomputable def gSub (to ti : TE) (t : TSet) : TG := fun v σ H Q => to σ H fun o H1 => ti σ H1 fun i H2 => t o i v H2 fun H3 => Q σ H3
theorem pg_sub {o i : Expr} {to ti : TE} {t : TSet} (ho : PE X o to) (hi : PE X i ti) (hs : PSet X t)
    (ha : ∀ v, assign (.Subscript o i pos) X.env v = (do
      let ov ← holding [v] (eval o X.env)
      let iv ← holding [v, ov] (eval i X.env)
      standAt pos
      holding [v, ov, iv] (setItem ov iv v)
      release [v, ov, iv] []) := by intro _; rfl) : PG X (.Subscript o i pos) (gSub to ti t) := by
  intro pins s σ H v u Q I r h
  rw [ha]
  refine wpAny_bind (wpAny_holding (thn (ho pins s σ H _ I h) fun ov s1 ⟨x, H1, I1, r1, q1⟩ => ?_))
  refine wpAny_bind (wpAny_holding (thn (hi pins s1 σ H1 _ I1 q1) fun iv s2 ⟨y, H2, I2, r2, q2⟩ => ?_))
  refine wpAny_bind (wpAny_standAt (wpAny_bind (wpAny_holding (thn (hs pins s2 σ H2 x y v ov iv u _ I2 r1 r2 r q2) fun _ s3 ⟨H3, I3, q3⟩ => ?_))))
  exact wpAny_release ⟨σ, H3, I3, q3⟩
noncomputable def tAsg (te : TE) (g : TG) : TS := fun D σ H => te σ H fun x H1 => g x σ H1 D.nx
theorem ps_asg {tg e : Expr} {te : TE} {g : TG} (he : PE X e te) (hg : PG X tg g) (hs : swapsWithSole [tg] e pos.line X.env = pure false := by rfl) (hw : swappedStores [tg] e X.env = pure none := by rfl)
    (h1 : (assignEach [tg] X.env).map (·.2) = [assign tg X.env] := by rfl) : PS X (.Assign [tg] e pos) (tAsg te g) := by
  intro pins s σ H D I h
  refine wpAny_Assign_stores (thn (he pins s σ H _ I h) fun v s1 ⟨x, H1, I1, r1, q1⟩ => ?_) hs hw
  rw [h1]
  exact thn (hg pins s1 σ H1 x v _ I1 r1 q1) fun _ s2 q => q
theorem ps_set {i : Nat} {x : Str} {e : Expr} {te : TE} {pos' : Pos} (hN : X.N.Nodup) (hi : X.N[i]? = some x) (hx : Loc X.env.scope x) (he : PE X e te) (hs : swapsWith e (some (.Name x pos')) pos.line X.env = pure false := by rfl) (hf : X.fn x = true ∨ X.env.scope.names.lookup x = some .local := by first | exact .inl rfl | exact .inr rfl | assumption) :
    PS X (.Assign [.Name x pos'] e pos) (tAsg te (gName i)) := by
  intro pins s σ H D I h
  refine wpAny_Assign_Name (thn (he pins s σ H _ I h) fun v s1 ⟨y, H1, I1, r1, q1⟩ => ?_) hs
  exact store_ok I1 hN hi hx r1 (fun s2 I2 => ⟨_, H1, I2, q1⟩) hf
end
section
variable {X : Cx} {pos : Pos}
noncomputable def tWhile (c : TT) (tb : TS) : TS := fun D σ H => ∃ W : Nat → St → Hp → Prop, (∃ m, W m σ H) ∧ ∀ m σ H, W m σ H →
  c σ H fun b H1 => if b = true then ∃ N : St → Hp → Prop, (∀ σ' H', N σ' H' → ∃ m', m' < m ∧ W m' σ' H') ∧ tb { D with nx := N, ct := N, bk := D.nx } σ H1 else D.nx σ H1
theorem ps_while {c : Expr} {body : List Stmt} {tc : TT} {tb : TS} (hp : PassesOwn (model X.prog X.w) X.A X.env X.xe) (hc : PT X c tc) (hb : PSs X body tb) : PS X (.While c body [] pos) (tWhile tc tb) := by
  intro pins s σ H D I h
  obtain ⟨W, ⟨m0, w0⟩, turn⟩ := h
  refine wpAny_While (codeAny_whileLoop (fun n s' => ∃ σ' H', Inv X pins σ' H' s' ∧ W n σ' H') ?_ m0 ⟨σ, H, I, w0⟩)
  rintro n s1 ⟨σ1, H1, I1, w1⟩
  refine wpAny_passesOwn hp (thn (hc pins s1 σ1 H1 _ I1 (turn n σ1 H1 w1)) fun b s2 ⟨H2, I2, q2⟩ => ?_)
  cases b with
  | true =>
    obtain ⟨N, hN, q2⟩ := q2
    rw [if_pos rfl]
    refine wpAny_passesOwn hp (thn (hb pins s2 σ1 H2 _ I2 q2) fun f s3 q3 => ?_)
    cases f with
    | next =>
      obtain ⟨σ3, H3, I3, n3⟩ := q3
      obtain ⟨m', hm, w3⟩ := hN σ3 H3 n3
      exact ⟨m', hm, σ3, H3, I3, w3⟩
    | cont =>
      obtain ⟨σ3, H3, I3, n3⟩ := q3
      obtain ⟨m', hm, w3⟩ := hN σ3 H3 n3
      exact ⟨m', hm, σ3, H3, I3, w3⟩
    | brk => exact q3
    | ret v => exact q3
  | false =>
    rw [if_neg Bool.false_ne_true]
    exact wpAny_execs_nil ⟨σ1, H2, I2, q2⟩
end
structure It where
  go : Nat → Hp → Prop
  yld : Nat → Hp → V → Hp → Prop
  stop : Nat → Hp → Prop
noncomputable def FpOk (X : Cx) (pins : List (Addr × Obj)) (H : Hp) (b : Addr) : Prop :=
  H b = none ∧ b ≠ X.env.locals ∧ b ∉ X.fs ∧ (b ∈ X.ex ∨ X.s₀.heap.objs.size ≤ b) ∧ (∀ x c, X.env.cells.lookup x = some c → c ≠ b) ∧ ∀ p ∈ X.pn ++ pins, p.1 ≠ b
theorem Inv.fpOk {X : Cx} {pins : List (Addr × Obj)} {σ : St} {H H' : Hp} {s : Shared} {b : Addr} (I : Inv X pins σ H s) (hb : s.heap.objs.size ≤ b) (hn : H' b = none) : FpOk X pins H' b := by
  refine ⟨hn, Nat.ne_of_gt (Nat.lt_of_lt_of_le I.lt hb), I.nofs hb, .inr (Nat.le_trans I.sz hb), fun x c e z => ?_, fun p hp z => ?_⟩
  · obtain ⟨v, q⟩ := I.cell x c e
    exact absurd (Nat.lt_of_lt_of_le q.lt (by rw [z]; exact hb)) (Nat.lt_irrefl _)
  · exact absurd (Nat.lt_of_lt_of_le (Heap.lt_size (I.pin p hp).1) (by rw [z]; exact hb)) (Nat.lt_irrefl _)
structure Turn (P : Program) (w : World) (K : PySem.W.Frag) (tg : Expr) (J : It) (fp : List Addr) (it : Addr) (tn : Nat → Heap → Prop) : Prop where
  mem : it ∈ fp
  obj : ∀ i h, tn i h → ∀ b ∈ fp, ∃ o, h.get? b = some o ∧ ∀ v, o.data ≠ .cell v
  keep : ∀ i h h', tn i h → (∀ b ∈ fp, ∀ o, h.get? b = some o → h'.get? b = some o) → tn i h'
  item : ∀ (X : Cx), X.prog = P → X.w = w → X.K = K → X.calm = true → ∀ (i : Nat) (pins : List (Addr × Obj)) (s : Shared) (σ : St) (H : Hp) (E : Value → Shared → Prop), Inv X pins σ H s → (∀ b ∈ fp, FpOk X pins H b) → tn i s.heap → J.go i H →
    wpAny (model P w) X.A (pyNext (.ref it)) (fun r s1 => ∃ u, r = some u ∧
      wpAny (model P w) X.A (letOwnedTupleGo tg (.ref it) u) (fun _ s2 => ∃ x H', Inv X pins σ H' s2 ∧ RelV x u ∧ J.yld i H x H' ∧ tn (i + 1) s2.heap ∧ ∀ b ∈ fp, H' b = none) E s1) E s
  done : ∀ (X : Cx), X.prog = P → X.w = w → X.K = K → X.calm = true → ∀ (i : Nat) (pins : List (Addr × Obj)) (s : Shared) (σ : St) (H : Hp) (E : Value → Shared → Prop), Inv X pins σ H s → (∀ b ∈ fp, FpOk X pins H b) → tn i s.heap → J.stop i H →
    wpAny (model P w) X.A (pyNext (.ref it)) (fun r s1 => r = none ∧ Inv X pins σ H s1) E s
  self : ∀ (A : Around) (i : Nat) (s : Shared) (Q : Value → Shared → Prop) (E : Value → Shared → Prop), tn i s.heap → Q (.ref it) s → wpAny (model P w) A (pyIter (.ref it)) Q E s
noncomputable abbrev TI := St → Hp → (It → Hp → Prop) → Prop
noncomputable def PIE (X : Cx) (pins : List (Addr × Obj)) (σ : St) (tg : Expr) (R : It → Hp → Prop) (itv : Value) (s2 : Shared) : Prop :=
  ∃ (it : Addr) (fp : List Addr) (tn : Nat → Heap → Prop) (J : It) (H' : Hp), itv = .ref it ∧ Inv X pins σ H' s2 ∧ Turn X.prog X.w X.K tg J fp it tn ∧ tn 0 s2.heap ∧ (∀ b ∈ fp, FpOk X pins H' b) ∧ R J H'
noncomputable def PI (X : Cx) (tg iter : Expr) (wi : TI) : Prop :=
  ∀ (pins : List (Addr × Obj)) (s : Shared) (σ : St) (H : Hp) (R : It → Hp → Prop), Inv X pins σ H s → wi σ H R →
    wpAny (model X.prog X.w) X.A (eval iter X.env) (fun v s1 => wpAny (model X.prog X.w) X.A (pyIter v) (PIE X pins σ tg R) X.xe s1) X.xe s
theorem go_of {M : Model} {A : Around} {E : Value → Shared → Prop} {s : Shared} {tg : Expr} {it : Addr} {u : Value} {o : Obj} {n : String} {vs : Array Value} {Q : Unit → Shared → Prop} (ho : s.heap.get? it = some o) (hc : o.cls = .type n) (hd : o.data = .fields vs)
    (hn : ["enumerate", "zip", "dict_itemiterator", "dict_reverseitemiterator", "odict_iterator", "itertools.zip_longest", "itertools.pairwise"].contains n = false) (hQ : Q () s) : wpAny M A (letOwnedTupleGo tg (.ref it) u) Q E s := by
  unfold letOwnedTupleGo
  cases tg <;> first
    | exact wpAny_pure hQ
    | (cases u <;> first
        | exact wpAny_pure hQ
        | (refine wpAny_bind (wpAny_load ho ?_)
           rw [hc, hd]
           show wpAny M A (if (["enumerate", "zip", "dict_itemiterator", "dict_reverseitemiterator", "odict_iterator", "itertools.zip_longest", "itertools.pairwise"].contains n && vs[0]? == some (rawInt _)) = true then _ else _) Q E s
           rw [if_neg (by intro h; rw [hn, Bool.false_and] at h; cases h)]
           exact wpAny_pure hQ))
noncomputable def Itl (K : PySem.W.Frag) (a : Addr) : It :=
  ⟨fun i H => ∃ xs x, SqL K H a xs ∧ xs[i]? = some x, fun i H x H' => H' = H ∧ ∀ xs, SqL K H a xs → xs[i]? = some x, fun i H => ∃ xs, SqL K H a xs ∧ xs.length ≤ i⟩
noncomputable def Itt (K : PySem.W.Frag) (a : Addr) : It :=
  ⟨fun i H => ∃ xs x, SqT K H a xs ∧ xs[i]? = some x, fun i H x H' => H' = H ∧ ∀ xs, SqT K H a xs → xs[i]? = some x, fun i H => ∃ xs, SqT K H a xs ∧ xs.length ≤ i⟩
noncomputable def Itr (lo : Int) (n : Nat) : It := ⟨fun i _ => i < n, fun i H x H' => H' = H ∧ x = .int (lo + i), fun i _ => n ≤ i⟩
theorem turn_list {P : Program} {w : World} {K : PySem.W.Frag} {tg : Expr} (a it : Addr) : Turn P w K tg (Itl K a) [it] it (fun i h => h.IsListIter it a i) where
  mem := by simp
  obj := fun i h st b hb => by
    have e : b = it := by simpa using hb
    subst e
    obtain ⟨o, e, c, d⟩ := st
    exact ⟨o, e, fun v z => by rw [d] at z; cases z⟩
  keep := fun i h h' st k => st.at fun o e => k it (by simp) o e
  item := by
    intro X hP hw hK hc i pins s σ H E I hf st hg
    subst hP hw hK
    obtain ⟨xs, x, hq, hx⟩ := hg
    obtain ⟨its, rv, p, hz⟩ := I.list hq
    obtain ⟨u, hu, ru⟩ := rv.get hx
    obtain ⟨f0, f1, f2, f3, f4, f5⟩ := hf it (by simp)
    refine wpAny_pyNext_list_item st p.isList (x := u) (by simpa using hu) fun h' st' sb => ?_
    have I1 : Inv X pins σ H { s with heap := h' } := I.turned (t' := s.toks) (fun b o hb e => (sb.2 b hb).trans e) f0 f1 f3 f4 f5
    obtain ⟨o, e, c, d⟩ := id st'
    exact ⟨u, rfl, go_of (s := { s with heap := h' }) e c d (by decide) ⟨x, H, I1, ru, ⟨rfl, fun ys hy => by rw [I.list_inj hy hq]; exact hx⟩, st', fun b hb => (hf b hb).1⟩⟩
  done := by
    intro X hP hw hK hc i pins s σ H E I hf st hg
    subst hP hw hK
    obtain ⟨xs, hq, hx⟩ := hg
    obtain ⟨its, rv, p, hz⟩ := I.list hq
    obtain ⟨f0, f1, f2, f3, f4, f5⟩ := hf it (by simp)
    have hl := rv.length
    exact wpAny_pyNext_list_end (I.ok.hd hc) st p.isList (by simp; omega) fun h' eb => ⟨rfl, I.turned (t' := s.toks) (fun b o hb e => eb b o hb e) f0 f1 f3 f4 f5⟩
  self := fun _ _ _ _ _ st h => wpAny_pyIter_listiter st h
theorem turn_tuple {P : Program} {w : World} {K : PySem.W.Frag} {tg : Expr} (a it : Addr) : Turn P w K tg (Itt K a) [it] it (fun i h => h.IsTupleIter it a i) where
  mem := by simp
  obj := fun i h st b hb => by
    have e : b = it := by simpa using hb
    subst e
    obtain ⟨o, e, c, d⟩ := st
    exact ⟨o, e, fun v z => by rw [d] at z; cases z⟩
  keep := fun i h h' st k => st.at fun o e => k it (by simp) o e
  item := by
    intro X hP hw hK hc i pins s σ H E I hf st hg
    subst hP hw hK
    obtain ⟨xs, x, hq, hx⟩ := hg
    obtain ⟨its, rv, p, hz⟩ := I.tuple hq
    obtain ⟨u, hu, ru⟩ := rv.get hx
    obtain ⟨f0, f1, f2, f3, f4, f5⟩ := hf it (by simp)
    refine wpAny_pyNext_tuple_item st (show s.heap.IsTuple a its.toArray from p) (x := u) (by simpa using hu) fun h' st' sb => ?_
    have I1 : Inv X pins σ H { s with heap := h' } := I.turned (t' := s.toks) (fun b o hb e => (sb.2 b hb).trans e) f0 f1 f3 f4 f5
    obtain ⟨o, e, c, d⟩ := id st'
    exact ⟨u, rfl, go_of (s := { s with heap := h' }) e c d (by decide) ⟨x, H, I1, ru, ⟨rfl, fun ys hy => by rw [I.tuple_inj hy hq]; exact hx⟩, st', fun b hb => (hf b hb).1⟩⟩
  done := by
    intro X hP hw hK hc i pins s σ H E I hf st hg
    subst hP hw hK
    obtain ⟨xs, hq, hx⟩ := hg
    obtain ⟨its, rv, p, hz⟩ := I.tuple hq
    obtain ⟨f0, f1, f2, f3, f4, f5⟩ := hf it (by simp)
    have hl := rv.length
    exact wpAny_pyNext_tuple_end (I.ok.hd hc) st (show s.heap.IsTuple a its.toArray from p) (by simp; omega) fun h' eb => ⟨rfl, I.turned (t' := s.toks) (fun b o hb e => eb b o hb e) f0 f1 f3 f4 f5⟩
  self := fun _ _ _ _ _ st h => wpAny_pyIter_tupleiter st h
theorem turn_range {P : Program} {w : World} {K : PySem.W.Frag} {tg : Expr} (it : Addr) (lo : Int) (n : Nat) : Turn P w K tg (Itr lo n) [it] it (fun i h => IsRangeIter h it (lo + (i : Nat) * 1) ((n : Int) - (i : Nat)) 1) where
  mem := by simp
  obj := fun i h st b hb => by
    have e : b = it := by simpa using hb
    subst e
    exact ⟨_, st, fun v z => by
      have z' : Data.fields _ = Data.cell v := z
      cases z'⟩
  keep := fun i h h' st k => k it (by simp) _ st
  item := by
    intro X hP hw hK hc i pins s σ H E I hf st hg
    subst hP hw hK
    obtain ⟨f0, f1, f2, f3, f4, f5⟩ := hf it (by simp)
    have W := Walks.range (prog := X.prog) (w := X.w) (I.ok.hd hc) it lo 1 n
    refine W.item i s _ _ hg st fun v h' tk hv st' kk => ?_
    obtain ⟨t, rfl⟩ := hv
    have I1 : Inv X pins σ H { s with heap := h', toks := tk } := I.turned (fun b o hb e => kk b o (by simpa using hb) e) f0 f1 f3 f4 f5
    refine ⟨_, rfl, go_of (s := { s with heap := h', toks := tk }) (n := "range_iterator") st' rfl rfl (by decide) ⟨.int (lo + i), H, I1, ⟨t, ?_⟩, ⟨rfl, rfl⟩, st', fun b hb => (hf b hb).1⟩⟩
    rw [Int.mul_one]
  done := by
    intro X hP hw hK hc i pins s σ H E I hf st hg
    subst hP hw hK
    obtain ⟨f0, f1, f2, f3, f4, f5⟩ := hf it (by simp)
    exact wpAny_pyNext_range_end (I.ok.hd hc) st (by have : n ≤ i := hg; omega) fun h' eb => ⟨rfl, I.turned (t' := s.toks) (fun b o hb e => eb b o hb e) f0 f1 f3 f4 f5⟩
  self := fun _ _ _ _ _ st h => wpAny_pyIter_rangeiter st h
end L2
namespace L2
open PySem PySem.Spec PyProof.Rows
section
variable {X : Cx} {tg : Expr}
noncomputable def iList (K : PySem.W.Frag) (tl : TE) : TI := fun σ H R => tl σ H fun x H1 => ∃ a, x = .ref a ∧ (∃ xs, SqL K H1 a xs) ∧ R (Itl K a) H1
noncomputable def iTup (K : PySem.W.Frag) (tl : TE) : TI := fun σ H R => tl σ H fun x H1 => ∃ a, x = .ref a ∧ (∃ xs, SqT K H1 a xs) ∧ R (Itt K a) H1
theorem pi_list {l : Expr} {tl : TE} (hl : PE X l tl) : PI X tg l (iList X.K tl) := by
  intro pins s σ H R I h
  refine thn (hl pins s σ H _ I h) fun v s1 ⟨x, H1, I1, r1, q1⟩ => ?_
  obtain ⟨a, e, ⟨xs, hq⟩, q⟩ := q1
  subst e
  cases r1
  obtain ⟨its, rv, p, hz⟩ := I1.list hq
  refine wpAny_pyIter_list p.isList ?_
  refine ⟨s1.heap.objs.size, [s1.heap.objs.size], _, _, H1, rfl, I1.kept (t' := s1.toks) fun b o e => Heap.get?_push_of_some _ e, turn_list a _, ⟨_, Heap.get?_push_size _ rfl, rfl, rfl⟩, fun b hb => ?_, q⟩
  have e : b = s1.heap.objs.size := by simpa using hb
  subst e
  exact I1.fpOk (Nat.le_refl _) (I1.hok.fresh (Nat.le_refl _))
theorem pi_tup {l : Expr} {tl : TE} (hl : PE X l tl) : PI X tg l (iTup X.K tl) := by
  intro pins s σ H R I h
  refine thn (hl pins s σ H _ I h) fun v s1 ⟨x, H1, I1, r1, q1⟩ => ?_
  obtain ⟨a, e, ⟨xs, hq⟩, q⟩ := q1
  subst e
  cases r1
  obtain ⟨its, rv, p, hz⟩ := I1.tuple hq
  refine wpAny_pyIter_tuple (show s1.heap.IsTuple a its.toArray from p) ?_
  refine ⟨s1.heap.objs.size, [s1.heap.objs.size], _, _, H1, rfl, I1.kept (t' := s1.toks) fun b o e => Heap.get?_push_of_some _ e, turn_tuple a _, ⟨_, Heap.get?_push_size _ rfl, rfl, rfl⟩, fun b hb => ?_, q⟩
  have e : b = s1.heap.objs.size := by simpa using hb
  subst e
  exact I1.fpOk (Nat.le_refl _) (I1.hok.fresh (Nat.le_refl _))
theorem range_it {pins : List (Addr × Obj)} {σ : St} {H : Hp} {s : Shared} {R : It → Hp → Prop} {E : Value → Shared → Prop} {lo hi : Int} {t u v : Tok} {tk : Nat} (I : Inv X pins σ H s) (h1 : -(2 ^ 62) ≤ lo) (h2 : lo < 2 ^ 62) (h3 : -(2 ^ 62) ≤ hi) (h4 : hi < 2 ^ 62)
    (q : R (Itr lo (hi - lo).toNat) H) : wpAny (model X.prog X.w) X.A (pyIter (.ref s.heap.objs.size)) (PIE X pins σ tg R) E { s with heap := s.heap.push { cls := .type "range", data := .fields #[.int lo t, .int hi u, .int 1 v] }, toks := tk } := by
  refine wpAny_pyIter_range (IsRange.new ..) (small_one h1 h2 h3 h4) ?_
  have I1 : Inv X pins σ H { s with heap := s.heap.push { cls := .type "range", data := .fields #[.int lo t, .int hi u, .int 1 v] }, toks := tk } := I.kept fun b o e => Heap.get?_push_of_some _ e
  refine ⟨(s.heap.push { cls := .type "range", data := .fields #[.int lo t, .int hi u, .int 1 v] }).objs.size, [(s.heap.push { cls := .type "range", data := .fields #[.int lo t, .int hi u, .int 1 v] }).objs.size], _, _, H, rfl,
    I1.kept (t' := tk) fun b o e => Heap.get?_push_of_some _ e, turn_range _ lo (hi - lo).toNat, ?_, fun b hb => ?_, q⟩
  · have e1 : lo + ((0 : Nat) : Int) * 1 = lo := by simp
    have e2 : (((hi - lo).toNat : Nat) : Int) - ((0 : Nat) : Int) = Builtin.Range.rangeSize lo hi 1 := by rw [rangeSize_one]; split <;> omega
    show IsRangeIter _ _ (lo + ((0 : Nat) : Int) * 1) ((((hi - lo).toNat : Nat) : Int) - ((0 : Nat) : Int)) 1
    rw [e1, e2]
    exact Heap.get?_push_size _ rfl
  · have e : b = (s.heap.push { cls := .type "range", data := .fields #[.int lo t, .int hi u, .int 1 v] }).objs.size := by simpa using hb
    subst e
    exact I1.fpOk (Nat.le_refl _) (I1.hok.fresh (Nat.le_refl _))
noncomputable def iRng1 (ta : TA) : TI := fun σ H R => ta σ H fun vs H1 => ∃ j : Int, vs = [.int j] ∧ -(2 ^ 62) ≤ j ∧ j < 2 ^ 62 ∧ R (Itr 0 j.toNat) H1
theorem pi_range1 {a : Expr} {ta : TA} {p pos : Pos} (hg : Gl X "range") (hm : X.mg "range" = none) (ha : PA X [a] ta) (hs : starEach [a] X.env = [(false, eval a X.env)] := by rfl) : PI X tg (.Call (.Name "range" p) [a] [] pos) (iRng1 ta) := by
  intro pins s σ H R I h
  refine Call_ (ld_blt I hg hm boot_range (PyProof.Rows.callWith_type1 (thn (ha pos pins s σ H _ I h) fun us s1 ⟨vs, H1, I1, r1, q1⟩ => ?_) hs rfl))
  obtain ⟨j, e, q1, q2, q⟩ := q1
  subst e
  cases r1 with
  | cons r rr =>
    cases rr
    obtain ⟨t, rfl⟩ := r
    exact call_range_1 (range_it I1 (by omega) (by omega) q1 q2 (by simpa using q))
noncomputable def tFor (wi : TI) (g : TG) (tb : TS) : TS := fun D σ H => wi σ H fun J H1 => ∃ W : Nat → Nat → St → Hp → Prop, (∃ m, W 0 m σ H1) ∧ ∀ i m σ H, W i m σ H →
  (J.stop i H ∧ D.nx σ H) ∨ (J.go i H ∧ ∃ N : St → Hp → Prop, (∀ σ' H', N σ' H' → ∃ m', m' < m ∧ W (i + 1) m' σ' H') ∧ ∀ x H', J.yld i H x H' → g x σ H' fun σ2 H2 => tb { D with nx := N, ct := N, bk := D.nx } σ2 H2)
noncomputable def pinsAt (fp : List Addr) (h : Heap) : List (Addr × Obj) := fp.filterMap fun b => (h.get? b).map fun o => (b, o)
theorem mem_pinsAt {fp : List Addr} {h : Heap} {b : Addr} {o : Obj} (hb : b ∈ fp) (e : h.get? b = some o) : (b, o) ∈ pinsAt fp h := List.mem_filterMap.mpr ⟨b, hb, by rw [e]; rfl⟩
theorem of_pinsAt {fp : List Addr} {h : Heap} {p : Addr × Obj} (hp : p ∈ pinsAt fp h) : p.1 ∈ fp ∧ h.get? p.1 = some p.2 := by
  obtain ⟨b, hb, e⟩ := List.mem_filterMap.mp hp
  cases q : h.get? b with
  | none => rw [q] at e; cases e
  | some o =>
    rw [q] at e
    have e' : (b, o) = p := Option.some.inj e
    subst e'
    exact ⟨hb, q⟩
theorem Inv.pinned {pins : List (Addr × Obj)} {σ : St} {H : Hp} {s : Shared} {fp : List Addr} (I : Inv X pins σ H s) (hf : ∀ b ∈ fp, FpOk X pins H b) (ho : ∀ b ∈ fp, ∃ o, s.heap.get? b = some o ∧ ∀ v, o.data ≠ .cell v) : Inv X (pins ++ pinsAt fp s.heap) σ H s :=
  I.pins_of fun p hp => (List.mem_append.mp hp).elim (fun z => I.pin p (List.mem_append_right _ z)) fun z => by
    obtain ⟨hb, e⟩ := of_pinsAt z
    obtain ⟨f0, f1, f2, _⟩ := hf p.1 hb
    obtain ⟨o, e', d⟩ := ho p.1 hb
    rw [e] at e'; cases e'
    exact ⟨e, f0, f1, f2, d⟩
theorem Inv.unpinned {pins pl : List (Addr × Obj)} {σ : St} {H : Hp} {s : Shared} (I : Inv X (pins ++ pl) σ H s) : Inv X pins σ H s := I.pins_of fun p hp => I.pin p (List.mem_append_right _ (List.mem_append_left _ hp))
theorem ps_for {iter : Expr} {body : List Stmt} {wi : TI} {g : TG} {tb : TS} {pos : Pos} (hp : PassesOwn (model X.prog X.w) X.A X.env X.xe) (hc : X.calm = true) (hi : PI X tg iter wi) (hg : PG X tg g) (hb : PSs X body tb)
    (hs : ∀ x, foldedSetIterable iter X.env x = pure x := by intro _; rfl) : PS X (.For tg iter body [] pos) (tFor wi g tb) := by
  intro pins s σ H D I h
  refine wpAny_For (thn (hi pins s σ H _ I h) fun v s1 h1 => thn h1 fun itv s2 h2 => ?_) hs
  obtain ⟨it, fp, tn, J, H2, e, I2, T, st2, f2, W, ⟨m0, w0⟩, turn⟩ := h2
  subst e
  -- what stays true of the iterator's objects through the loop
  have stat : ∀ {H' : Hp}, (∀ b ∈ fp, H' b = none) → ∀ b ∈ fp, FpOk X pins H' b := fun hn b hb => ⟨hn b hb, (f2 b hb).2⟩
  refine codeAny_forLoop_any (fun n s' => ∃ i σ' H', Inv X pins σ' H' s' ∧ tn i s'.heap ∧ (∀ b ∈ fp, H' b = none) ∧ W i n σ' H') ?_ m0 ⟨0, σ, H2, I2, st2, fun b hb => (f2 b hb).1, w0⟩
  rintro n s3 ⟨i, σ3, H3, I3, st3, fr3, w3⟩
  rcases turn i n σ3 H3 w3 with ⟨stop, qn⟩ | ⟨go, N, hN, step⟩
  · refine wpAny_passesOwn hp (thn (T.done X rfl rfl rfl hc i pins s3 σ3 H3 X.xe I3 (stat fr3) st3 stop) fun r s4 ⟨hr, I4⟩ => ?_)
    subst hr
    exact wpAny_execs_nil ⟨σ3, H3, I4, qn⟩
  · refine wpAny_passesOwn hp (thn (T.item X rfl rfl rfl hc i pins s3 σ3 H3 X.xe I3 (stat fr3) st3 go) fun r s4 ⟨u, hr, h4⟩ => ?_)
    subst hr
    refine wpAny_passesOwn hp (thn h4 fun _ s5 ⟨x, H5, I5, r5, y5, st5, fr5⟩ => ?_)
    have I5' := I5.pinned (stat fr5) (T.obj _ _ st5)
    refine wpAny_passesOwn hp (thn (hg _ s5 σ3 H5 x u _ I5' r5 (step x H5 y5)) fun _ s6 ⟨σ6, H6, I6, q6⟩ => ?_)
    refine wpAny_passesOwn hp (thn (hb _ s6 σ6 H6 _ I6 q6) fun f s7 q7 => ?_)
    have again : ∀ {σ7 : St} {H7 : Hp}, Inv X (pins ++ pinsAt fp s5.heap) σ7 H7 s7 → N σ7 H7 → ∃ m, m < n ∧ ∃ i σ' H', Inv X pins σ' H' s7 ∧ tn i s7.heap ∧ (∀ b ∈ fp, H' b = none) ∧ W i m σ' H' := fun {σ7 H7} I7 n7 => by
      obtain ⟨m', hm, w7⟩ := hN σ7 H7 n7
      refine ⟨m', hm, i + 1, σ7, H7, I7.unpinned, T.keep _ _ _ st5 fun b hb o e => (I7.pin (b, o) (List.mem_append_right _ (List.mem_append_right _ (mem_pinsAt hb e)))).1, fun b hb => ?_, w7⟩
      obtain ⟨o, e, d⟩ := T.obj _ _ st5 b hb
      exact (I7.pin (b, o) (List.mem_append_right _ (List.mem_append_right _ (mem_pinsAt hb e)))).2.1
    cases f with
    | next => obtain ⟨σ7, H7, I7, n7⟩ := q7; exact again I7 n7
    | cont => obtain ⟨σ7, H7, I7, n7⟩ := q7; exact again I7 n7
    | brk => obtain ⟨σ7, H7, I7, q7⟩ := q7; exact ⟨σ7, H7, I7.unpinned, q7⟩
    | ret v => obtain ⟨x7, σ7, H7, I7, r7, q7⟩ := q7; exact ⟨x7, σ7, H7, I7.unpinned, r7, q7⟩
end
theorem for_list {K : PySem.W.Frag} {a : Addr} {xs : List V} {g : TG} {tb : TS} {D : Ends} {σ : St} {H : Hp} (Pv : Nat → St → Hp → Prop) (h0 : Pv 0 σ H) (hl : ∀ i σ H, i ≤ xs.length → Pv i σ H → SqL K H a xs)
    (hs : ∀ i x σ H, xs[i]? = some x → Pv i σ H → g x σ H fun σ2 H2 => tb { D with nx := Pv (i + 1), ct := Pv (i + 1), bk := D.nx } σ2 H2) (hd : ∀ σ H, Pv xs.length σ H → D.nx σ H) :
    ∃ W : Nat → Nat → St → Hp → Prop, (∃ m, W 0 m σ H) ∧ ∀ i m σ H, W i m σ H →
      ((Itl K a).stop i H ∧ D.nx σ H) ∨ ((Itl K a).go i H ∧ ∃ N : St → Hp → Prop, (∀ σ' H', N σ' H' → ∃ m', m' < m ∧ W (i + 1) m' σ' H') ∧ ∀ x H', (Itl K a).yld i H x H' → g x σ H' fun σ2 H2 => tb { D with nx := N, ct := N, bk := D.nx } σ2 H2) := by
  refine ⟨fun i m σ H => m = xs.length - i ∧ i ≤ xs.length ∧ Pv i σ H, ⟨xs.length, by simp, Nat.zero_le _, h0⟩, ?_⟩
  rintro i m σ H ⟨rfl, hi, p⟩
  have q := hl i σ H hi p
  by_cases hlt : i < xs.length
  · refine .inr ⟨⟨xs, xs[i], q, by simp [hlt]⟩, Pv (i + 1), fun σ' H' p' => ⟨xs.length - (i + 1), by omega, rfl, hlt, p'⟩, fun x H' y => ?_⟩
    obtain ⟨e, y⟩ := y
    subst e
    exact hs i x σ _ (y xs q) p
  · have e : i = xs.length := by omega
    subst e
    exact .inl ⟨⟨xs, q, Nat.le_refl _⟩, hd σ H p⟩
theorem for_tup {K : PySem.W.Frag} {a : Addr} {xs : List V} {g : TG} {tb : TS} {D : Ends} {σ : St} {H : Hp} (Pv : Nat → St → Hp → Prop) (h0 : Pv 0 σ H) (hl : ∀ i σ H, i ≤ xs.length → Pv i σ H → SqT K H a xs)
    (hs : ∀ i x σ H, xs[i]? = some x → Pv i σ H → g x σ H fun σ2 H2 => tb { D with nx := Pv (i + 1), ct := Pv (i + 1), bk := D.nx } σ2 H2) (hd : ∀ σ H, Pv xs.length σ H → D.nx σ H) :
    ∃ W : Nat → Nat → St → Hp → Prop, (∃ m, W 0 m σ H) ∧ ∀ i m σ H, W i m σ H →
      ((Itt K a).stop i H ∧ D.nx σ H) ∨ ((Itt K a).go i H ∧ ∃ N : St → Hp → Prop, (∀ σ' H', N σ' H' → ∃ m', m' < m ∧ W (i + 1) m' σ' H') ∧ ∀ x H', (Itt K a).yld i H x H' → g x σ H' fun σ2 H2 => tb { D with nx := N, ct := N, bk := D.nx } σ2 H2) := by
  refine ⟨fun i m σ H => m = xs.length - i ∧ i ≤ xs.length ∧ Pv i σ H, ⟨xs.length, by simp, Nat.zero_le _, h0⟩, ?_⟩
  rintro i m σ H ⟨rfl, hi, p⟩
  have q := hl i σ H hi p
  by_cases hlt : i < xs.length
  · refine .inr ⟨⟨xs, xs[i], q, by simp [hlt]⟩, Pv (i + 1), fun σ' H' p' => ⟨xs.length - (i + 1), by omega, rfl, hlt, p'⟩, fun x H' y => ?_⟩
    obtain ⟨e, y⟩ := y
    subst e
    exact hs i x σ _ (y xs q) p
  · have e : i = xs.length := by omega
    subst e
    exact .inl ⟨⟨xs, q, Nat.le_refl _⟩, hd σ H p⟩
theorem for_range {lo : Int} {n : Nat} {g : TG} {tb : TS} {D : Ends} {σ : St} {H : Hp} (Pv : Nat → St → Hp → Prop) (h0 : Pv 0 σ H)
    (hs : ∀ i σ H, i < n → Pv i σ H → g (.int (lo + i)) σ H fun σ2 H2 => tb { D with nx := Pv (i + 1), ct := Pv (i + 1), bk := D.nx } σ2 H2) (hd : ∀ σ H, Pv n σ H → D.nx σ H) :
    ∃ W : Nat → Nat → St → Hp → Prop, (∃ m, W 0 m σ H) ∧ ∀ i m σ H, W i m σ H →
      ((Itr lo n).stop i H ∧ D.nx σ H) ∨ ((Itr lo n).go i H ∧ ∃ N : St → Hp → Prop, (∀ σ' H', N σ' H' → ∃ m', m' < m ∧ W (i + 1) m' σ' H') ∧ ∀ x H', (Itr lo n).yld i H x H' → g x σ H' fun σ2 H2 => tb { D with nx := N, ct := N, bk := D.nx } σ2 H2) := by
  refine ⟨fun i m σ H => m = n - i ∧ i ≤ n ∧ Pv i σ H, ⟨n, by simp, Nat.zero_le _, h0⟩, ?_⟩
  rintro i m σ H ⟨rfl, hi, p⟩
  by_cases hlt : i < n
  · refine .inr ⟨hlt, Pv (i + 1), fun σ' H' p' => ⟨n - (i + 1), by omega, rfl, hlt, p'⟩, fun x H' y => ?_⟩
    obtain ⟨e, y⟩ := y
    subst e y
    exact hs i σ _ hlt p
  · have e : i = n := by omega
    subst e
    exact .inl ⟨Nat.le_refl _, hd σ H p⟩
end L2
namespace L2
open PySem PySem.Spec PyProof.Rows
noncomputable abbrev R2 := V → V → Hp → VK → Prop
noncomputable def OpR (X : Cx) (f : Value → Value → Sem Value) (r : R2) : Prop :=
  ∀ (pins : List (Addr × Obj)) (s : Shared) (σ : St) (H : Hp) (x y : V) (v u : Value) (Q : VK), Inv X pins σ H s → RelV x v → RelV y u → r x y H Q →
    wpAny (model X.prog X.w) X.A (f v u) (EP X pins σ Q) X.xe s
noncomputable def CallR (X : Cx) (f : Value) (r : List V → Hp → VK → Prop) : Prop :=
  ∀ (pins : List (Addr × Obj)) (s : Shared) (σ : St) (H : Hp) (xs : List V) (us : List Value) (Q : VK), Inv X pins σ H s → Vals xs us → r xs H Q →
    wpAny (model X.prog X.w) X.A (call f us) (EP X pins σ Q) X.xe s
noncomputable def tOp (r : R2) (ta tb : TE) : TE := fun σ H Q => ta σ H fun x H1 => tb σ H1 fun y H2 => r x y H2 Q
noncomputable def rI (C : Int → Int → Prop) (g : Int → Int → V) : R2 := fun x y H Q => ∃ i j, x = .int i ∧ y = .int j ∧ C i j ∧ Q (g i j) H
noncomputable def rI0 (g : Int → Int → V) : R2 := fun x y H Q => ∃ i j, x = .int i ∧ y = .int j ∧ Q (g i j) H
section
variable {X : Cx} {a b c : Expr} {ta tb tc : TE} {pos : Pos}
theorem binT (ha : PE X a ta) (hb : PE X b tb) {pins : List (Addr × Obj)} {s : Shared} {σ : St} {H : Hp} {R : V → V → Hp → Prop} (I : Inv X pins σ H s)
    (h : ta σ H fun x H1 => tb σ H1 fun y H2 => R x y H2) {Q : Value → Shared → Prop} {f : Value → Value → Sem Value}
    (hf : ∀ v u s2 x y H2, Inv X pins σ H2 s2 → RelV x v → RelV y u → R x y H2 → wpAny (model X.prog X.w) X.A (f v u) Q X.xe s2) :
    wpAny (model X.prog X.w) X.A (eval a X.env) (fun v s₁ => wpAny (model X.prog X.w) X.A (eval b X.env) (fun u s₂ => wpAny (model X.prog X.w) X.A (f v u) Q X.xe s₂) X.xe s₁) X.xe s := by
  refine thn (ha pins s σ H _ I h) fun v s1 ⟨x, H1, I1, r1, q1⟩ => ?_
  refine thn (hb pins s1 σ H1 _ I1 q1) fun u s2 ⟨y, H2, I2, r2, q2⟩ => ?_
  exact hf v u s2 x y H2 I2 r1 r2 q2
theorem pe_op {op : Operator} {r : R2} (ho : OpR X (binaryOp op) r) (ha : PE X a ta) (hb : PE X b tb) : PE X (.BinOp a op b pos) (tOp r ta tb) := by
  intro pins s σ H Q I h
  exact wpAny_BinOp (binT ha hb I h fun v u s2 x y H2 I2 rx ry q => ho pins s2 σ H2 x y v u Q I2 rx ry q)
theorem opI {f : Value → Value → Sem Value} {C : Int → Int → Prop} {g : Int → Int → Int}
    (rule : ∀ (i j : Int) (t u : Tok) (s : Shared) (Q : Value → Shared → Prop) (E : Value → Shared → Prop), C i j → Q (.int (g i j) s.toks) { s with toks := s.toks + 1 } → wpAny (model X.prog X.w) X.A (f (.int i t) (.int j u)) Q E s) :
    OpR X f (rI C fun i j => .int (g i j)) := by
  intro pins s σ H x y v u Q I rx ry h
  obtain ⟨i, j, rfl, rfl, hc, q⟩ := h
  obtain ⟨t, rfl⟩ := rx
  obtain ⟨t', rfl⟩ := ry
  exact rule i j t t' s _ _ hc ⟨.int (g i j), H, I.tok _, ⟨_, rfl⟩, q⟩
theorem opI0 {f : Value → Value → Sem Value} {g : Int → Int → Int}
    (rule : ∀ (i j : Int) (t u : Tok) (s : Shared) (Q : Value → Shared → Prop) (E : Value → Shared → Prop), Q (.int (g i j) s.toks) { s with toks := s.toks + 1 } → wpAny (model X.prog X.w) X.A (f (.int i t) (.int j u)) Q E s) :
    OpR X f (rI0 fun i j => .int (g i j)) := by
  intro pins s σ H x y v u Q I rx ry h
  obtain ⟨i, j, rfl, rfl, q⟩ := h
  obtain ⟨t, rfl⟩ := rx
  obtain ⟨t', rfl⟩ := ry
  exact rule i j t t' s _ _ ⟨.int (g i j), H, I.tok _, ⟨_, rfl⟩, q⟩
theorem opB0 {f : Value → Value → Sem Value} {g : Int → Int → Bool}
    (rule : ∀ (i j : Int) (t u : Tok) (s : Shared) (Q : Value → Shared → Prop) (E : Value → Shared → Prop), Q (.bool (g i j)) s → wpAny (model X.prog X.w) X.A (f (.int i t) (.int j u)) Q E s) :
    OpR X f (rI0 fun i j => .bl (g i j)) := by
  intro pins s σ H x y v u Q I rx ry h
  obtain ⟨i, j, rfl, rfl, q⟩ := h
  obtain ⟨t, rfl⟩ := rx
  obtain ⟨t', rfl⟩ := ry
  exact rule i j t t' s _ _ ⟨.bl (g i j), H, I, rfl, q⟩
noncomputable def CPow (i j : Int) : Prop := 0 ≤ j ∧ j ≤ 1000000 ∧ i.natAbs < 2 ^ 64
noncomputable def CMul (i j : Int) : Prop := (-(2 ^ 64) < i ∧ i < 2 ^ 64) ∨ (-(2 ^ 64) < j ∧ j < 2 ^ 64)
theorem CMul.ok {i j : Int} (h : CMul i j) : IntMulOk i j := by
  rcases h with ⟨h1, h2⟩ | ⟨h1, h2⟩
  · exact .of_left (intBits_le_64 h1 h2)
  · exact .of_right (intBits_le_64 h1 h2)
theorem op_add : OpR X (binaryOp .Add) (rI0 fun i j => .int (i + j)) := opI0 fun _ _ _ _ _ _ _ q => add_int q
theorem op_sub : OpR X (binaryOp .Sub) (rI0 fun i j => .int (i - j)) := opI0 fun _ _ _ _ _ _ _ q => sub_int q
theorem op_mod : OpR X (binaryOp .Mod) (rI (fun _ j => 0 < j) fun i j => .int (i % j)) := opI fun i j _ _ _ _ _ hc q => by
  have h1 : (0 : Int) < j := hc
  exact mod_int' (by omega) (by rw [Int.fmod_eq_emod_of_nonneg i (by omega)]; exact q)
theorem op_pow : OpR X (binaryOp .Pow) (rI CPow fun i j => .int (i ^ j.toNat)) := opI fun _ _ _ _ _ _ _ hc q => pow_int_small hc.1 hc.2.1 hc.2.2 q
theorem op_shl : OpR X (binaryOp .LShift) (rI CPow fun i j => .int (i * 2 ^ j.toNat)) := opI fun _ _ _ _ _ _ _ hc q => lshift_int_small hc.1 hc.2.1 hc.2.2 q
end
noncomputable def scal : V → V → Bool
  | .non, .non => true | .non, .int _ => true | .int _, .non => true | .non, .bl _ => true | .bl _, .non => true | .non, .str _ => true | .str _, .non => true
  | .int _, .int _ => true | .bl _, .bl _ => true | .str _, .str _ => true | .byt _, .byt _ => true
  | .int _, .str _ => true | .str _, .int _ => true | .bl _, .str _ => true | .str _, .bl _ => true
  | _, _ => false
noncomputable def rEq : R2 := fun x y H Q => scal x y = true ∧ Q (.bl (decide (x = y))) H
theorem dec_int {i j : Int} : decide (V.int i = V.int j) = (i == j) := by
  rw [Bool.eq_iff_iff]
  simp
theorem dec_bl {i j : Bool} : decide (V.bl i = V.bl j) = (i == j) := by
  rw [Bool.eq_iff_iff]
  simp
theorem dec_str {i j : Str} : decide (V.str i = V.str j) = (i == j) := by
  rw [Bool.eq_iff_iff]
  simp
theorem dec_byt {i j : Array UInt8} : decide (V.byt i = V.byt j) = (i.toList == j.toList) := by
  rw [Bool.eq_iff_iff]
  cases i
  cases j
  simp
section
variable {X : Cx} {a b c : Expr} {ta tb tc : TE} {pos : Pos}
theorem fin_bl {pins : List (Addr × Obj)} {σ : St} {H : Hp} {s : Shared} {Q : VK} {k k' : Bool} (I : Inv X pins σ H s) (q : Q (.bl k) H) (e : k = k') : EP X pins σ Q (.bool k') s := by
  subst e
  exact ⟨.bl k, H, I, rfl, q⟩
theorem op_eq : OpR X (compareOp .Eq) rEq := by
  intro pins s σ H x y v u Q I rx ry h
  obtain ⟨hs, q⟩ := h
  cases x with
  | non =>
    cases rx
    cases y with
    | non => cases ry; exact PySem.EqNone.eq_none_none (fin_bl I q (by simp))
    | bl j => cases ry; exact PySem.EqNone.eq_none_bool (fin_bl I q (by simp))
    | int j => obtain ⟨t', rfl⟩ := ry; exact PySem.EqNone.eq_none_int (fin_bl I q (by simp))
    | str j => obtain ⟨t', rfl⟩ := ry; exact PySem.EqNone.eq_none_str (fin_bl I q (by simp))
    | _ => exact absurd (show false = true from hs) Bool.false_ne_true
  | bl i =>
    cases rx
    cases y with
    | non => cases ry; exact PySem.EqNone.eq_bool_none (fin_bl I q (by simp))
    | bl j => cases ry; exact eq_bool (fin_bl I q dec_bl)
    | str j => obtain ⟨t', rfl⟩ := ry; exact PySem.EqMixed.eq_bool_str (fin_bl I q (by simp))
    | _ => exact absurd (show false = true from hs) Bool.false_ne_true
  | int i =>
    obtain ⟨t, rfl⟩ := rx
    cases y with
    | non => cases ry; exact PySem.EqNone.eq_int_none (fin_bl I q (by simp))
    | int j => obtain ⟨t', rfl⟩ := ry; exact eq_int (fin_bl I q dec_int)
    | str j => obtain ⟨t', rfl⟩ := ry; exact PySem.EqMixed.eq_int_str (fin_bl I q (by simp))
    | _ => exact absurd (show false = true from hs) Bool.false_ne_true
  | str i =>
    obtain ⟨t, rfl⟩ := rx
    cases y with
    | non => cases ry; exact PySem.EqNone.eq_str_none (fin_bl I q (by simp))
    | bl j => cases ry; exact PySem.EqMixed.eq_str_bool (fin_bl I q (by simp))
    | int j => obtain ⟨t', rfl⟩ := ry; exact PySem.EqMixed.eq_str_int (fin_bl I q (by simp))
    | str j => obtain ⟨t', rfl⟩ := ry; exact eq_str (fin_bl I q dec_str)
    | _ => exact absurd (show false = true from hs) Bool.false_ne_true
  | byt i =>
    obtain ⟨t, rfl⟩ := rx
    cases y with
    | byt j => obtain ⟨t', rfl⟩ := ry; exact PySem.W.eq_bytes (fin_bl I q dec_byt)
    | _ => exact absurd (show false = true from hs) Bool.false_ne_true
  | _ => cases y <;> exact absurd (show false = true from hs) Bool.false_ne_true
theorem op_lt : OpR X (compareOp .Lt) (rI0 fun i j => .bl (decide (i < j))) := opB0 fun _ _ _ _ _ _ _ q => lt_int q
theorem op_gt : OpR X (compareOp .Gt) (rI0 fun i j => .bl (decide (j < i))) := opB0 fun _ _ _ _ _ _ _ q => gt_int q
theorem op_ge : OpR X (compareOp .GtE) (rI0 fun i j => .bl (decide (j ≤ i))) := opB0 fun _ _ _ _ _ _ _ q => ge_int q
theorem nomark (b : Expr) {op : CmpOp} (h : op ≠ .In := by decide) (h2 : op ≠ .NotIn := by decide) : behindInMarks op b = false := by
  have e1 : (op == CmpOp.In) = false := by cases op <;> first | rfl | exact absurd rfl h
  have e2 : (op == CmpOp.NotIn) = false := by cases op <;> first | rfl | exact absurd rfl h2
  cases b <;> simp [behindInMarks, e1, e2]
theorem pe_cmpR {op : CmpOp} {r : R2} (ho : OpR X (compareOp op) r) (ha : PE X a ta) (hb : PE X b tb) (hm : behindInMarks op b = false) : PE X (.Compare a [op] [b] pos) (tOp r ta tb) := by
  intro pins s σ H Q I h
  exact wpAny_Compare1 (binT ha hb I h fun v u s2 x y H2 I2 rx ry q => ho pins s2 σ H2 x y v u Q I2 rx ry q) hm
noncomputable def tTest (t : TE) : TT := fun σ H Q => t σ H fun x H' => ∃ k, x = .bl k ∧ Q k H'
theorem pt_cmpR {op : CmpOp} {r : R2} (ho : OpR X (compareOp op) r) (ha : PE X a ta) (hb : PE X b tb) (hm : behindInMarks op b = false) : PT X (.Compare a [op] [b] pos) (tTest (tOp r ta tb)) := by
  intro pins s σ H Q I h
  refine wpAny_isTrue_Compare1 (thn (ha pins s σ H _ I h) fun v s1 ⟨x, H1, I1, r1, q1⟩ => thn (hb pins s1 σ H1 _ I1 q1) fun u s2 ⟨y, H2, I2, r2, q2⟩ =>
    thn (ho pins s2 σ H2 x y v u _ I2 r1 r2 q2) fun c s3 ⟨z, H3, I3, r3, k, e, q3⟩ => ?_) hm
  subst e
  cases r3
  exact wpAny_truthy_bool ⟨H3, I3, q3⟩
theorem line63 : (sizeLine : Nat) < 2 ^ 63 := by rw [sizeLine_eq]; decide
theorem op_add_str : OpR X (binaryOp .Add) (fun x y H Q => ∃ i j, x = .str i ∧ y = .str j ∧ i.length + j.length ≤ sizeLine ∧ Q (.str (i ++ j)) H) := by
  intro pins s σ H x y v u Q I rx ry h
  obtain ⟨i, j, rfl, rfl, hz, q⟩ := h
  obtain ⟨t, rfl⟩ := rx
  obtain ⟨t', rfl⟩ := ry
  exact add_str (fun t' tk => ⟨.str (i ++ j), H, I.tok _, ⟨_, rfl⟩, q⟩) hz
theorem vals1 {x : V} {us : List Value} (r : Vals [x] us) : ∃ u, us = [u] ∧ RelV x u := by
  cases r with
  | cons r1 r2 => cases r2; exact ⟨_, rfl, r1⟩
theorem vals2 {x y : V} {us : List Value} (r : Vals [x, y] us) : ∃ u w', us = [u, w'] ∧ RelV x u ∧ RelV y w' := by
  cases r with
  | cons r1 r2 =>
    cases r2 with
    | cons r3 r4 => cases r4; exact ⟨_, _, rfl, r1, r3⟩
theorem call_abs : CallR X (.builtin "abs") (fun xs H Q => ∃ i, xs = [.int i] ∧ Q (.int (if i < 0 then -i else i)) H) := by
  intro pins s σ H xs us Q I r h
  obtain ⟨i, rfl, q⟩ := h
  obtain ⟨u, rfl, t, rfl⟩ := vals1 r
  exact call_abs_int fun u tk => ⟨.int (if i < 0 then -i else i), H, I.tok _, ⟨_, rfl⟩, q⟩
end
end L2
namespace L2
open PySem PySem.Spec PyProof.Rows
structure ObjM (h : Heap) (x dx C : Addr) (mA : Str → Option Value) : Prop where
  obj : h.get? x = some (PySem.W.instObj C dx)
  ns : h.Ns1 dx mA
  ne : dx ≠ x
theorem lookIn_ns {h : Heap} {dx : Addr} {mA : Str → Option Value} (n : h.Ns1 dx mA) : ∃ od, h.get? dx = some od ∧ ∀ name, PySem.W.lookIn name od = some (mA name) := by
  obtain ⟨o, es, ep, ho, hd, hk, _, hm⟩ := n
  refine ⟨o, ho, fun name => ?_⟩
  have e := hm name
  unfold nsFind findBy at e
  rw [← Array.find?_toList] at e
  unfold PySem.W.lookIn
  rw [hd]
  dsimp only
  split
  · rename_i y q
    rw [q] at e
    exact congrArg some e
  · rename_i q
    rw [q] at e
    have a : es.toList.any (·.refKey) = false := by
      rw [List.any_eq_false]
      intro y hy
      obtain ⟨z, t, hkey⟩ := hk y (Array.mem_toList_iff.mp hy)
      simp [DictEntry.refKey, hkey]
    have a' : ¬ es.toList.any (·.refKey) = true := by rw [a]; exact Bool.false_ne_true
    rw [if_neg a']
    exact congrArg some e
theorem ObjM.look {h : Heap} {x dx C : Addr} {mA : Str → Option Value} (I : ObjM h x dx C mA) : ∃ od, PySem.W.InstAt h x (PySem.W.instObj C dx) C (some od) ∧ ∀ name, PySem.W.lookIn name od = some (mA name) :=
  let ⟨od, ho, hl⟩ := lookIn_ns I.ns
  ⟨od, ⟨I.obj, rfl, rfl, ho⟩, hl⟩
section
variable {prog : Program} {w : World} {A : Around} {E : Value → Shared → Prop} {s : Shared} {K : PySem.W.Frag} {x dx C f : Addr} {mA : Str → Option Value} {name : Str} {v : Value}
end
theorem RelO.some_of {v : V} {o : Option Value} (r : RelO (some v) o) : ∃ u, o = some u ∧ RelV v u := by
  cases o with
  | none => exact (show False from r).elim
  | some u => exact ⟨u, rfl, r⟩
section
variable {P : Program} {w : World} {H H' : Hp} {h h' : Heap} {a C dx : Addr} {fs fs' : List (Str × V)}
theorem ins_get (hok : HOk P w H h) (e : H a = some (.ins C dx fs)) : ∃ mA, ObjM h a dx C mA ∧ (∀ f, RelO (fs.lookup f) (mA f)) ∧ PySem.Within mA (fs.map (·.1)) ∧ fs.length ≤ 1000 ∧ H dx = some (.own a) := by
  obtain ⟨d, z, ne, ob, mA, n, r, q⟩ := (show ObjOk P w H h a (.ins C dx fs) from hok a _ e)
  exact ⟨mA, ⟨ob, n, ne⟩, r, q, z, d⟩
end
structure Cls (K : PySem.W.Frag) (C : Addr) : Prop where
  pg : PySem.W.plainGet K C Str.empty = true
  hd : PySem.W.hasDictIn K C = true
  po : PySem.W.plainOver K C = true
  sa : PySem.W.findIn K (.ref C) "__setattr__" = some (some (.builtin "object.__setattr__"))
theorem Cls.get {K : PySem.W.Frag} {C : Addr} (c : Cls K C) (f : Str) : PySem.W.plainGet K C f = true := c.pg
section
variable {X : Cx} {pins : List (Addr × Obj)} {σ : St} {H : Hp} {s : Shared} {a C dx : Addr} {fs : List (Str × V)} {f : Str} {v : V} {A : Around} {E : Value → Shared → Prop}
end
section
variable {X : Cx} {o e value : Expr} {f : Str} {pos pos' tpos : Pos} {ta tv : TE}
end
section
variable {X : Cx} {pins : List (Addr × Obj)} {σ : St} {H : Hp} {s : Shared} {A : Around} {E : Value → Shared → Prop} {Q : Value → Shared → Prop} {c : Value} {b : Bool}
inductive TyOf (K : PySem.W.Frag) (H : Hp) : V → Value → Prop where
  | non : TyOf K H .non (.type "NoneType")
  | bl (x : Bool) : TyOf K H (.bl x) (.type "bool")
  | int (i : Int) : TyOf K H (.int i) (.type "int")
  | str (x : Str) : TyOf K H (.str x) (.type "str")
  | flt (x : UInt64) : TyOf K H (.flt x) (.type "float")
  | lst {a : Addr} {xs : List V} (e : H a = some (.lst xs)) : TyOf K H (.ref a) (.type "list")
  | frz {a : Addr} {o : Obj} {xs : List V} (e : H a = some (.frz o (.lst xs))) : TyOf K H (.ref a) (.type "list")
  | tup {a : Addr} {xs : List V} (e : H a = some (.tup xs)) : TyOf K H (.ref a) (.type "tuple")
  | dK {a : Addr} {kvs : List (Key × V)} (e : H a = some (.dK kvs)) : TyOf K H (.ref a) (.type "dict")
  | dT {a : Addr} {kvs : List (List Key × V)} (e : H a = some (.dT kvs)) : TyOf K H (.ref a) (.type "dict")
  | ins {a C dx : Addr} {fs : List (Str × V)} (e : H a = some (.ins C dx fs)) (cl : Cls K C) (ha : PySem.W.findIn K (.ref C) "__class__" = some (some (.builtin "object.__class__")))
      (hn : PySem.W.specialIn K (.builtin "object.__class__") "__get__" = some (some (.builtin "getset_descriptor.__get__"))) (htk : PySem.W.takesIn K (.builtin "object.__class__") = some true)
      (hm : PySem.W.mroIn K C (.type "object") = some true) : TyOf K H (.ref a) (.ref C)
theorem isinst_ok {x : V} {u t : Value} (I : Inv X pins σ H s) (rx : RelV x u) (ty : TyOf X.K H x t) (e : PySem.W.kitOne X.K t c = some b) (h : ∀ tk, Q (.bool b) { s with toks := tk }) :
    wpAny (model X.prog X.w) A (call (.builtin "isinstance") [u, c]) Q E s := by
  cases ty with
  | non => cases (show u = Value.none from rx); exact PySem.W.kia_one PySem.W.kitx_none I.kIn True.intro e (fun z => nomatch z) h
  | bl y => cases (show u = Value.bool y from rx); exact PySem.W.kia_one PySem.W.kitx_bool I.kIn True.intro e (fun z => nomatch z) h
  | int i => obtain ⟨t, q⟩ := (show ∃ t, u = Value.int i t from rx); cases q; exact PySem.W.kia_one PySem.W.kitx_int I.kIn True.intro e (fun z => nomatch z) h
  | str y => obtain ⟨t, q⟩ := (show ∃ t, u = Value.str y t from rx); cases q; exact PySem.W.kia_one PySem.W.kitx_str I.kIn True.intro e (fun z => nomatch z) h
  | flt y => obtain ⟨t, q⟩ := (show ∃ t, u = Value.float y t from rx); cases q; exact PySem.W.kia_one PySem.W.kitx_float I.kIn True.intro e (fun z => nomatch z) h
  | @lst a xs ea =>
    cases (show u = Value.ref a from rx)
    obtain ⟨_, _, n, _, h1⟩ := (show ObjOk X.prog X.w H s.heap a (.lst xs) from I.hok a _ ea)
    exact PySem.W.kia_one PySem.W.kitx_list I.kIn ⟨_, h1, rfl⟩ e (fun z => nomatch z) h
  | @frz a ob xs ea =>
    cases (show u = Value.ref a from rx)
    obtain ⟨_, _, _, n, _, h1⟩ := (show ObjOk X.prog X.w H s.heap a (.frz ob (.lst xs)) from I.hok a _ ea)
    exact PySem.W.kia_one PySem.W.kitx_list I.kIn ⟨_, h1, rfl⟩ e (fun z => nomatch z) h
  | @tup a xs ea =>
    cases (show u = Value.ref a from rx)
    obtain ⟨_, _, _, p⟩ := (show ObjOk X.prog X.w H s.heap a (.tup xs) from I.hok a _ ea)
    obtain ⟨o, h1, h2, _⟩ := p
    exact PySem.W.kia_one PySem.W.kitx_tuple I.kIn ⟨o, h1, h2⟩ e (fun z => nomatch z) h
  | @dK a kvs ea =>
    cases (show u = Value.ref a from rx)
    obtain ⟨_, _, vs, _, p⟩ := (show ObjOk X.prog X.w H s.heap a (.dK kvs) from I.hok a _ ea)
    obtain ⟨o, es, ep, h1, h2, _⟩ := p
    exact PySem.W.kia_one PySem.W.kitx_dict I.kIn ⟨o, h1, h2.1⟩ e (fun z => nomatch z) h
  | @dT a kvs ea =>
    cases (show u = Value.ref a from rx)
    obtain ⟨_, _, xs, _, o, es, ep, h1, h2, _⟩ := (show ObjOk X.prog X.w H s.heap a (.dT kvs) from I.hok a _ ea)
    exact PySem.W.kia_one PySem.W.kitx_dict I.kIn ⟨o, h1, h2.1⟩ e (fun z => nomatch z) h
  | @ins a C dx fs ea cl ha hn htk hm =>
    cases (show u = Value.ref a from rx)
    obtain ⟨mA, O, _⟩ := ins_get I.hok ea
    obtain ⟨od, J, _⟩ := O.look
    exact PySem.W.kia_one (PySem.W.kitx_own (cl.get _) cl.hd ha hn htk hm) I.kIn J e (fun z => nomatch z) h
end
end L2
namespace L2
open PySem PySem.Spec PyProof.Rows
structure Room (k : Nat) (A : Around) : Prop where
  hd : A.handled = none
  dp : A.depth + 3 * k + 5 < recursionLimit
  un : A.units + 16 * k + 200 < cLine
theorem Room.mono {j k : Nat} {A : Around} (r : Room k A) (h : j ≤ k) : Room j A := ⟨r.hd, by have := r.dp; omega, by have := r.un; omega⟩
theorem Room.deeper {k : Nat} {A : Around} (r : Room (k + 1) A) (env : Env) : Room k (A.deeper env) :=
  ⟨r.hd, by have := r.dp; show A.depth + 1 + 3 * k + 5 < _; omega, by have := r.un; show A.units + 3 + 16 * k + 200 < _; omega⟩
theorem Room.in1 {k : Nat} {A : Around} (r : Room (k + 1) A) : Room k A.in1 :=
  ⟨r.hd, by have := r.dp; show A.depth + 3 * k + 5 < _; omega, by have := r.un; show A.units + 1 + 16 * k + 200 < _; omega⟩
theorem Room.depth {k : Nat} {A : Around} (r : Room k A) : A.depth < recursionLimit := by have := r.dp; omega
theorem Room.units {k : Nat} {A : Around} (r : Room k A) : A.units + 64 < cLine := by have := r.un; omega
noncomputable def tNil : TA := fun _ H Q => Q [] H
noncomputable def tCons (ta : TE) (tr : TA) : TA := fun σ H Q => ta σ H fun x H1 => tr σ H1 fun xs H2 => Q (x :: xs) H2
section
variable {X : Cx} {e : Expr} {es : List Expr} {te : TE} {t : TA} {pos : Pos}
theorem pa_nil : PA X [] tNil := fun _ _ _ _ H Q I h => Calls.spliced_nil ⟨[], H, I, .nil, h⟩
theorem pa_cons (ha : PE X e te) (hr : PA X es t) (hs : starEach (e :: es) X.env = (false, eval e X.env) :: starEach es X.env := by rfl) : PA X (e :: es) (tCons te t) := by
  intro pos pins s σ H Q I h
  rw [hs]
  show wpAny _ _ (spliced ((false, eval e X.env) :: backTo pos (starEach es X.env))) _ _ s
  refine Calls.spliced_cons (thn (ha pins s σ H _ I h) fun u s1 ⟨x, H1, I1, r1, q1⟩ => ?_)
  exact thn (hr pos pins s1 σ H1 _ I1 q1) fun us s2 ⟨xs, H2, I2, r2, q2⟩ => ⟨x :: xs, H2, I2, .cons r1 r2, q2⟩
noncomputable def tTup (t : TA) : TE := fun σ H Q => t σ H fun xs H1 => xs.length ≤ sizeLine ∧ ∀ p, H1 p = none → Q (.ref p) (upd H1 p (.tup xs))
noncomputable def tLst (t : TA) : TE := fun σ H Q => t σ H fun xs H1 => xs.length ≤ sizeLine ∧ ∀ p, H1 p = none → Q (.ref p) (upd H1 p (.lst xs))
theorem pe_tup {x1} (h : PA X es t) : PE X (.Tuple es x1 pos) (tTup t) := by
  intro pins s σ H Q I hq
  refine wpAny_Tuple_spliced (thn (h pos pins s σ H _ I hq) fun us s1 ⟨xs, H1, I1, r, z, q⟩ => ⟨by rw [← r.length]; exact z, ?_⟩)
  have hf : H1 s1.heap.objs.size = none := I1.hok.fresh (Nat.le_refl _)
  refine ⟨.ref s1.heap.objs.size, upd H1 s1.heap.objs.size (.tup xs), I1.laid (t' := s1.toks) (fun b u e => Heap.get?_push_of_some _ e) (Nat.le_refl _) ?_, rfl, q _ hf⟩
  exact ⟨z, us, r, ⟨_, Heap.get?_push_size _ rfl, rfl, _, rfl⟩⟩
theorem pe_lst (h : PA X es t) : PE X (.List es pos) (tLst t) := by
  intro pins s σ H Q I hq
  refine wpAny_List_spliced (thn (h pos pins s σ H _ I hq) fun us s1 ⟨xs, H1, I1, r, z, q⟩ => ⟨by rw [← r.length]; exact z, ?_⟩)
  have hf : H1 s1.heap.objs.size = none := I1.hok.fresh (Nat.le_refl _)
  refine ⟨.ref s1.heap.objs.size, upd H1 s1.heap.objs.size (.lst xs), I1.laid (t' := s1.toks) (fun b u e => Heap.get?_push_of_some _ e) (Nat.le_refl _) ?_, rfl, q _ hf⟩
  exact ⟨z, us, 0, r, Heap.get?_push_size _ rfl⟩
end
noncomputable abbrev Sp := List V → Hp → VK → XK → Prop
noncomputable abbrev CXT := List Env → Hp → Shared → XK → Value → Shared → Prop
structure Env0 (P : Program) (w : World) (K : PySem.W.Frag) (mg : Str → Option Value) (base : Heap) (A : Around) (outer : List Env) (s : Shared) (H : Hp) : Prop where
  frames : A.frames = some outer
  mod : Mod K mg base
  bs : ∀ b o, base.get? b = some o → s.heap.get? b = some o ∧ H b = none
  bsz : base.objs.size ≤ s.heap.objs.size
  funs : s.heap.FunFrames base outer
  frf : ∀ b ∈ frs outer, H b = none
  hok : HOk P w H s.heap
  bare : AllBare s.gens
noncomputable def CE (outer : List Env) (P : Program) (w : World) (H : Hp) (s : Shared) (Q : VK) (u : Value) (s' : Shared) : Prop :=
  ∃ v H', s'.os = s.os ∧ AllBare s'.gens ∧ Un (frs outer) [] H H' s.heap s'.heap ∧ HOk P w H' s'.heap ∧ RelV v u ∧ Q v H'
noncomputable def CR (CX : CXT) (outer : List Env) (P : Program) (w : World) (H : Hp) (s : Shared) (Q : VK) (E : XK) (r : Result) (s' : Shared) : Prop :=
  match r with
  | .ok (.ret u) => CE outer P w H s Q u s'
  | .ok _ => False
  | .error e => CX outer H s E e s'
structure FnOk (P : Program) (w : World) (K : PySem.W.Frag) (mg : Str → Option Value) (base : Heap) (CX : CXT) (k : Nat) (f : Addr) (fd : FuncData) (ps : List Str) (sp : Sp) : Prop where
  len : ∀ vs H Q E, sp vs H Q E → vs.length = ps.length
  run : ∀ (A : Around) (outer : List Env) (s : Shared) (H : Hp) (args : Args) (us : List Value) (vs : List V) (Q : VK) (E : XK), Room k A → Env0 P w K mg base A outer s H → BindsTo s fd args (ps.zip us) → Vals vs us → sp vs H Q E →
    codeAny (model P w) A (.call (.ref f) args) (CR CX outer P w H s Q E) s
theorem FnOk.imp {P : Program} {w : World} {K : PySem.W.Frag} {mg : Str → Option Value} {base : Heap} {CX : CXT} {k : Nat} {f : Addr} {fd : FuncData} {ps : List Str} {sp sp' : Sp} (F : FnOk P w K mg base CX k f fd ps sp)
    (h : ∀ vs H Q E, sp' vs H Q E → sp vs H Q E) : FnOk P w K mg base CX k f fd ps sp' :=
  ⟨fun vs H Q E q => F.len vs H Q E (h _ _ _ _ q), fun A outer s H args us vs Q E hr he hb hv hs => F.run A outer s H args us vs Q E hr he hb hv (h _ _ _ _ hs)⟩
theorem Env0.in1 {P : Program} {w : World} {K : PySem.W.Frag} {mg : Str → Option Value} {base : Heap} {A : Around} {outer : List Env} {s : Shared} {H : Hp} (e : Env0 P w K mg base A outer s H) :
    Env0 P w K mg base A.in1 outer s H := ⟨e.frames, e.mod, e.bs, e.bsz, e.funs, e.frf, e.hok, e.bare⟩
section
variable {X : Cx} {pins : List (Addr × Obj)} {σ : St} {H : Hp} {s s' : Shared}
theorem Inv.env0 (I : Inv X pins σ H s) : Env0 X.prog X.w X.K X.mg X.base X.A X.stack s H :=
  ⟨I.ok.frames, I.ok.mod, I.bs, Nat.le_trans I.ok.bsz I.sz, I.stack, I.stkFree, I.hok, I.bare⟩
theorem Inv.after {Q : VK} {u : Value} (I : Inv X pins σ H s) (h : CE X.stack X.prog X.w H s Q u s') : EP X pins σ Q u s' := by
  obtain ⟨v, H', os, bare, un, hok, r, q⟩ := h
  obtain ⟨hh, g, d, t, os'⟩ := s'
  obtain rfl : os' = s.os := os
  exact ⟨v, H', I.call (h' := hh) (g' := g) (d' := d) (t' := t) (ch := []) un hok bare (fun b z => absurd z (by simp)), r, q⟩
end
noncomputable def tCall (sp : Sp) (dvs : List V) (E : XK) (t : TA) : TE := fun σ H Q => t σ H fun vs H1 => sp (vs ++ dvs) H1 Q E
noncomputable def Binds (K : PySem.W.Frag) (fd : FuncData) (ps : List Str) (ds : List Value) : Prop :=
  ∀ (s : Shared) (us : List Value), K.In s.heap → (us ++ ds).length = ps.length → BindsTo s fd ⟨us, []⟩ (ps.zip (us ++ ds))
theorem Binds.all {K : PySem.W.Frag} {fd : FuncData} {ps : List Str} (h : ∀ us : List Value, us.length = ps.length → bindArgs fd ⟨us, []⟩ = pure (ps.zip us)) : Binds K fd ps [] := fun s us _ hl => by
  rw [List.append_nil] at hl ⊢
  exact .of_eq (h us hl)
noncomputable def Passes (CX : CXT) (X : Cx) (E : XK) : Prop := ∀ (pins : List (Addr × Obj)) (σ : St) (H : Hp) (s : Shared) (e : Value) (s' : Shared), Inv X pins σ H s → CX X.stack H s E e s' → X.xe e s'
section
variable {X : Cx} {CX : CXT} {k : Nat} {f C : Addr} {fd : FuncData} {ps : List Str} {sp : Sp} {dvs : List V} {ds : List Value} {E : XK} {x m : Str} {p pos apos : Pos} {e o : Expr} {es : List Expr} {ta : TE} {t : TA}
theorem run_fn {pins : List (Addr × Obj)} {σ : St} {H : Hp} {s : Shared} {Q : VK} {us : List Value} {vs : List V} (F : FnOk X.prog X.w X.K X.mg X.base CX k f fd ps sp) (hr : Room k X.A) (hb : Binds X.K fd ps ds) (hd : Vals dvs ds) (hx : Passes CX X E)
    (I : Inv X pins σ H s) (r : Vals vs us) (h : sp (vs ++ dvs) H Q E) : wpAny (model X.prog X.w) X.A (call (.ref f) us) (EP X pins σ Q) X.xe s := by
  have r2 : Vals (vs ++ dvs) (us ++ ds) := r.append hd
  have hl : (us ++ ds).length = ps.length := by rw [← r2.length]; exact F.len _ _ _ _ h
  refine wpAny_call (codeAny_mono (F.run X.A X.stack s H ⟨us, []⟩ (us ++ ds) (vs ++ dvs) Q E hr I.env0 (hb s us I.kIn hl) r2 h) fun r s' hq => ?_)
  cases r with
  | error e => exact hx pins σ H s e s' I hq
  | ok fl =>
    cases fl with
    | ret u => exact I.after hq
    | next => exact False.elim hq
    | brk => exact False.elim hq
    | cont => exact False.elim hq
theorem pe_call (F : FnOk X.prog X.w X.K X.mg X.base CX k f fd ps sp) (hr : Room k X.A) (hg : Gl X x) (hm : X.mg x = some (.ref f)) (hk : PySem.W.keepIn X.K (.ref f) = true) (hb : Binds X.K fd ps ds) (hd : Vals dvs ds) (hx : Passes CX X E)
    (ha : PA X (e :: es) t) (hdb : (x == ("__debug__" : Str)) = false := by decide) (he : starEach (e :: es) X.env = (false, eval e X.env) :: starEach es X.env := by rfl) (hpl : (backTo pos (starEach es X.env)).any (·.1) = false := by rfl) :
    PE X (.Call (.Name x p) (e :: es) [] pos) (tCall sp dvs E t) := by
  intro pins s σ H Q I h
  refine wpAny_Call_Name_kw (ld_glob I hg hm ?_ hdb)
  refine PySem.W.callWith_K (h₀ := X.base) I.ok.mod.kin hk (thn (ha pos pins s σ H _ I h) fun us s1 ⟨vs, H1, I1, r, q⟩ => ⟨I1.kIn, ?_⟩) he hpl
  exact run_fn F hr hb hd hx I1 r q
end
section
variable {X : Cx} {CX : CXT} {k : Nat} {f C : Addr} {fd : FuncData} {ps ks : List Str} {sp : Sp} {E : XK} {x m : Str} {p pos apos kpos : Pos} {e o : Expr} {es : List Expr} {kws : List Keyword} {te ta : TE} {t tk : TA} {nm : Option Str}
variable {g : List Value → List Value → List Value} {gV : List V → List V → List V}
end
structure FnScope (N P : List Str) (sc : Scope) : Prop where
  kind : sc.kind = .function
  co : sc.isCoroutine = false
  gen : sc.isGenerator = false
  nd : N.Nodup
  pre : N.take P.length = P
  par : ∀ x ∈ P, sc.names.lookup x = some .local ∨ sc.names.lookup x = some .cell
  nofree : ∀ y ∈ sc.names, y.2 ≠ .free
theorem bindL_out {kindOf : Str → Option NameKind} {x : Str} : ∀ {binds : List (Str × Value)} {m : Str → Option Value}, (∀ v, (x, v) ∉ binds) → bindL kindOf binds m x = m x
  | [], _, _ => rfl
  | (n, v) :: r, m, h => by
    unfold bindL
    rw [bindL_out fun w hw => h w (List.mem_cons_of_mem _ hw)]
    split
    · have : x ≠ n := by rintro rfl; exact h v List.mem_cons_self
      simp [this]
    · rfl
theorem bindC_out {kindOf : Str → Option NameKind} {x : Str} : ∀ {binds : List (Str × Value)} {m : Str → Option Value}, (∀ v, (x, v) ∉ binds) → bindC kindOf binds m x = m x
  | [], _, _ => rfl
  | (n, v) :: r, m, h => by
    unfold bindC
    rw [bindC_out fun w hw => h w (List.mem_cons_of_mem _ hw)]
    split
    · rfl
    · have : x ≠ n := by rintro rfl; exact h v List.mem_cons_self
      simp [this]
theorem bindL_get {kindOf : Str → Option NameKind} {x : Str} {v : Value} : ∀ {P : List Str} {vs : List Value} {i : Nat} {m : Str → Option Value}, P.Nodup → P[i]? = some x → vs[i]? = some v → kindOf x = some .local →
    bindL kindOf (P.zip vs) m x = some v
  | [], _, _, _, _, h, _, _ => by simp at h
  | _ :: _, [], _, _, _, _, h, _ => by simp at h
  | p :: P, w :: vs, 0, m, nd, h1, h2, hk => by
    simp at h1 h2; subst h1; subst h2
    show bindL kindOf ((p, w) :: P.zip vs) m p = _
    unfold bindL
    rw [bindL_out fun v hv => (List.nodup_cons.mp nd).1 (List.of_mem_zip hv).1, if_pos hk]
    simp
  | p :: P, w :: vs, i + 1, m, nd, h1, h2, hk => by
    show bindL kindOf ((p, w) :: P.zip vs) m x = _
    unfold bindL
    exact bindL_get (i := i) (List.nodup_cons.mp nd).2 (by simpa using h1) (by simpa using h2) hk
theorem bindC_get {kindOf : Str → Option NameKind} {x : Str} {v : Value} : ∀ {P : List Str} {vs : List Value} {i : Nat} {m : Str → Option Value}, P.Nodup → P[i]? = some x → vs[i]? = some v → kindOf x ≠ some .local →
    bindC kindOf (P.zip vs) m x = some v
  | [], _, _, _, _, h, _, _ => by simp at h
  | _ :: _, [], _, _, _, _, h, _ => by simp at h
  | p :: P, w :: vs, 0, m, nd, h1, h2, hk => by
    simp at h1 h2; subst h1; subst h2
    show bindC kindOf ((p, w) :: P.zip vs) m p = _
    unfold bindC
    rw [bindC_out fun v hv => (List.nodup_cons.mp nd).1 (List.of_mem_zip hv).1, if_neg hk]
    simp
  | p :: P, w :: vs, i + 1, m, nd, h1, h2, hk => by
    show bindC kindOf ((p, w) :: P.zip vs) m x = _
    unfold bindC
    exact bindC_get (i := i) (List.nodup_cons.mp nd).2 (by simpa using h1) (by simpa using h2) hk
noncomputable def start (N : List Str) (vs : List V) : St := vs.map some ++ List.replicate (N.length - vs.length) none
noncomputable def cxOf (CX : CXT) (P : Program) (w : World) (K : PySem.W.Frag) (mg : Str → Option Value) (base : Heap) (N : List Str) (qual : Str) (scope : Scope) (f : Addr) (cd : Value) (A : Around) (outer : List Env) (s : Shared) (H : Hp) (E : XK) : Cx where
  prog := P
  w := w
  K := K
  mg := mg
  base := base
  A := A.deeper (envOfC qual scope s.heap.objs.size f cd)
  N := N
  s₀ := s
  H₀ := H
  env := envOfC qual scope s.heap.objs.size f cd
  outer := outer
  stack := envOfC qual scope s.heap.objs.size f cd :: outer
  ex := []
  calm := true
  fn := fun _ => true
  pn := []
  xe := fun e s' => wpAny (model P w) (A.deeper (envOfC qual scope s.heap.objs.size f cd)) (leaving (envOfC qual scope s.heap.objs.size f cd) e) (fun _ s'' => CX outer H s E e s'') (fun e' s'' => CX outer H s E e' s'') s'
theorem cell_has {sc : Scope} {n : Nat} {x : Str} (h : sc.names.lookup x = some .cell) : ∃ c, (cellsFrom n sc.names []).lookup x = some c := by
  have q := PySem.W.cellsFrom_some sc.names n [] (.inl h)
  exact Option.isSome_iff_exists.mp q
theorem inv_start {CX : CXT} {P : Program} {w : World} {K : PySem.W.Frag} {mg : Str → Option Value} {base : Heap} {N ps : List Str} {qual : Str} {scope : Scope} {f : Addr} {cd : Value} {A : Around} {outer : List Env} {s s1 : Shared} {H : Hp} {E : XK} {us : List Value} {vs : List V}
    (S : FnScope N ps scope) (hd : A.handled = none) (e0 : Env0 P w K mg base A outer s H) (hl : vs.length = ps.length) (r : Vals vs us)
    (x : InCallC s s.heap.objs.size (bindL (envOfC qual scope s.heap.objs.size f cd).kindOf (ps.zip us) fun _ => none) (cellsFrom (s.heap.objs.size + 1) scope.names []) (bindC (envOfC qual scope s.heap.objs.size f cd).kindOf (ps.zip us) fun _ => none) s1) :
    Inv (cxOf CX P w K mg base N qual scope f cd A outer s H E) [] (start N vs) H s1 := by
  have hpl : ps.length ≤ N.length := by have := congrArg List.length S.pre; rw [List.length_take] at this; omega
  obtain ⟨h1, tk, rfl, hk⟩ := x.done
  have noA : ∀ b : Addr, b ∉ (cxOf CX P w K mg base N qual scope f cd A outer s H E).ex := fun b z => absurd (show b ∈ ([] : List Addr) from z) (by simp)
  refine ⟨⟨e0.mod, S.kind, rfl, rfl, Nat.le_refl _, fun y z c h1 h2 => ?_, fun y hy => ?_, fun y c _ h => ?_, fun _ => hd, Around.frames_deeper e0.frames, .inr ⟨rfl, rfl⟩, fun b z => absurd z (noA b), e0.bs, e0.bsz, fun b _ _ => noA b, fun b z => absurd z (noA b), e0.funs, e0.frf⟩,
    rfl, e0.bare, Un.kept hk, ⟨_, x.toInCall.ns, fun i y v h1 h2 h3 => ?_⟩, fun y c h => ⟨_, x.cell y c h⟩, e0.hok.fresh (Nat.le_refl _), fun y c h => ?_, fun p hp => absurd (show p ∈ ([] : List (Addr × Obj)) from hp) (by simp), e0.hok.kept hk, ?_⟩
  · exact name_of_addr x.apart (PySem.mem_of_lookup h1) (PySem.mem_of_lookup h2)
  · have hy : scope.names.lookup y = some .cell ∨ scope.names.lookup y = some .free := hy
    rcases hy with hy | hy
    · exact cell_has hy
    · exact absurd rfl (S.nofree _ (PySem.mem_of_lookup hy))
  · exact Nat.le_of_lt (x.above y c (PySem.mem_of_lookup h))
  · have hi : i < vs.length := by
      unfold start at h2
      by_cases hi : i < vs.length
      · exact hi
      · rw [List.getElem?_append_right (by simpa using hi)] at h2
        rw [List.getElem?_replicate] at h2
        split at h2 <;> cases h2
    have ha : vs[i]? = some v := by
      unfold start at h2
      rw [List.getElem?_append_left (by simpa using hi), List.getElem?_map] at h2
      cases e : vs[i]? with
      | none => rw [e] at h2; cases h2
      | some a => rw [e] at h2; cases h2; rfl
    obtain ⟨u, hu, rv⟩ := r.get ha
    have hp : ps[i]? = some y := by
      rw [← S.pre, List.getElem?_take_of_lt (by omega)]; exact h1
    have ndP : ps.Nodup := by rw [← S.pre]; exact S.nd.sublist (List.take_sublist _ _)
    refine ⟨u, rv, ?_⟩
    rcases S.par y (List.mem_of_getElem? hp) with k | k
    · exact .inl ⟨k, bindL_get ndP hp hu k⟩
    · obtain ⟨c, e⟩ := cell_has (n := s.heap.objs.size + 1) k
      refine .inr ⟨.inl k, c, e, ?_⟩
      have q := x.cell y c e
      rw [bindC_get ndP hp hu (by show scope.names.lookup y ≠ _; rw [k]; decide)] at q
      exact q
  · exact e0.hok.fresh (Nat.le_of_lt (x.above y c (PySem.mem_of_lookup h)))
  · unfold start
    show _ = N.length
    rw [List.length_append, List.length_map, List.length_replicate]
    omega
theorem fn_of {CX : CXT} {P : Program} {w : World} {K : PySem.W.Frag} {mg : Str → Option Value} {base : Heap} {k : Nat} {f : Addr} {name qual : Str} {params : Arguments} {body : List Stmt} {scope : Scope} {dV kV doc pm cdv ct oc : Value} {an od : Option Addr}
    {osl : Array (Option Value)} {N ps : List Str} {sp : Sp} (lk : K.lookup f = some ⟨oc, od, .func (PySem.W.fnOf name qual params body scope dV kV doc pm an cdv ct), osl⟩) (hcd : PySem.W.codeIn K cdv qual = true) (S : FnScope N ps scope)
    (len : ∀ vs H Q E, sp vs H Q E → vs.length = ps.length)
    (hbody : ∀ (A : Around) (outer : List Env) (s : Shared) (H : Hp) (vs : List V) (Q : VK) (E : XK), Room k (A.deeper (envOfC qual scope s.heap.objs.size f cdv)) → sp vs H Q E →
      ∃ t, PSs (cxOf CX P w K mg base N qual scope f cdv A outer s H E) body t ∧ t { nx := fun _ H' => Q .non H', rt := Q } (start N vs) H) :
    FnOk P w K mg base CX (k + 1) f (PySem.W.fnOf name qual params body scope dV kV doc pm an cdv ct) ps sp := by
  refine ⟨len, fun A outer s H args us vs Q E hr e0 hb r hsp => ?_⟩
  have hl := len _ _ _ _ hsp
  have KX : K.In s.heap := e0.mod.kin.keeps fun b o e => (e0.bs b o e).1
  have lim : s.heap.NoLimit := e0.mod.nolimit.keeps fun b o e => (e0.bs b o e).1
  have hkind : ∀ y ∈ ps.zip us, scope.names.lookup y.1 = some .local ∨ (scope.names.lookup y.1 = some .cell ∧ ((cellsFrom (s.heap.objs.size + 1) scope.names []).lookup y.1).isSome = true) := fun ⟨n, v⟩ hy => by
    rcases S.par n (List.of_mem_zip hy).1 with q | q
    · exact .inl q
    · exact .inr ⟨q, PySem.W.cellsFrom_some _ _ _ (.inl q)⟩
  refine codeAny_call_function hr.depth (KX _ _ lk) rfl S.co S.gen rfl (PySem.W.codeRec_of KX hcd) (hb _ _ _ _ ?_)
  refine wpAny_newFunctionEnv_cells S.kind hkind fun env he s1 x => ?_
  subst he
  refine ⟨lim.keeps x.toInCall.keep, codeAny_func ?_⟩
  obtain ⟨t, ht, hq⟩ := hbody A outer s H vs Q E (hr.deeper _) hsp
  have I : Inv (cxOf CX P w K mg base N qual scope f cdv A outer s H E) [] (start N vs) H s1 := inv_start S hr.hd e0 hl r x
  refine wpAny_mono (ht [] s1 (start N vs) H _ I hq) (fun fl s' hs => ?_) fun e s' hs => hs
  have fin : ∀ {σ' : St} {H' : Hp} {v : V} {u : Value}, Inv (cxOf CX P w K mg base N qual scope f cdv A outer s H E) [] σ' H' s' → RelV v u → Q v H' → CE outer P w H s Q u s' :=
    fun {σ' H' v u} J rv q => ⟨v, H', J.os, J.bare, J.base, J.hok, rv, q⟩
  cases fl with
  | ret u =>
    obtain ⟨v, σ', H', J, rv, q⟩ := hs
    exact fin J rv q
  | next =>
    obtain ⟨σ', H', J, q⟩ := hs
    exact fin (v := V.non) (u := Value.none) J rfl q
  | brk =>
    obtain ⟨_, _, _, q⟩ := hs
    exact False.elim q
  | cont =>
    obtain ⟨_, _, _, q⟩ := hs
    exact False.elim q
end L2
namespace L2
open PySem PySem.Spec PyProof.Rows
section
variable {X : Cx} {x : Str} {p pos : Pos} {e : Expr} {es : List Expr} {t : TA} {id T : String} {r : List V → Hp → VK → Prop}
noncomputable def tCB (r : List V → Hp → VK → Prop) (t : TA) : TE := fun σ H Q => t σ H fun vs H1 => r vs H1 Q
theorem pe_callB (hc : CallR X (.builtin id) r) (hg : Gl X x) (hm : X.mg x = none) (hv : bootBuiltins x = some (.builtin id)) (ha : PA X (e :: es) t) (hn : x ≠ "__name__" := by decide) (hdb : (x == ("__debug__" : Str)) = false := by decide)
    (he : starEach (e :: es) X.env = (false, eval e X.env) :: starEach es X.env := by rfl) (hpl : (backTo pos (starEach es X.env)).any (·.1) = false := by rfl) : PE X (.Call (.Name x p) (e :: es) [] pos) (tCB r t) := by
  intro pins s σ H Q I h
  refine wpAny_Call_Name_kw (ld_blt I hg hm hv ?_ hn hdb)
  exact PyProof.Rows.callWith_builtin1 (thn (ha pos pins s σ H _ I h) fun us s1 ⟨vs, H1, I1, r1, q1⟩ => hc pins s1 σ H1 vs us Q I1 r1 q1) he hpl
theorem pe_callTy (hc : CallR X (.type T) r) (hg : Gl X x) (hm : X.mg x = none) (hv : bootBuiltins x = some (.type T)) (ha : PA X (e :: es) t) (hn : x ≠ "__name__" := by decide) (hdb : (x == ("__debug__" : Str)) = false := by decide)
    (he : starEach (e :: es) X.env = (false, eval e X.env) :: starEach es X.env := by rfl) (hpl : (backTo pos (starEach es X.env)).any (·.1) = false := by rfl) : PE X (.Call (.Name x p) (e :: es) [] pos) (tCB r t) := by
  intro pins s σ H Q I h
  refine wpAny_Call_Name_kw (ld_blt I hg hm hv ?_ hn hdb)
  exact PyProof.Rows.callWith_type1 (thn (ha pos pins s σ H _ I h) fun us s1 ⟨vs, H1, I1, r1, q1⟩ => hc pins s1 σ H1 vs us Q I1 r1 q1) he hpl
end
end L2
namespace HT
open PySem PyProof.Rows
section
open PySem.SeqAt
open PySem.AutoSeq1 (wpAny_loadPart')
open PySem.MeetsSeq PySem.MeetsSeq2 PySem.MeetsSeq3
end
section
variable {prog : Program} {w : World} {A : Around} {E : Value → Shared → Prop} {s : Shared}
noncomputable def sIx (n d : Nat) : Option Int → Nat
  | none => d
  | some v => if v < 0 then (v + (n : Int)).toNat else min v.toNat n
theorem sIx_none (n d : Nat) : sIx n d none = d := rfl
theorem sIx_nat (n d k : Nat) : sIx n d (some (k : Int)) = min k n := by
  show (if (k : Int) < 0 then ((k : Int) + (n : Int)).toNat else min (k : Int).toNat n) = min k n
  rw [if_neg (by omega), Int.toNat_natCast]
theorem sIx_le (n d : Nat) (hd : d ≤ n) (o : Option Int) : sIx n d o ≤ n := by
  cases o with
  | none => exact hd
  | some v =>
    show (if v < 0 then (v + (n : Int)).toNat else min v.toNat n) ≤ n
    by_cases hv : v < 0
    · rw [if_pos hv]; omega
    · rw [if_neg hv]; exact Nat.min_le_right _ _
theorem clip_eq (v : Int) (n d : Nat) : (if v < 0 then max (v + (n : Int)) 0 else min v (n : Int)) = ((sIx n d (some v) : Nat) : Int) := by
  show (if v < 0 then max (v + (n : Int)) 0 else min v (n : Int)) = (((if v < 0 then (v + (n : Int)).toNat else min v.toNat n) : Nat) : Int)
  by_cases hv : v < 0
  · simp only [if_pos hv]; omega
  · simp only [if_neg hv]; omega
theorem adjust_gen (lo hi : Option Int) (n : Nat) : Builtin.Slice.sliceAdjust lo hi 1 (n : Int) = (((sIx n 0 lo : Nat) : Int), ((sIx n n hi : Nat) : Int)) := by
  have h1 : ¬ ((1 : Int) < 0) := by omega
  unfold Builtin.Slice.sliceAdjust
  simp only [h1, if_false]
  refine Prod.ext ?_ ?_
  · cases lo with
    | none => rfl
    | some v => exact clip_eq v n 0
  · cases hi with
    | none => rfl
    | some v => exact clip_eq v n n
theorem places_gen (i j : Nat) : Builtin.Slice.slicePlaces (i : Int) (j : Int) 1 = j - i := by
  unfold Builtin.Slice.slicePlaces
  have h1 : (1 : Int) > 0 := by omega
  simp only [h1, if_true, Int.ediv_one]
  split <;> omega
theorem slicePart_ {v : Value} {o : Option Int} {Q : Option Int → Shared → Prop} (p : IsPart v o) (h : Q o s) : wpAny (model prog w) A (Builtin.Slice.slicePartIndex v) Q E s := by
  cases p with
  | none => exact slicePart_none h
  | int i t => exact slicePart_int h
theorem sliceApplied_gen {sl : Addr} {vl vu : Value} {lo hi : Option Int} {n : Nat} {Q : Int × Int × Nat → Shared → Prop} (hs : s.heap.IsSliceOf sl vl vu .none) (pl : IsPart vl lo) (pu : IsPart vu hi)
    (h : Q (((sIx n 0 lo : Nat) : Int), 1, sIx n n hi - sIx n 0 lo) s) : wpAny (model prog w) A (Builtin.Slice.sliceApplied (.ref sl) (pure (n : Int))) Q E s := by
  obtain ⟨os, hos, hcs, hds⟩ := id hs
  unfold Builtin.Slice.sliceApplied Builtin.Slice.sliceFields
  refine wpAny_bind (wpAny_bind (wpAny_field hos hds (x := vl) rfl (wpAny_bind (wpAny_field hos hds (x := vu) rfl (wpAny_bind (wpAny_field hos hds (x := .none) rfl (wpAny_pure ?_)))))))
  refine wpAny_bind (slicePart_none ?_)
  show wpAny _ _ (if ((1 : Int) == 0) = true then _ else _) _ _ s
  rw [if_neg (by decide)]
  refine wpAny_bind (slicePart_ pl (wpAny_bind (slicePart_ pu (wpAny_bind (wpAny_pure ?_)))))
  show wpAny _ _ (match Builtin.Slice.sliceAdjust lo hi 1 (n : Int) with | (lo, hi) => pure (lo, (1 : Int), Builtin.Slice.slicePlaces lo hi 1)) _ _ s
  rw [adjust_gen lo hi n]
  show wpAny _ _ (pure (((sIx n 0 lo : Nat) : Int), (1 : Int), Builtin.Slice.slicePlaces ((sIx n 0 lo : Nat) : Int) ((sIx n n hi : Nat) : Int) 1)) _ _ s
  rw [places_gen]
  exact wpAny_pure h
theorem pick_gen (xs : Array Value) (i k : Nat) : ((List.range k).filterMap fun (m : Nat) => xs[((i : Int) + (m : Int) * 1).toNat]?).toArray = ((xs.toList.drop i).take k).toArray := by
  have e : (fun (m : Nat) => xs[((i : Int) + (m : Int) * 1).toNat]?) = fun m => xs[i + m]? := by
    funext m
    have : ((i : Int) + (m : Int) * 1).toNat = i + m := by omega
    rw [this]
  rw [e]
  have := pick_run xs i k
  rw [List.filterMap_map] at this
  have e2 : ((fun x => xs[x]?) ∘ fun x => i + x) = fun m => xs[i + m]? := rfl
  rw [e2] at this
  rw [this]
theorem getItem_tuple_cut {t sl : Addr} {items : Array Value} {vl vu : Value} {lo hi : Option Int} {Q : Value → Shared → Prop} (ht : IsTup s.heap t items) (hs : s.heap.IsSliceOf sl vl vu .none) (pl : IsPart vl lo) (pu : IsPart vu hi)
    (hw : ¬ (sIx items.size 0 lo = 0 ∧ sIx items.size items.size hi = items.size))
    (h : Q (.ref s.heap.objs.size) { s with heap := s.heap.push { cls := .type "tuple", data := .seq ((items.toList.drop (sIx items.size 0 lo)).take (sIx items.size items.size hi - sIx items.size 0 lo)).toArray } })
    (hsz : items.size ≤ sizeLine) : wpAny (model prog w) A (getItem (.ref t) (.ref sl)) Q E s := by
  have htake : sizeOk (.seq ((items.toList.drop (sIx items.size 0 lo)).take (sIx items.size items.size hi - sIx items.size 0 lo)).toArray) := by
    show ((items.toList.drop (sIx items.size 0 lo)).take (sIx items.size items.size hi - sIx items.size 0 lo)).toArray.size ≤ sizeLine
    rw [List.size_toArray, List.length_take, List.length_drop, Array.length_toList]
    omega
  have hj : sIx items.size items.size hi ≤ items.size := sIx_le _ _ (Nat.le_refl _) hi
  obtain ⟨os, hos, hcs, hds⟩ := id hs
  have hTs : s.TypeIs (.ref sl) "slice" := ⟨os, hos, hcs⟩
  unfold getItem
  try with_reducible refine wpAny_holding ?_
  first | refine wpAny_bind (wpAny_pure ?_) | skip
  refine wpAny_bind (wpAny_sequenceKey ht.typeIs (by decide) ?_)
  refine wpAny_bind (wpAny_callSpecial?_slot (name := Str.ofString "__getitem__") ht.typeIs PyProof.Rows.slot_tuple_getitem
    (wpAny_call_entry PyProof.Rows.slot_tuple_getitem ht.typeIs entry_tuple_getitem ?_ (args_tuple_getitem _ _)))
  show wpAny _ _ (Builtin.Tuple.tupleItemsOf (.ref t) >>= _) _ _ s
  refine wpAny_bind (tupleItemsOf_ ht ?_)
  refine wpAny_bind (wpAny_typeOf hTs ?_)
  rw [if_pos (by decide)]
  refine wpAny_bind (sliceApplied_gen hs pl pu ?_)
  have hno : ¬ ((((sIx items.size 0 lo : Nat) : Int) == 0 && (1 : Int) == 1 && (sIx items.size items.size hi - sIx items.size 0 lo) == items.size) = true) := by
    intro q
    rw [Bool.and_eq_true, Bool.and_eq_true] at q
    have q1 : ((sIx items.size 0 lo : Nat) : Int) = 0 := eq_of_beq q.1.1
    have q2 : sIx items.size items.size hi - sIx items.size 0 lo = items.size := eq_of_beq q.2
    exact hw ⟨by omega, by omega⟩
  show wpAny _ _ (if (((sIx items.size 0 lo : Nat) : Int) == 0 && (1 : Int) == 1 && (sIx items.size items.size hi - sIx items.size 0 lo) == items.size) = true then _ else _) _ _ s
  rw [if_neg hno, pick_gen]
  first
    | exact wpAny_bind (m := Builtin.Tuple.tupleExact _) (wpAny_newObj_type (wpAny_pure ⟨_, rfl, wpAny_pure h⟩) htake)
    | exact wpAny_bind (m := Builtin.Tuple.tupleExact _) (wpAny_newObj_type (wpAny_bind (wpAny_pure (wpAny_pure ⟨_, rfl, wpAny_pure h⟩))) htake)
    | exact wpAny_bind (wpAny_bind (m := Builtin.Tuple.tupleExact _) (wpAny_newObj_type (wpAny_pure (wpAny_pure ⟨_, rfl, wpAny_pure h⟩)) htake))
    | exact wpAny_bind (wpAny_bind (m := Builtin.Tuple.tupleExact _) (wpAny_newObj_type (wpAny_pure ⟨_, rfl, wpAny_pure h⟩) htake))
end
end HT
namespace L2
open PySem PySem.Spec PyProof.Rows
noncomputable abbrev TO := St → Hp → (Option Int → Hp → Prop) → Prop
noncomputable def PO (X : Cx) (e : Option Expr) (t : TO) : Prop :=
  ∀ (pins : List (Addr × Obj)) (s : Shared) (σ : St) (H : Hp) (Q : Option Int → Hp → Prop), Inv X pins σ H s → t σ H Q →
    wpAny (model X.prog X.w) X.A (evalPart e X.env) (fun u s' => ∃ o H', Inv X pins σ H' s' ∧ IsPart u o ∧ Q o H') X.xe s
noncomputable def tNoPart : TO := fun _ H Q => Q none H
noncomputable def tPart (t : TE) : TO := fun σ H Q => t σ H fun x H1 => ∃ i, x = .int i ∧ Q (some i) H1
theorem intsAre_of {ns : List Int} : ∀ {us : List Value}, Vals (ns.map V.int) us → IntsAre us ns := by
  induction ns with
  | nil => intro us r; rw [List.map_nil] at r; cases r; exact .nil
  | cons n ns ih =>
    intro us r
    rw [List.map_cons] at r
    cases r with
    | cons r1 r2 =>
      obtain ⟨t, e⟩ := r1
      subst e
      exact .cons n t (ih r2)
section
variable {X : Cx} {e : Expr} {te : TE} {lo hi : Option Expr} {tl th : TO} {pos p2 : Pos}
theorem po_none : PO X none tNoPart := by
  intro pins s σ H Q I h
  rw [evalPart_none]
  exact wpAny_pure ⟨none, H, I, .none, h⟩
theorem po_some (h : PE X e te) : PO X (some e) (tPart te) := by
  intro pins s σ H Q I hw
  rw [evalPart_some]
  refine thn (h pins s σ H _ I hw) fun u s1 ⟨x, H1, I1, r1, q1⟩ => ?_
  obtain ⟨i, rfl, q⟩ := q1
  obtain ⟨t, rfl⟩ := r1
  exact ⟨some i, H1, I1, .int i t, q⟩
noncomputable def SlR (X : Cx) (r : V → Option Int → Option Int → Hp → VK → Prop) : Prop :=
  ∀ (pins : List (Addr × Obj)) (s : Shared) (σ : St) (H : Hp) (x : V) (v vl vu : Value) (lo hi : Option Int) (sl : Addr) (Q : VK), Inv X pins σ H s → RelV x v → s.heap.IsSliceOf sl vl vu .none → IsPart vl lo → IsPart vu hi → r x lo hi H Q →
    ∃ T id, typeLookup (.type T) "__getitem__" = pure (some (.builtin id)) ∧ s.TypeIs v T ∧ wpAny (model X.prog X.w) X.A (getItem v (.ref sl)) (EP X pins σ Q) X.xe s
theorem SlR.or {r r' : V → Option Int → Option Int → Hp → VK → Prop} (h : SlR X r) (h' : SlR X r') : SlR X (fun x lo hi H Q => r x lo hi H Q ∨ r' x lo hi H Q) := by
  intro pins s σ H x v vl vu lo hi sl Q I rx hs pl pu q
  rcases q with q | q
  · exact h pins s σ H x v vl vu lo hi sl Q I rx hs pl pu q
  · exact h' pins s σ H x v vl vu lo hi sl Q I rx hs pl pu q
noncomputable def tSl (r : V → Option Int → Option Int → Hp → VK → Prop) (te : TE) (tl th : TO) : TE := fun σ H Q => te σ H fun x H1 => tl σ H1 fun l H2 => th σ H2 fun u H3 => r x l u H3 Q
theorem pe_slice {r : V → Option Int → Option Int → Hp → VK → Prop} (hr : SlR X r) (he : PE X e te) (hl : PO X lo tl) (hu : PO X hi th) : PE X (.Subscript e (.Slice lo hi none p2) pos) (tSl r te tl th) := by
  intro pins s σ H Q I h
  refine Subscript_ (thn (he pins s σ H _ I h) fun v s1 ⟨x, H1, I1, r1, q1⟩ => ?_)
  refine wpAny_Slice (thn (hl pins s1 σ H1 _ I1 q1) fun vl s2 ⟨l, H2, I2, pl, q2⟩ => thn (hu pins s2 σ H2 _ I2 q2) fun vu s3 ⟨u, H3, I3, pu, q3⟩ => ?_)
  rw [evalPart_none]
  refine wpAny_pure ?_
  have I4 : Inv X pins σ H3 { s3 with heap := s3.heap.push { cls := .type "slice", data := .fields #[vl, vu, .none] } } := I3.kept (t' := s3.toks) fun b ob q => Heap.get?_push_of_some _ q
  obtain ⟨T, id, hT, ht, hg⟩ := hr pins { s3 with heap := s3.heap.push { cls := .type "slice", data := .fields #[vl, vu, .none] } } σ H3 x v vl vu l u s3.heap.objs.size Q I4 r1 (Heap.IsSliceOf.new ..) pl pu q3
  show wpAny (model X.prog X.w) X.A (subscriptTail e (.Slice lo hi none p2) v (.ref s3.heap.objs.size)) (EP X pins σ Q) X.xe { s3 with heap := s3.heap.push { cls := .type "slice", data := .fields #[vl, vu, .none] } }
  exact tail_any (ops := [.ref s3.heap.objs.size, v]) ht hT hg (by with_unfolding_all rfl)
noncomputable def cutV (xs : List V) (lo hi : Option Int) : List V := (xs.drop (HT.sIx xs.length 0 lo)).take (HT.sIx xs.length xs.length hi - HT.sIx xs.length 0 lo)
theorem cutV_length (xs : List V) (lo hi : Option Int) : (cutV xs lo hi).length ≤ xs.length := by
  unfold cutV
  rw [List.length_take, List.length_drop]
  omega
noncomputable def rSlT (K : PySem.W.Frag) : V → Option Int → Option Int → Hp → VK → Prop := fun x lo hi H Q => ∃ a xs, x = .ref a ∧ SqT K H a xs ∧
  ¬ (HT.sIx xs.length 0 lo = 0 ∧ HT.sIx xs.length xs.length hi = xs.length) ∧ ∀ p, H p = none → Q (.ref p) (upd H p (.tup (cutV xs lo hi)))
theorem sl_tup : SlR X (rSlT X.K) := by
  intro pins s σ H x v vl vu lo hi sl Q I rx hs pl pu h
  obtain ⟨a, xs, rfl, hx, hw, q⟩ := h
  cases rx
  obtain ⟨its, r, ht, hz⟩ := I.tuple hx
  have hlen : its.toArray.size = xs.length := by rw [List.size_toArray]; exact r.length.symm
  refine ⟨"tuple", _, PyProof.Rows.slot_tuple_getitem.lookup, ht.typeIs, ?_⟩
  refine HT.getItem_tuple_cut ht hs pl pu (by rw [hlen]; exact hw) ?_ (by rw [hlen]; exact hz)
  rw [hlen]
  refine ⟨.ref s.heap.objs.size, _, I.laid (t' := s.toks) (o := .tup (cutV xs lo hi)) (fun b ob q => Heap.get?_push_of_some _ q) (Nat.le_refl _) ?_, rfl, q _ (I.hok.fresh (Nat.le_refl _))⟩
  exact ⟨Nat.le_trans (cutV_length xs lo hi) hz, _, (r.drop (HT.sIx xs.length 0 lo)).take (HT.sIx xs.length xs.length hi - HT.sIx xs.length 0 lo), IsTup.new _ _⟩
end
end L2
namespace L2
open PySem PySem.Spec PyProof.Rows
noncomputable def ixN (n : Nat) (i : Int) : Option Nat := if 0 ≤ i then (if i < n then some i.toNat else none) else if -(n : Int) ≤ i then some (i + n).toNat else none
noncomputable def atI {α : Type} (xs : List α) (i : Int) : Option α := (ixN xs.length i).bind fun j => xs[j]?
theorem ixN_seq {n : Nat} {i : Int} {j : Nat} (h : ixN n i = some j) : seqIndex? i n = some j ∧ j < n ∧ -(n : Int) ≤ i ∧ i < n := by
  unfold ixN at h
  by_cases h0 : 0 ≤ i
  · rw [if_pos h0] at h
    by_cases h1 : i < n
    · rw [if_pos h1] at h
      have e : i.toNat = j := Option.some.inj h
      exact ⟨by rw [seqIndex_of h0 h1, e], by omega, by omega, h1⟩
    · rw [if_neg h1] at h; cases h
  · rw [if_neg h0] at h
    by_cases h1 : -(n : Int) ≤ i
    · rw [if_pos h1] at h
      have e : (i + n).toNat = j := Option.some.inj h
      exact ⟨by rw [seqIndex_neg (by omega) h1, e], by omega, h1, by omega⟩
    · rw [if_neg h1] at h; cases h
theorem atI_get {α : Type} {xs : List α} {i : Int} {v : α} (h : atI xs i = some v) : ∃ j, seqIndex? i xs.length = some j ∧ xs[j]? = some v ∧ j < xs.length ∧ -(xs.length : Int) ≤ i ∧ i < xs.length := by
  unfold atI at h
  cases e : ixN xs.length i with
  | none => rw [e] at h; cases h
  | some j =>
    rw [e] at h
    obtain ⟨h1, h2, h3, h4⟩ := ixN_seq e
    exact ⟨j, h1, h, h2, h3, h4⟩
theorem atI_nat {α : Type} {xs : List α} {j : Nat} {v : α} (h : xs[j]? = some v) : atI xs (j : Int) = some v := by
  have hj : j < xs.length := (List.getElem?_eq_some_iff.mp h).1
  have e : ixN xs.length (j : Int) = some j := by
    unfold ixN
    rw [if_pos (by omega), if_pos (by omega)]; simp
  unfold atI; rw [e]; exact h
noncomputable def PlainIx (b : Expr) : Prop := ∀ o i, subscripted b false o i = operate [o, i] (getItem o i)
noncomputable def IxR (X : Cx) (r : R2) : Prop :=
  ∀ (value slice : Expr) (pins : List (Addr × Obj)) (s : Shared) (σ : St) (H : Hp) (x y : V) (v u : Value) (Q : VK), Inv X pins σ H s → RelV x v → RelV y u → r x y H Q →
    subscripted slice false v u = operate [v, u] (getItem v u) → wpAny (model X.prog X.w) X.A (subscriptTail value slice v u) (EP X pins σ Q) X.xe s
noncomputable def MtR (X : Cx) (id : String) (r : V → List V → Hp → VK → Prop) : Prop :=
  ∀ (pins : List (Addr × Obj)) (s : Shared) (σ : St) (H : Hp) (x : V) (xs : List V) (v : Value) (us : List Value) (Q : VK), Inv X pins σ H s → RelV x v → Vals xs us → r x xs H Q →
    wpAny (model X.prog X.w) X.A (call (.builtin id) (v :: us)) (EP X pins σ Q) X.xe s
section
variable {X : Cx} {a b : Expr} {ta tb : TE} {pos : Pos}
theorem pe_ix {r : R2} (hr : IxR X r) (ha : PE X a ta) (hb : PE X b tb) (hs : PlainIx b) : PE X (.Subscript a b pos) (tOp r ta tb) := by
  intro pins s σ H Q I h
  exact Subscript_ (binT ha hb I h fun v u s2 x y H2 I2 rx ry q => hr a b pins s2 σ H2 x y v u Q I2 rx ry q (hs _ _))
noncomputable def rIxL (K : PySem.W.Frag) : R2 := fun x y H Q => ∃ p xs i v, x = .ref p ∧ y = .int i ∧ SqL K H p xs ∧ atI xs i = some v ∧ Q v H
noncomputable def rIxT (K : PySem.W.Frag) : R2 := fun x y H Q => ∃ p xs i v, x = .ref p ∧ y = .int i ∧ SqT K H p xs ∧ atI xs i = some v ∧ Q v H
noncomputable def rIxS : R2 := fun x y H Q => ∃ z i c, x = .str z ∧ y = .int i ∧ z.length ≤ sizeLine ∧ atI z.cps.toList i = some c ∧ Q (.str ⟨#[c]⟩) H
theorem ix_list : IxR X (rIxL X.K) := by
  intro value slice pins s σ H x y v u Q I rx ry h hs
  obtain ⟨p, xs, i, z, rfl, rfl, hq, he, q⟩ := h
  cases rx
  obtain ⟨t, rfl⟩ := ry
  obtain ⟨its, r, pl, hz⟩ := I.list hq
  obtain ⟨j, h1, h2, h3, h4, h5⟩ := atI_get he
  obtain ⟨w, ew, rw'⟩ := r.get h2
  have hl := r.length
  have hn := line63
  have fin : EP X pins σ Q w s := ⟨z, H, I, rw', q⟩
  by_cases h0 : 0 ≤ i
  · have hj : i.toNat = j := by
      rw [seqIndex_of h0 h5] at h1
      exact Option.some.inj h1
    exact item_listR pl.isList h0 (by omega) (by rw [hj]; simpa using ew) fin hs
  · have hj : (i + (its.toArray.size : Int)).toNat = j := by
      rw [seqIndex_neg (by omega) h4] at h1
      rw [List.size_toArray, ← hl]
      exact Option.some.inj h1
    exact subscriptTail_builtinR (x := w) pl.isList.typeIs slot_list_getitem.lookup
      (wpAny_getItem_list_neg (Q := fun r s' => r = w ∧ EP X pins σ Q r s') pl.isList (by omega) (by rw [List.size_toArray] <;> omega) (by omega) (by rw [hj]; simpa using ew) ⟨rfl, fin⟩) hs
theorem ix_tup : IxR X (rIxT X.K) := by
  intro value slice pins s σ H x y v u Q I rx ry h hs
  obtain ⟨p, xs, i, z, rfl, rfl, hq, he, q⟩ := h
  cases rx
  obtain ⟨t, rfl⟩ := ry
  obtain ⟨its, r, pl, hz⟩ := I.tuple hq
  obtain ⟨j, h1, h2, h3, h4, h5⟩ := atI_get he
  obtain ⟨w, ew, rw'⟩ := r.get h2
  have hl := r.length
  have hn := line63
  have fin : EP X pins σ Q w s := ⟨z, H, I, rw', q⟩
  exact subscriptTail_builtinR (x := w) pl.typeIs slot_tuple_getitem.lookup
    (getItem_tuple (j := j) (Q := fun r s' => r = w ∧ EP X pins σ Q r s') pl (by omega) (by omega) (by rw [List.size_toArray, ← hl]; exact h1) (by simpa using ew) ⟨rfl, fin⟩) hs
theorem ix_str : IxR X rIxS := by
  intro value slice pins s σ H x y v u Q I rx ry h hs
  obtain ⟨z, i, c, rfl, rfl, hz, he, q⟩ := h
  obtain ⟨t, rfl⟩ := rx
  obtain ⟨t', rfl⟩ := ry
  obtain ⟨j, h1, h2, h3, h4, h5⟩ := atI_get he
  have hl : z.cps.toList.length = z.length := by simp [Str.length]
  rw [hl] at h1 h4 h5
  have hn := line63
  exact tail_any (typeIs_str s z t) slot_str_getitem.lookup (getItem_str (c := c) (by
    have e1 : decide (i < -(2 ^ 63 : Int)) = false := decide_eq_false (by omega)
    have e2 : decide (i ≥ 2 ^ 63) = false := decide_eq_false (by omega)
    rw [e1, e2, Bool.or_false]) (by rw [h1]; simpa using h2) ⟨.str ⟨#[c]⟩, H, I.tok _, ⟨_, rfl⟩, q⟩) hs
theorem mapSeq_set (its : List Value) (n j : Nat) (u : Value) : Obj.mapSeq (·.setIfInBounds j u) { cls := .type "list", data := .seq its.toArray n } = { cls := .type "list", data := .seq (its.set j u).toArray n } := by
  simp [Obj.mapSeq]
theorem Inv.lst {pins : List (Addr × Obj)} {σ : St} {H : Hp} {s : Shared} {p : Addr} {xs : List V} (I : Inv X pins σ H s) (h : H p = some (.lst xs)) :
    ∃ (its : List Value) (n : Nat), Vals xs its ∧ s.heap.get? p = some { cls := .type "list", data := .seq its.toArray n } ∧ xs.length ≤ sizeLine := by
  obtain ⟨z, its, n, r, e⟩ := I.hok p _ h
  exact ⟨its, n, r, e, z⟩
theorem Inv.lstUpd {pins : List (Addr × Obj)} {σ : St} {H : Hp} {s : Shared} {p : Addr} {xs ys : List V} {its its' : List Value} {n n' : Nat} {f : Obj → Obj} (I : Inv X pins σ H s) (h : H p = some (.lst xs))
    (ho : s.heap.get? p = some { cls := .type "list", data := .seq its.toArray n }) (hf : f { cls := .type "list", data := .seq its.toArray n } = { cls := .type "list", data := .seq its'.toArray n' }) (r : Vals ys its') (hz : ys.length ≤ sizeLine) (t : Nat) :
    Inv X pins σ (upd H p (.lst ys)) { s with heap := s.heap.update p f, toks := t } := by
  have e : (s.heap.update p f).get? p = some { cls := .type "list", data := .seq its'.toArray n' } := by
    rw [Heap.get?_update_self f ho (by rw [hf] <;> rfl), hf]
  refine I.write (x := p) (e := p) (by rw [h]; trivial) (.inl rfl) (fun b u hb q => (Heap.get?_update_other _ _ (Ne.symm hb)).trans q) ⟨_, e⟩ ?_
  exact ⟨hz, its', n', r, e⟩
noncomputable def rSetL : V → V → V → Hp → (Hp → Prop) → Prop := fun o i v H Q => ∃ p xs k j, o = .ref p ∧ i = .int k ∧ H p = some (.lst xs) ∧ ixN xs.length k = some j ∧ Q (upd H p (.lst (xs.set j v)))
theorem set_list : PSet X rSetL := by
  intro pins s σ H o i v ov iv u Q I ro ri rv h
  obtain ⟨p, xs, k, j, rfl, rfl, hp, hj, q⟩ := h
  cases ro
  obtain ⟨t, rfl⟩ := ri
  obtain ⟨its, n, r, ho, hz⟩ := I.lst hp
  obtain ⟨h1, h2, h3, h4⟩ := ixN_seq hj
  have hl := r.length
  have hn := line63
  have I' : Inv X pins σ (upd H p (.lst (xs.set j v))) { s with heap := s.heap.update p (Obj.mapSeq (·.setIfInBounds j u)) } :=
    I.lstUpd hp ho (mapSeq_set its n j u) (r.set rv j) (by rw [List.length_set]; exact hz) s.toks
  by_cases h0 : 0 ≤ k
  · have hk : k.toNat = j := by
      rw [seqIndex_of h0 h4] at h1
      exact Option.some.inj h1
    exact PySem.W.ki_setAt ho h0 (by omega) (by rw [List.size_toArray, ← hl]; exact h4) (by rw [hk]; exact ⟨_, I', q⟩)
  · have hk : (k + (its.toArray.size : Int)).toNat = j := by
      rw [seqIndex_neg (by omega) h3] at h1
      rw [List.size_toArray, ← hl]
      exact Option.some.inj h1
    exact PySem.W.ki_setBack ho (by omega) (by rw [List.size_toArray, ← hl]; exact h3) (by omega) (by rw [hk]; exact ⟨_, I', q⟩)
theorem slice_bounds (lo hi : Option Int) (n : Nat) : (sliceBounds lo hi none n).1 = ((HT.sIx n 0 lo : Nat) : Int) ∧ (sliceBounds lo hi none n).2.1 = ((HT.sIx n n hi : Nat) : Int) ∧ (sliceBounds lo hi none n).2.2 = 1 := by
  refine ⟨?_, ?_, rfl⟩
  · cases lo with
    | none => simp [sliceBounds, HT.sIx]
    | some i =>
      simp only [sliceBounds, HT.sIx, Option.getD_none, show (1 : Int) > 0 by decide, if_true]
      by_cases h : i < 0
      · simp only [h, if_true] <;> omega
      · simp only [h, if_false] <;> omega
  · cases hi with
    | none => simp [sliceBounds, HT.sIx]
    | some i =>
      simp only [sliceBounds, HT.sIx, Option.getD_none, show (1 : Int) > 0 by decide, if_true]
      by_cases h : i < 0
      · simp only [h, if_true] <;> omega
      · simp only [h, if_false] <;> omega
theorem slicePick_cut (its : List Value) (lo hi : Option Int) : slicePick its.toArray lo hi none = ((its.drop (HT.sIx its.length 0 lo)).take (HT.sIx its.length its.length hi - HT.sIx its.length 0 lo)).toArray := by
  obtain ⟨h1, h2, h3⟩ := slice_bounds lo hi its.toArray.size
  unfold slicePick
  rw [h1, h2, h3]
  simp only [sliceRange_one, pick_run, List.size_toArray] <;> rfl
noncomputable def rSlL (K : PySem.W.Frag) : V → Option Int → Option Int → Hp → VK → Prop := fun x lo hi H Q => ∃ a xs, x = .ref a ∧ SqL K H a xs ∧ ∀ p, H p = none → Q (.ref p) (upd H p (.lst (cutV xs lo hi)))
theorem sl_list : SlR X (rSlL X.K) := by
  intro pins s σ H x v vl vu lo hi sl Q I rx hs pl pu h
  obtain ⟨a, xs, rfl, hx, q⟩ := h
  cases rx
  obtain ⟨its, r, ht, hz⟩ := I.list hx
  have hlen := r.length
  refine ⟨"list", _, slot_list_getitem.lookup, ht.isList.typeIs, ?_⟩
  refine wpAny_getItem_list_slice ht.isList hs pl pu .none (by simp) ?_ (by rw [List.size_toArray] <;> omega)
  rw [slicePick_cut, ← hlen]
  refine ⟨.ref s.heap.objs.size, _, I.laid (t' := s.toks) (o := .lst (cutV xs lo hi)) (fun b ob q => Heap.get?_push_of_some _ q) (Nat.le_refl _) ?_, rfl, q _ (I.hok.fresh (Nat.le_refl _))⟩
  exact ⟨Nat.le_trans (cutV_length xs lo hi) hz, _, 0, (r.drop (HT.sIx xs.length 0 lo)).take (HT.sIx xs.length xs.length hi - HT.sIx xs.length 0 lo), Heap.get?_push_size _ rfl⟩
noncomputable def flatV : V → Bool
  | .non => true
  | .bl _ => true
  | .int _ => true
  | .str _ => true
  | _ => false
noncomputable def eqV : V → V → Bool
  | .non, .non => true
  | .bl a, .bl b => a == b
  | .bl a, .int b => (if a then 1 else 0) == b
  | .int a, .bl b => a == (if b then 1 else 0)
  | .int a, .int b => a == b
  | .str a, .str b => a == b
  | _, _ => false
theorem eqAt_V {A : Around} {s : Shared} {y x : V} {u v : Value} (ry : RelV y u) (rx : RelV x v) (fy : flatV y = true) (fx : flatV x = true) : SeqAt.EqAt A s u v (eqV y x) := by
  cases y with
  | non =>
    cases ry
    cases x with
    | non => cases rx; exact SeqAt.EqAt.same _
    | bl b => cases rx; exact SeqAt.EqAt.none_bool b
    | int b => obtain ⟨t, rfl⟩ := rx; exact SeqAt.EqAt.none_int b t
    | str b => obtain ⟨t, rfl⟩ := rx; exact SeqAt.EqAt.none_str b t
    | _ => exact absurd (show false = true from fx) Bool.false_ne_true
  | bl a =>
    cases ry
    cases x with
    | non => cases rx; exact SeqAt.EqAt.bool_none a
    | bl b => cases rx; exact SeqAt.EqAt.bool_bool a b
    | int b => obtain ⟨t, rfl⟩ := rx; exact SeqAt.EqAt.bool_int a b t
    | str b => obtain ⟨t, rfl⟩ := rx; exact SeqAt.EqAt.bool_str a b t
    | _ => exact absurd (show false = true from fx) Bool.false_ne_true
  | int a =>
    obtain ⟨t', rfl⟩ := ry
    cases x with
    | non => cases rx; exact SeqAt.EqAt.int_none a t'
    | bl b => cases rx; exact SeqAt.EqAt.int_bool a t' b
    | int b => obtain ⟨t, rfl⟩ := rx; exact SeqAt.EqAt.int_int a t' b t
    | str b => obtain ⟨t, rfl⟩ := rx; exact SeqAt.EqAt.int_str a t' b t
    | _ => exact absurd (show false = true from fx) Bool.false_ne_true
  | str a =>
    obtain ⟨t', rfl⟩ := ry
    cases x with
    | non => cases rx; exact SeqAt.EqAt.str_none a t'
    | bl b => cases rx; exact SeqAt.EqAt.str_bool a t' b
    | int b => obtain ⟨t, rfl⟩ := rx; exact SeqAt.EqAt.str_int a t' b t
    | str b => obtain ⟨t, rfl⟩ := rx; exact SeqAt.EqAt.str_str a t' b t
    | _ => exact absurd (show false = true from fx) Bool.false_ne_true
  | _ => exact absurd (show false = true from fy) Bool.false_ne_true
theorem call_len_seq : CallR X (.builtin "len") (fun xs H Q => ∃ p ys, xs = [.ref p] ∧ (SqL X.K H p ys ∨ SqT X.K H p ys) ∧ Q (.int ys.length) H) := by
  intro pins s σ H xs us Q I r h
  obtain ⟨p, ys, rfl, hq, q⟩ := h
  obtain ⟨u, rfl, rx⟩ := vals1 r
  cases rx
  have hn := line63
  rcases hq with hq | hq
  · obtain ⟨its, r', pl, hz⟩ := I.list hq
    have hlen := r'.length
    exact Calls.call_len_list pl.isList (by simp only [List.size_toArray] <;> omega) ⟨.int ys.length, H, I.tok _, ⟨s.toks + 1, by rw [List.size_toArray, hlen]⟩, q⟩
  · obtain ⟨its, r', pl, hz⟩ := I.tuple hq
    have hlen := r'.length
    exact len_tuple pl (by simp only [List.size_toArray] <;> omega) ⟨.int ys.length, H, I.tok _, ⟨s.toks + 1, by rw [List.size_toArray, hlen]⟩, q⟩
theorem call_len_str : CallR X (.builtin "len") (fun xs H Q => ∃ z, xs = [.str z] ∧ z.length ≤ sizeLine ∧ Q (.int z.length) H) := by
  intro pins s σ H xs us Q I r h
  obtain ⟨z, rfl, hz, q⟩ := h
  obtain ⟨u, rfl, t, rfl⟩ := vals1 r
  have hn := line63
  exact len_str (by omega) ⟨.int z.length, H, I.tok _, ⟨_, rfl⟩, q⟩
theorem call_list_of : CallR X (.type "list") (fun xs H Q => ∃ p ys, xs = [.ref p] ∧ (SqL X.K H p ys ∨ SqT X.K H p ys) ∧ ∀ l, H l = none → Q (.ref l) (upd H l (.lst ys))) := by
  intro pins s σ H xs us Q I r h
  obtain ⟨p, ys, rfl, hq, q⟩ := h
  obtain ⟨u, rfl, rx⟩ := vals1 r
  cases rx
  have fin : ∀ (its : List Value), Vals ys its → ys.length ≤ sizeLine → ∀ (h' : Heap) (c' : Nat), (∀ b o', s.heap.get? b = some o' → h'.get? b = some o') →
      h'.get? s.heap.objs.size = some { cls := .type "list", dict := none, data := .seq its.toArray c', slots := #[] } → EP X pins σ Q (.ref s.heap.objs.size) { s with heap := h' } := fun its r' hz h' c' kp e =>
    ⟨.ref s.heap.objs.size, _, I.laid (t' := s.toks) kp (Nat.le_refl _) (show ObjOk X.prog X.w _ h' _ (.lst ys) from ⟨hz, its, c', r', e⟩), rfl, q _ (I.hok.fresh (Nat.le_refl _))⟩
  rcases hq with hq | hq
  · obtain ⟨its, r', pl, hz⟩ := I.list hq
    have hlen := r'.length
    obtain ⟨o, ho, hc, n, hd⟩ := pl.isList
    exact call_list_seq p (.inl rfl) ho hc hd (fun h' c' kp e => fin its r' hz h' c' kp e) (by simp only [List.size_toArray] <;> omega)
  · obtain ⟨its, r', pl, hz⟩ := I.tuple hq
    have hlen := r'.length
    obtain ⟨o, ho, hc, n, hd⟩ := pl
    exact call_list_seq p (.inr rfl) ho hc hd (fun h' c' kp e => fin its r' hz h' c' kp e) (by simp only [List.size_toArray] <;> omega)
theorem call_tuple_of : CallR X (.type "tuple") (fun xs H Q => ∃ p ys, xs = [.ref p] ∧ ((SqL X.K H p ys ∧ ∀ l, H l = none → Q (.ref l) (upd H l (.tup ys))) ∨ (SqT X.K H p ys ∧ Q (.ref p) H))) := by
  intro pins s σ H xs us Q I r h
  obtain ⟨p, ys, rfl, h⟩ := h
  obtain ⟨u, rfl, rx⟩ := vals1 r
  cases rx
  rcases h with ⟨hq, q⟩ | ⟨hq, q⟩
  · obtain ⟨its, r', pl, hz⟩ := I.list hq
    have hlen := r'.length
    refine call_tuple_list pl.isList (fun h' kp => ?_) (by simp only [List.size_toArray] <;> omega)
    have I1 : Inv X pins σ H { s with heap := h' } := I.kept (t' := s.toks) kp
    have I2 : Inv X pins σ (upd H h'.objs.size (.tup ys)) { s with heap := h'.push { cls := .type "tuple", data := .seq its.toArray } } :=
      I1.laid (t' := s.toks) (fun b o e => Heap.get?_push_of_some _ e) (Nat.le_refl _) (show ObjOk X.prog X.w _ _ _ (.tup ys) from ⟨hz, its, r', IsTup.new _ _⟩)
    exact ⟨.ref h'.objs.size, _, I2, rfl, q _ (I1.hok.fresh (Nat.le_refl _))⟩
  · obtain ⟨its, r', pl, hz⟩ := I.tuple hq
    exact call_tuple_same pl ⟨.ref p, H, I, rfl, q⟩
noncomputable def tyV (K : PySem.W.Frag) (T : String) (x : V) (H : Hp) : Prop := match x with
  | .str _ => T = "str"
  | .int _ => T = "int"
  | .ref p => (T = "list" ∧ ∃ xs, SqL K H p xs) ∨ (T = "tuple" ∧ ∃ o, K.lookup p = some o ∧ o.cls = .type "tuple" ∧ o.dict = none) ∨
      (T = "dict" ∧ ((∃ kvs, H p = some (.dK kvs)) ∨ ∃ kvs, H p = some (.dT kvs))) ∨ (T = "set" ∧ ∃ S n, H p = some (.set S n))
  | _ => False
theorem tyV_is {pins : List (Addr × Obj)} {σ : St} {H : Hp} {s : Shared} {T : String} {x : V} {v : Value} (I : Inv X pins σ H s) (r : RelV x v) (ty : tyV X.K T x H) :
    s.TypeIs v T ∧ ∀ a, v = .ref a → ∃ ob, s.heap.get? a = some ob ∧ ob.dict = none := by
  cases x with
  | str z =>
    obtain ⟨t, rfl⟩ := r
    cases (show T = "str" from ty)
    exact ⟨typeIs_str s z t, fun _ e => nomatch e⟩
  | int i =>
    obtain ⟨t, rfl⟩ := r
    cases (show T = "int" from ty)
    exact ⟨typeIs_int s i t, fun _ e => nomatch e⟩
  | ref p =>
    cases r
    rcases ty with ⟨rfl, xs, hq⟩ | ⟨rfl, o, hk, hc, hd⟩ | ⟨rfl, hk⟩ | ⟨rfl, S, n, hk⟩
    · obtain ⟨its, _, pl, _⟩ := I.list hq
      refine ⟨pl.isList.typeIs, fun a e => ?_⟩
      cases e
      obtain ⟨o, n, e, c, hd, _⟩ := pl
      exact ⟨o, e, hd⟩
    · refine ⟨⟨o, I.kIn p o hk, hc⟩, fun a e => ?_⟩
      cases e
      exact ⟨o, I.kIn _ o hk, hd⟩
    · have z : ∃ o, s.heap.get? p = some o ∧ o.ExactDict := by
        rcases hk with ⟨kvs, hk⟩ | ⟨kvs, hk⟩
        · obtain ⟨_, _, _, _, o, _, _, e, ex, _⟩ := I.hok p _ hk
          exact ⟨o, e, ex⟩
        · obtain ⟨_, _, _, _, o, _, _, e, ex, _⟩ := I.hok p _ hk
          exact ⟨o, e, ex⟩
      obtain ⟨o, e, ex⟩ := z
      refine ⟨⟨o, e, ex.1⟩, fun a e2 => ?_⟩
      cases e2
      exact ⟨o, e, ex.2.1⟩
    · obtain ⟨o, _, _, _, e, ex, _⟩ := I.hok p _ hk
      refine ⟨⟨o, e, ex.1⟩, fun a e2 => ?_⟩
      cases e2
      exact ⟨o, e, ex.2.1⟩
  | _ => exact False.elim ty
noncomputable def tBM (K : PySem.W.Frag) (T : String) (r : V → List V → Hp → VK → Prop) (to : TE) (t : TA) : TE := fun σ H Q => to σ H fun x H1 => tyV K T x H1 ∧ t σ H1 fun xs H2 => r x xs H2 Q
variable {o e : Expr} {es : List Expr} {to : TE} {t : TA} {name : Str} {apos cpos : Pos} {T id : String} {r : V → List V → Hp → VK → Prop}
theorem pe_bm (pa : PlainAttrs T) (slot : Slot T name id) (hty : typeOf (.builtin id) = pure (.type "method_descriptor")) (hm : MtR X id r) (ho : PE X o to) (ha : PA X (e :: es) t)
    (hbase : attributeBase o name X.env (eval o X.env) = eval o X.env := by rfl)
    (hfew : ((backTo cpos (starEach (e :: es) X.env)).all (fun x => !x.1) && (backToKw cpos (keywordEach [] X.env)).all (fun x => x.1.isSome)
      && decide ((e :: es).length + ([] : List Keyword).length + (if ([] : List Keyword).isEmpty then 0 else 1) < 30)) = true := by rfl)
    (hline : (apos.endLine == cpos.line) = true := by rfl) (hs : starEach (e :: es) X.env = (false, eval e X.env) :: starEach es X.env := by rfl) (hplain : (backTo cpos (starEach es X.env)).any (·.1) = false := by rfl) :
    PE X (.Call (.Attribute o name apos) (e :: es) [] cpos) (tBM X.K T r to t) := by
  intro pins s σ H Q I h
  refine wpAny_Call_method_late hbase hfew hline rfl (thn (ho pins s σ H _ I h) fun v s1 ⟨x, H1, I1, r1, ty, q1⟩ => ?_)
  obtain ⟨h1, h2⟩ := tyV_is I1 r1 ty
  refine ⟨T, id, pa, slot, hty, h1, h2, ?_⟩
  have hA := ha cpos pins s1 σ H1 _ I1 q1
  rw [hs] at hA ⊢
  refine Calls.callWith_builtin (by show (false || (backTo cpos (starEach es X.env)).any (·.1)) = false; rw [hplain] <;> rfl) (Calls.evalArgs_plain ?_)
  exact thn hA fun us s2 ⟨vs, H2, I2, r2, q2⟩ => hm pins s2 σ H2 x vs v us Q I2 r1 r2 q2
/- xs.append(e), list.index on a module's tuple .. are MtR facts of 06m -/
end
end L2
namespace L2
open PySem PySem.Spec PyProof.Rows
noncomputable def MtM (X : Cx) (id : String) (r : V → List V → Hp → VK → Prop) : Prop :=
  ∀ (pins : List (Addr × Obj)) (s : Shared) (σ : St) (H : Hp) (x : V) (xs : List V) (v : Value) (us : List Value) (Q : VK), Inv X pins σ H s → RelV x v → Vals xs us → r x xs H Q →
    wpAny (model X.prog X.w) X.A (call (.builtin id) (v :: us)) (EP X pins σ Q) X.xe s
theorem Vals.one : ∀ {x : V} {us : List Value}, Vals [x] us → ∃ u, us = [u] ∧ RelV x u
  | _, _, .cons r .nil => ⟨_, rfl, r⟩
theorem Vals.two : ∀ {x y : V} {us : List Value}, Vals [x, y] us → ∃ u v, us = [u, v] ∧ RelV x u ∧ RelV y v
  | _, _, _, .cons r (.cons q .nil) => ⟨_, _, rfl, r, q⟩
theorem Vals.reverse {xs : List V} {us : List Value} (h : Vals xs us) : Vals xs.reverse us.reverse := by
  induction h with
  | nil => exact .nil
  | cons r t ih => rw [List.reverse_cons, List.reverse_cons]; exact Vals.append ih (.cons r .nil)
section
variable {X : Cx} {pins : List (Addr × Obj)} {σ : St} {H : Hp} {s : Shared} {l b : Addr} {xs ys zs : List V}
theorem Inv.lset {its its' : List Value} {n : Nat} {f : Array Value → Array Value} {t' : Nat} (I : Inv X pins σ H s) (hH : H l = some (.lst xs))
    (e : s.heap.get? l = some { cls := .type "list", data := .seq its.toArray n }) (hf : f its.toArray = its'.toArray) (hv : Vals ys its') (hz : ys.length ≤ sizeLine) :
    Inv X pins σ (upd H l (.lst ys)) { s with heap := s.heap.update l (Obj.mapSeq f), toks := t' } := by
  have q := PySem.IsL.update e f
  rw [hf] at q
  refine I.write (x := l) (e := l) (by rw [hH]; exact trivial) (.inl rfl) (fun b' u hb hu => (Heap.get?_update_other s.heap (Obj.mapSeq f) (Ne.symm hb)).trans hu) ⟨_, q⟩ ?_
  exact ⟨hz, its', _, hv, q⟩
theorem Inv.lnew {its : List Value} {t' : Nat} (I : Inv X pins σ H s) (hv : Vals ys its) (hz : ys.length ≤ sizeLine) :
    Inv X pins σ (upd H s.heap.objs.size (.lst ys)) { s with heap := s.heap.push { cls := .type "list", data := .seq its.toArray }, toks := t' } :=
  I.laid (fun _ _ q => Heap.get?_push_of_some _ q) (Nat.le_refl _) ⟨hz, its, 0, hv, Heap.get?_push_size _ rfl⟩
theorem Inv.fresh (I : Inv X pins σ H s) : H s.heap.objs.size = none := I.hok.fresh (Nat.le_refl _)
theorem Inv.lstM (I : Inv X pins σ H s) (hH : H l = some (.lst xs)) : xs.length ≤ sizeLine ∧ ∃ (its : List Value) (n : Nat), Vals xs its ∧ xs.length = its.length ∧ s.heap.get? l = some { cls := .type "list", data := .seq its.toArray n } := by
  obtain ⟨z, its, n, r, e⟩ := I.hok l _ hH
  exact ⟨z, its, n, r, r.length, e⟩
end
section
variable {X : Cx}
noncomputable def rAppend : V → List V → Hp → VK → Prop := fun x vs H Q => ∃ l xs y, x = .ref l ∧ vs = [y] ∧ H l = some (.lst xs) ∧ xs.length < sizeLine ∧ Q .non (upd H l (.lst (xs ++ [y])))
theorem mt_append : MtM X "list.append" rAppend := by
  intro pins s σ H x vs v us Q I rx rv h
  obtain ⟨l, xs, y, rfl, rfl, hH, hz, q⟩ := h
  cases rx
  obtain ⟨u, rfl, ru⟩ := rv.one
  obtain ⟨z, its, n, r, hl, e⟩ := I.lstM hH
  refine call_meets F.slot_list_append ⟨_, e, rfl⟩ F.entry_list_append (F.args_list_append_2 _ _) (PySem.list_append l its.toArray n u (by rw [List.size_toArray]; omega)) ⟨e, ?_⟩
  refine ⟨.non, _, I.lset (its' := its ++ [u]) hH e (by simp) (r.append (.cons ru .nil)) ?_, rfl, q⟩
  rw [List.length_append, List.length_singleton]
  omega
noncomputable def rCat : R2 := fun x y H Q => ∃ l b xs zs, x = .ref l ∧ y = .ref b ∧ H l = some (.lst xs) ∧ H b = some (.lst zs) ∧ xs.length + zs.length ≤ sizeLine ∧ ∀ p, H p = none → Q (.ref p) (upd H p (.lst (xs ++ zs)))
theorem op_cat : OpR X (binaryOp .Add) rCat := by
  intro pins s σ H x y v u Q I rx ry h
  obtain ⟨l, b, xs, zs, rfl, rfl, hH, hB, hz, q⟩ := h
  cases rx
  cases ry
  obtain ⟨z, its, n, r, hl, e⟩ := I.lstM hH
  obtain ⟨z2, its2, n2, r2, hl2, e2⟩ := I.lstM hB
  refine PySem.P.add_list e e2 ?_ (by rw [List.size_toArray, List.size_toArray]; omega)
  have ea : its.toArray ++ its2.toArray = (its ++ its2).toArray := by simp
  rw [ea]
  exact ⟨.ref _, _, I.lnew (t' := s.toks) (r.append r2) (by rw [List.length_append]; omega), rfl, q _ I.fresh⟩
end
section
variable {prog : Program} {w : World} {A : Around} {E : Value → Shared → Prop} {s : Shared}
end
section
variable {X : Cx}
end
end L2
namespace Att
open PySem PySem.W PySem.Calls PyProof.Rows
theorem ints_of_wellAll {P : Params} {h : Heap} : ∀ (ns : List Int) (vs : List Value), WellAll P h vs (ns.map WData.int) → IntsAre vs ns := by
  intro ns
  induction ns with
  | nil =>
    intro vs w
    rw [List.map_nil] at w
    cases w
    exact .nil
  | cons n ns ih =>
    intro vs w
    rw [List.map_cons] at w
    cases w with
    | cons a b =>
      cases a
      exact .cons _ _ (ih _ b)
theorem script_of {l : OpenLaw} {n : Nat} (hn : l.most = some n) {P : Params} {h : Heap} {args : List WData} {vals : List Value}
    (hpre : l.row.toRowW.claim.pre args = true) (hwl : WellAll P h vals args) :
    ∃ a vs ns, vals = [Value.ref a] ∧ args = [WData.list (ns.map WData.int)] ∧ h.get? a = some { cls := .type "list", data := .seq vs.toArray } ∧ IntsAre vs ns ∧ ns.length ≤ n := by
  have hsh : WShape.hasAll [] args [.list .int] = true := (pre_splitW hpre).1
  have hc : l.pre.holds [] { args := args } = true := (pre_splitW hpre).2
  obtain ⟨d, r, rfl, h1, h2⟩ := hasAllW_cons hsh
  obtain rfl := hasAllW_nil h2
  obtain ⟨xs, rfl, h3⟩ := hasW_list h1
  obtain ⟨ns, rfl⟩ := items_int h3
  have hlen : ns.length ≤ n := by
    unfold OpenLaw.pre at hc
    have h4 : (WTm.not (.lt (.lit (.int (n : Int))) (.len (.arg 0)))).holds [] { args := [.list (ns.map .int)] } = true := by
      have h4 := (holds_andW hc).1
      rw [hn] at h4
      exact h4
    have h5 := condW_of h4 (w_not (w_lt w_lit (w_len_list (w_arg rfl))))
    rw [List.length_map] at h5
    refine Nat.le_of_not_lt fun q => ?_
    have q' : (n : Int) < ((ns.length : Nat) : Int) := by omega
    first
      | (rw [decide_eq_true q'] at h5; exact absurd h5 (by decide))
      | (simp at h5; omega)
  cases hwl with
  | cons w1 w2 =>
    cases w2
    cases w1 with
    | list ho hall => exact ⟨_, _, ns, rfl, rfl, ho, ints_of_wellAll ns _ hall, hlen⟩
theorem post_true (l : OpenLaw) (args : List WData) : l.row.toRowW.claim.post args (.bool true) args = true :=
  postW_of (r := l.row.toRowW) (X := (true == true))
    (show WShape.has [] (.bool true) .bool = true by first | rfl | decide | simp [WShape.has, WShape.arms, WShape.armsAll])
    (show (WTm.eq .res (.lit (.bool true))).value [] { args := args, res := some (.bool true), after := args } = some (.bool (true == true)) from w_eq_bool (w_res rfl) w_lit) rfl
theorem attach_call {l : OpenLaw} {n : Nat} {q : Program} {loose : List Str} {XP : (Str → Option Value) → Heap → Prop} {YP : World → Heap → Prop} {d : DefRec}
    (hn : l.most = some n) (hdf : d.params.defaults = [])
    (call : ∀ (w : World) (s₀ s₁ : Shared) (mg mb : Str → Option Value) (fa : Addr) (o : Obj) (pm cd doc : Value) (a : Addr) (vs : List Value) (ns : List Int),
      Ground q loose [] XP w s₀ mg mb s₁.heap → YP w s₁.heap →
      s₁.heap.get? fa = some o → o.data = .func (docDef d.name d.params d.body d.scope pm cd doc) → s₁.heap.CodeRec cd d.name → mg d.name = some (.ref fa) →
      s₁.heap.get? a = some { cls := .type "list", data := .seq vs.toArray } → IntsAre vs ns → ns.length ≤ n → s₁.gens = #[] →
      codeAny (model l.prog w) callerA (.call (.ref fa) ⟨[.ref a], []⟩) (fun r s' => r = .ok (.ret (.bool true)) ∧ OldK s₁.heap s'.heap ∧ s'.os = s₁.os ∧ AllBare s'.gens) s₁) :
    WalkO q loose XP YP l.row.toRowW d [] (fun f vs => PySem.call f vs) := by
  intro w s₀ s₁ mg mb G Y fa o pm cd doc dV kV ho hd hcd hD hmg hg args vals as hpre hlay hrd hwl hlo
  obtain rfl : dV = .none := Dflts.none hD hdf
  obtain rfl : kV = .none := Dflts.noKw hD
  obtain ⟨a, vs, ns, rfl, rfl, hobj, hints, hlen⟩ := script_of hn hpre hwl
  refine enter_call (codeAny_mono (call w s₀ s₁ mg mb fa o pm cd doc a vs ns G Y ho (fd_plain hd) hcd hmg hobj hints hlen hg) fun r s' hq => ?_)
  obtain ⟨rfl, h2, h3, h4⟩ := hq
  exact ⟨.inl ⟨.bool true, .bool true, [], rfl, fun _ => rfl, .bool true, post_true l _, fun _ => ⟨List.Pairwise.nil, fun _ hm => (nomatch hm)⟩⟩, h2, h3, h4⟩
section
variable {prog : Program} {w : World} {A : Around} {E : Value → Shared → Prop} {s : Shared} {K : Frag}
end
end Att
namespace L2
open PySem PySem.Spec PyProof.Rows
theorem vals_ints : ∀ {vs : List Value} {ns : List Int}, IntsAre vs ns → Vals (ns.map V.int) vs
  | _, _, .nil => .nil
  | _, _, .cons n t h => .cons ⟨t, rfl⟩ (vals_ints h)
end L2
namespace L2
open PySem PySem.Spec PyProof.Rows
end L2
namespace L2
open PySem PySem.Spec PyProof.Rows
noncomputable def defArgs (s : Stmt) : Arguments := match s with
  | .FunctionDef _ a _ _ _ _ _ _ _ _ => a
  | _ => { posonlyargs := [], args := [], vararg := none, kwonlyargs := [], kw_defaults := [], kwarg := none, defaults := [] }
noncomputable def defBody (s : Stmt) : List Stmt := match s with
  | .FunctionDef _ _ b _ _ _ _ _ _ _ => b
  | _ => []
noncomputable def defScope (s : Stmt) : Scope := match s with
  | .FunctionDef _ _ _ _ _ _ sc _ _ _ => sc
  | _ => { kind := .function, names := [], isGenerator := false, isCoroutine := false }
noncomputable abbrev CX0 : CXT := fun _ _ _ _ _ _ => False
noncomputable abbrev E0 : XK := fun _ _ _ => False
theorem pass0 {X : Cx} : Passes CX0 X E0 := fun _ _ _ _ _ _ _ h => h.elim
structure Fun (K : PySem.W.Frag) (x qual : Str) (st : Stmt) (f : Addr) (fd : FuncData) : Prop where
  ex : ∃ (oc : Value) (od : Option Addr) (kV doc pm : Value) (an : Option Addr) (cdv ct : Value) (osl : Array (Option Value)),
    fd = PySem.W.fnOf x qual (defArgs st) (defBody st) (defScope st) .none kV doc pm an cdv ct ∧ K.lookup f = some ⟨oc, od, .func fd, osl⟩ ∧ PySem.W.codeIn K cdv qual = true
  kp : PySem.W.keepIn K (.ref f) = true
section
variable {P : Program} {w : World} {K : PySem.W.Frag} {mg : Str → Option Value} {base : Heap}
theorem Fun.ok {x qual : Str} {st : Stmt} {f : Addr} {fd : FuncData} {N ps : List Str} {k : Nat} {sp : Sp} (F : Fun K x qual st f fd) (S : FnScope N ps (defScope st)) (len : ∀ vs H Q E, sp vs H Q E → vs.length = ps.length)
    (hbody : ∀ (cdv : Value) (A : Around) (outer : List Env) (s : Shared) (H : Hp) (vs : List V) (Q : VK) (E : XK), Room k (A.deeper (envOfC qual (defScope st) s.heap.objs.size f cdv)) → sp vs H Q E →
      ∃ t, PSs (cxOf CX0 P w K mg base N qual (defScope st) f cdv A outer s H E).nox (defBody st) t ∧ t { nx := fun _ H' => Q .non H', rt := Q } (start N vs) H) : FnOk P w K mg base CX0 (k + 1) f fd ps sp := by
  obtain ⟨oc, od, kV, doc, pm, an, cdv, ct, osl, rfl, lk, hcd⟩ := F.ex
  refine fn_of lk hcd S len fun A outer s H vs Q E hr hsp => ?_
  obtain ⟨t, h, q⟩ := hbody cdv A outer s H vs Q E hr hsp
  exact ⟨t, h.nox, q⟩
theorem Fun.binds {x qual : Str} {st : Stmt} {f : Addr} {fd : FuncData} {ps : List Str} (F : Fun K x qual st f fd)
    (h : ∀ (kV doc pm : Value) (an : Option Addr) (cdv ct : Value) (us : List Value), us.length = ps.length → bindArgs (PySem.W.fnOf x qual (defArgs st) (defBody st) (defScope st) .none kV doc pm an cdv ct) ⟨us, []⟩ = pure (ps.zip us)) : Binds K fd ps [] := by
  obtain ⟨oc, od, kV, doc, pm, an, cdv, ct, osl, rfl, lk, hcd⟩ := F.ex
  exact .all (h kV doc pm an cdv ct)
theorem fun_mk {x qual : Str} {st : Stmt} {f : Addr} {oc : Value} {od an : Option Addr} {osl : Array (Option Value)} {kV doc pm cdv ct : Value} (l : K.lookup f = some ⟨oc, od, .func (PySem.W.fnOf x qual (defArgs st) (defBody st) (defScope st) .none kV doc pm an cdv ct), osl⟩)
    (c : PySem.W.codeIn K cdv qual = true) (k : PySem.W.keepIn K (.ref f) = true) : Fun K x qual st f (PySem.W.fnOf x qual (defArgs st) (defBody st) (defScope st) .none kV doc pm an cdv ct) := ⟨⟨oc, od, kV, doc, pm, an, cdv, ct, osl, rfl, l, c⟩, k⟩
end
theorem hu_of {A : Around} {k : Nat} (hr : Room k A) : A.units + 1 < cLine := Nat.lt_of_le_of_lt (Nat.add_le_add_left (by decide : 1 ≤ 64) _) hr.units
theorem small1000 {n : Nat} (h : n ≤ 1000) : n < sizeLine := Nat.lt_of_le_of_lt h (by decide)
section
variable {X : Cx}
theorem pv (i : Nat) {x : Str} {pos : Pos} (hN : X.N[i]? = some x := by rfl) (hv : Vis X.env.scope x := by first | exact Or.inl rfl | exact Or.inr (Or.inl rfl) | exact Or.inr (Or.inr rfl)) (hd : (x == ("__debug__" : Str)) = false := by decide)
    (hcd : (x == ("__classdict__" : Str)) = false := by decide) : PE X (.Name x pos) (tVar i) := pe_var hN hv hd hcd
end
theorem iteF {A B : Prop} (h : B) : if false = true then A else B := by
  rw [if_neg Bool.false_ne_true]
  exact h
theorem iteT {A B : Prop} (h : A) : if true = true then A else B := by
  rw [if_pos rfl]
  exact h
theorem ite2 {c A B : Prop} [Decidable c] (h1 : c → A) (h2 : ¬ c → B) : if c then A else B := by
  by_cases h : c
  · rw [if_pos h]
    exact h1 h
  · rw [if_neg h]
    exact h2 h
noncomputable def Same (H H' : Hp) : Prop := ∀ b o, H b = some o → H' b = some o
theorem Same.refl (H : Hp) : Same H H := fun _ _ h => h
theorem Same.trans {H H1 H2 : Hp} (a : Same H H1) (b : Same H1 H2) : Same H H2 := fun c o h => b c o (a c o h)
theorem Same.free {H H' : Hp} (e : Same H H') {l : Addr} (h : H' l = Option.none) : H l = Option.none := by
  cases q : H l with
  | none => rfl
  | some o =>
    rw [e l o q] at h
    cases h
theorem Same.seq {K : PySem.W.Frag} {H H' : Hp} {a : Addr} {xs : List V} (e : Same H H') (h : SqL K H a xs) : SqL K H' a xs := by
  rcases h with (h | ⟨o, h⟩) | h
  · exact .inl (.inl (e _ _ h))
  · exact .inl (.inr ⟨o, e _ _ h⟩)
  · exact .inr h
end L2
set_option Elab.async false
set_option linter.all false
set_option maxRecDepth 100000
namespace L2
open PySem PySem.Spec PyProof.Rows
section
variable {X : Cx}
noncomputable def CDivB (i j : Int) : Prop := 0 < j ∧ j.natAbs.log2 < 9000
theorem op_fdivB : OpR X (binaryOp .FloorDiv) (rI CDivB fun i j => .int (i / j)) := opI fun i j _ _ _ _ _ hc q => by
  have h1 : (0 : Int) < j := hc.1
  exact floordiv_int (by omega) (by rw [Int.fdiv_eq_ediv_of_nonneg i (by omega)]; exact q) (.inl (PyProof.noPylong_of_log2 hc.2))
theorem CDivB.of {i j : Int} (h1 : 0 < j) (h2 : j < 2 ^ 250) : CDivB i j := by
  refine ⟨h1, ?_⟩
  have h3 : j.natAbs < 2 ^ 250 := by omega
  have h4 : j.natAbs ≠ 0 := by omega
  have := (Nat.log2_lt h4).mpr h3
  omega
noncomputable def CMulB (i j : Int) : Prop := (i.natAbs < 2 ^ 250 ∧ j.natAbs < 2 ^ 250) ∨ CMul i j
theorem CMulB.ok {i j : Int} (h : CMulB i j) : IntMulOk i j := by
  rcases h with ⟨h1, h2⟩ | h
  · refine IntMulOk.of_bits (Nat.le_trans (PyProof.Rows.intBits_le h1) (by decide)) (Nat.le_trans (PyProof.Rows.intBits_le h2) (by decide))
  · exact h.ok
theorem op_mulB : OpR X (binaryOp .Mult) (rI CMulB fun i j => .int (i * j)) := opI fun _ _ _ _ _ _ _ hc q => mul_int q hc.ok
noncomputable def rIsi (K : PySem.W.Frag) : List V → Hp → VK → Prop := fun xs H Q => ∃ x T t b, xs = [x, .ty T] ∧ TyOf K H x t ∧ PySem.W.kitOne K t (.type T) = some b ∧ Q (.bl b) H
theorem call_isi : CallR X (.builtin "isinstance") (rIsi X.K) := by
  intro pins s σ H xs us Q I r h
  obtain ⟨x, T, t, b, rfl, ty, e, q⟩ := h
  obtain ⟨u, w', rfl, rx, rt⟩ := vals2 r
  cases rt
  exact isinst_ok I rx ty e fun tk => ⟨.bl b, H, I.tok tk, rfl, q⟩
end
noncomputable def plainE : Expr → Bool
  | .Starred _ _ => false
  | _ => true
theorem starEach_plain {e : Expr} {rest : List Expr} {env : Env} (h : plainE e = true) : starEach (e :: rest) env = (false, eval e env) :: starEach rest env := by
  cases e <;> first
    | rfl
    | cases h
theorem any_plain {pos : Pos} {env : Env} : ∀ {es : List Expr}, es.all plainE = true → (backTo pos (starEach es env)).any (·.1) = false
  | [], _ => rfl
  | e :: es, h => by
    rw [List.all_cons, Bool.and_eq_true] at h
    rw [starEach_plain h.1]
    show (false || (backTo pos (starEach es env)).any (·.1)) = false
    rw [any_plain h.2]
    rfl
theorem all_plain {pos : Pos} {env : Env} : ∀ {es : List Expr}, es.all plainE = true → (backTo pos (starEach es env)).all (fun x => !x.1) = true
  | [], _ => rfl
  | e :: es, h => by
    rw [List.all_cons, Bool.and_eq_true] at h
    rw [starEach_plain h.1]
    show (true && (backTo pos (starEach es env)).all (fun x => !x.1)) = true
    rw [all_plain h.2]
    rfl
section
variable {X : Cx} {CX : CXT} {k : Nat} {f C : Addr} {fd : FuncData} {ps : List Str} {sp : Sp} {dvs : List V} {ds : List Value} {E : XK} {x m : Str} {p pos apos : Pos} {e o : Expr} {es : List Expr} {ta te : TE} {t : TA} {id T : String} {r : List V → Hp → VK → Prop}
theorem pa_c (ha : PE X e te) (hr : PA X es t) (hp : plainE e = true := by rfl) : PA X (e :: es) (tCons te t) := pa_cons ha hr (starEach_plain hp)
theorem pe_callF (F : FnOk X.prog X.w X.K X.mg X.base CX k f fd ps sp) (hr : Room k X.A) (hg : Gl X x) (hm : X.mg x = some (.ref f)) (hk : PySem.W.keepIn X.K (.ref f) = true) (hb : Binds X.K fd ps ds) (hd : Vals dvs ds) (hx : Passes CX X E)
    (ha : PA X (e :: es) t) (hdb : (x == ("__debug__" : Str)) = false := by decide) (hp : (e :: es).all plainE = true := by rfl) : PE X (.Call (.Name x p) (e :: es) [] pos) (tCall sp dvs E t) := by
  rw [List.all_cons, Bool.and_eq_true] at hp
  exact pe_call F hr hg hm hk hb hd hx ha hdb (starEach_plain hp.1) (any_plain hp.2)
theorem pe_callBF (hc : CallR X (.builtin id) r) (hg : Gl X x) (hm : X.mg x = none) (hv : bootBuiltins x = some (.builtin id)) (ha : PA X (e :: es) t) (hn : x ≠ "__name__" := by decide) (hdb : (x == ("__debug__" : Str)) = false := by decide)
    (hp : (e :: es).all plainE = true := by rfl) : PE X (.Call (.Name x p) (e :: es) [] pos) (tCB r t) := by
  rw [List.all_cons, Bool.and_eq_true] at hp
  exact pe_callB hc hg hm hv ha hn hdb (starEach_plain hp.1) (any_plain hp.2)
theorem pe_callTF (hc : CallR X (.type T) r) (hg : Gl X x) (hm : X.mg x = none) (hv : bootBuiltins x = some (.type T)) (ha : PA X (e :: es) t) (hn : x ≠ "__name__" := by decide) (hdb : (x == ("__debug__" : Str)) = false := by decide)
    (hp : (e :: es).all plainE = true := by rfl) : PE X (.Call (.Name x p) (e :: es) [] pos) (tCB r t) := by
  rw [List.all_cons, Bool.and_eq_true] at hp
  exact pe_callTy hc hg hm hv ha hn hdb (starEach_plain hp.1) (any_plain hp.2)
theorem pi_rangeF {tg a : Expr} (hg : Gl X "range") (hm : X.mg "range" = none) (ha : PA X [a] t) (hp : plainE a = true := by rfl) : PI X tg (.Call (.Name "range" p) [a] [] pos) (iRng1 t) :=
  pi_range1 hg hm ha (by rw [starEach_plain hp]; rfl)
theorem pe_bmF {name : Str} {cpos : Pos} {to : TE} {rm : V → List V → Hp → VK → Prop} (pa : PlainAttrs T) (slot : Slot T name id) (hty : typeOf (.builtin id) = pure (.type "method_descriptor")) (hm : MtR X id rm) (ho : PE X o to) (ha : PA X (e :: es) t)
    (hbase : attributeBase o name X.env (eval o X.env) = eval o X.env := by rfl) (hline : (apos.endLine == cpos.line) = true := by rfl) (hp : (e :: es).all plainE = true := by rfl) (hl : (e :: es).length < 30 := by decide) :
    PE X (.Call (.Attribute o name apos) (e :: es) [] cpos) (tBM X.K T rm to t) := by
  have hp' := hp
  rw [List.all_cons, Bool.and_eq_true] at hp'
  refine pe_bm pa slot hty hm ho ha hbase ?_ hline (starEach_plain hp'.1) (any_plain hp'.2)
  rw [all_plain hp]
  show decide ((e :: es).length + 0 + 0 < 30) = true
  exact decide_eq_true hl
end
theorem bt_len : bootBuiltins "len" = some (.builtin "len") := by decide +kernel
theorem bt_isinstance : bootBuiltins "isinstance" = some (.builtin "isinstance") := by decide +kernel
theorem bt_sorted : bootBuiltins "sorted" = some (.builtin "sorted") := by decide +kernel
theorem bt_bool : bootBuiltins "bool" = some (.type "bool") := by decide +kernel
theorem bt_list : bootBuiltins "list" = some (.type "list") := by decide +kernel
theorem bt_tuple : bootBuiltins "tuple" = some (.type "tuple") := by decide +kernel
theorem bt_set : bootBuiltins "set" = some (.type "set") := by decide +kernel
theorem kit_int_bool {K : PySem.W.Frag} : PySem.W.kitOne K (.type "int") (.type "bool") = some false := by with_unfolding_all rfl
end L2
set_option Elab.async false
set_option linter.all false
set_option maxRecDepth 100000
namespace L2
open PySem PySem.Spec PyProof.Rows
structure QE (X : Cx) (e : Expr) (t : TE) : Prop where
  out : PE X e t
structure QT (X : Cx) (e : Expr) (t : TT) : Prop where
  out : PT X e t
structure QW (X : Cx) (e : Expr) (t : TT) : Prop where
  out : PW X e t
structure QA (X : Cx) (e : List Expr) (t : TA) : Prop where
  out : PA X e t
structure QSs (X : Cx) (e : List Stmt) (t : TS) : Prop where
  out : PSs X e t
structure QS (X : Cx) (e : Stmt) (t : TS) : Prop where
  out : PS X e t
structure QG (X : Cx) (e : Expr) (t : TG) : Prop where
  out : PG X e t
structure QI (X : Cx) (tg e : Expr) (t : TI) : Prop where
  out : PI X tg e t
structure QO (X : Cx) (e : Option Expr) (t : TO) : Prop where
  out : PO X e t
theorem qv {X : Cx} (i : Nat) {x : Str} {pos : Pos} (hN : X.N[i]? = some x := by rfl) (hv : Vis X.env.scope x := by first | exact Or.inl rfl | exact Or.inr (Or.inl rfl) | exact Or.inr (Or.inr rfl)) (hd : (x == ("__debug__" : Str)) = false := by decide) (hcd : (x == ("__classdict__" : Str)) = false := by decide) : QE X (.Name x pos) (tVar i) := ⟨pv (i := i) (hN := hN) (hv := hv) (hd := hd) (hcd := hcd)⟩
theorem qe_int {X : Cx} {i j pos} : QE X (.Constant (.int i) j pos) (tC (.int i)) := ⟨pe_int ⟩
theorem qe_bl {X : Cx} {b j pos} : QE X (.Constant (.bool b) j pos) (tC (.bl b)) := ⟨pe_bl ⟩
theorem qe_str {X : Cx} {x j pos} : QE X (.Constant (.str x) j pos) (tC (.str x)) := ⟨pe_str ⟩
theorem qe_bltn {X : Cx} {x : Str} {v : V} {u : Value} {pos : Pos} (hg : Gl X x) (hm : X.mg x = none) (hv : bootBuiltins x = some u) (r : RelV v u) (hn : x ≠ "__name__" := by decide) (hd : (x == ("__debug__" : Str)) = false := by decide) : QE X (.Name x pos) (tC v) := ⟨pe_bltn (hg := hg) (hm := hm) (hv := hv) (r := r) (hn := hn) (hd := hd)⟩
theorem qe_op {X : Cx} {a : Expr} {b : Expr} {ta : TE} {tb : TE} {pos : Pos} {op : Operator} {r : R2} (ho : OpR X (binaryOp op) r) (ha : QE X a ta) (hb : QE X b tb) : QE X (.BinOp a op b pos) (tOp r ta tb) := ⟨pe_op (ho := ho) (ha := ha.out) (hb := hb.out)⟩
theorem qe_cmpR {X : Cx} {a : Expr} {b : Expr} {ta : TE} {tb : TE} {pos : Pos} {op : CmpOp} {r : R2} (ho : OpR X (compareOp op) r) (ha : QE X a ta) (hb : QE X b tb) (hm : behindInMarks op b = false) : QE X (.Compare a [op] [b] pos) (tOp r ta tb) := ⟨pe_cmpR (ho := ho) (ha := ha.out) (hb := hb.out) (hm := hm)⟩
theorem qt_cmpR {X : Cx} {a : Expr} {b : Expr} {ta : TE} {tb : TE} {pos : Pos} {op : CmpOp} {r : R2} (ho : OpR X (compareOp op) r) (ha : QE X a ta) (hb : QE X b tb) (hm : behindInMarks op b = false) : QT X (.Compare a [op] [b] pos) (tTest (tOp r ta tb)) := ⟨pt_cmpR (ho := ho) (ha := ha.out) (hb := hb.out) (hm := hm)⟩
theorem qt_val {X : Cx} {e : Expr} {t : TE} (h : QE X e t) (he : ∀ whole, isTrue e X.env whole = (do let v ← whole; standAt e.pos; holding [v] (truthy v)) := by intro _; rfl) : QT X e (tB t) := ⟨pt_val (h := h.out) (he := he)⟩
theorem qw_or1 {X : Cx} {a : Expr} {pos : Pos} {tA : TT} (ha : QT X a tA) : QW X (.BoolOp .Or [a] pos) tA := ⟨pw_or1 (ha := ha.out)⟩
theorem qw_or {X : Cx} {a : Expr} {b : Expr} {pos : Pos} {tA : TT} {tB' : TT} {rest : List Expr} (ha : QT X a tA) (hb : QW X (.BoolOp .Or (b :: rest) pos) tB') : QW X (.BoolOp .Or (a :: b :: rest) pos) (tOr tA tB') := ⟨pw_or (ha := ha.out) (hb := hb.out)⟩
theorem qt_not {X : Cx} {a : Expr} {pos : Pos} {tA : TT} (ha : QT X a tA) : QT X (.UnaryOp .Not a pos) (tNot tA) := ⟨pt_not (ha := ha.out)⟩
theorem qe_not {X : Cx} {a : Expr} {ta : TE} {pos : Pos} (ha : QE X a ta) : QE X (.UnaryOp .Not a pos) (tNotV ta) := ⟨pe_not (ha := ha.out)⟩
theorem qe_ifExp {X : Cx} {a : Expr} {b : Expr} {ta : TE} {tb : TE} {pos : Pos} {tA : TT} {c : Expr} (hc : QT X c tA) (ha : QE X a ta) (hb : QE X b tb) : QE X (.IfExp c a b pos) (tIf tA ta tb) := ⟨pe_ifExp (hc := hc.out) (ha := ha.out) (hb := hb.out)⟩
theorem qss_nil {X : Cx} : QSs X [] tNext := ⟨pss_nil ⟩
theorem qss_cons {X : Cx} {st : Stmt} {rest : List Stmt} {t : TS} {u : TS} (h1 : QS X st t) (h2 : QSs X rest u) : QSs X (st :: rest) (tSeq t u) := ⟨pss_cons (h1 := h1.out) (h2 := h2.out)⟩
theorem qss_one {X : Cx} {st : Stmt} {t : TS} (h1 : QS X st t) : QSs X [st] t := ⟨pss_one (h1 := h1.out)⟩
theorem qs_expr {X : Cx} {e : Expr} {te : TE} {pos : Pos} (he : QE X e te) (hs : swapsWith e none pos.line X.env = pure false := by rfl) : QS X (.Expr e pos) (tDrop te) := ⟨ps_expr (he := he.out) (hs := hs)⟩
theorem qs_ret {X : Cx} {e : Expr} {te : TE} {pos : Pos} (he : QE X e te) : QS X (.Return (some e) pos) (tRet te) := ⟨ps_ret (he := he.out)⟩
theorem qs_if {X : Cx} {t : TS} {u : TS} {pos : Pos} {c : Expr} {a b : List Stmt} {tc : TT} (hc : QT X c tc) (ha : QSs X a t) (hb : QSs X b u) : QS X (.If c a b pos) (tIfS tc t u) := ⟨ps_if (hc := hc.out) (ha := ha.out) (hb := hb.out)⟩
theorem qg_name {X : Cx} {pos : Pos} {i : Nat} {x : Str} (hN : X.N.Nodup) (hi : X.N[i]? = some x) (hx : Loc X.env.scope x) (hf : X.fn x = true ∨ X.env.scope.names.lookup x = some .local := by first | exact .inl rfl | exact .inr rfl | assumption) : QG X (.Name x pos) (gName i) := ⟨pg_name (hN := hN) (hi := hi) (hx := hx) (hf := hf)⟩
theorem qg_sub {X : Cx} {pos : Pos} {o i : Expr} {to ti : TE} {t : TSet} (ho : QE X o to) (hi : QE X i ti) (hs : PSet X t) (ha : ∀ v, assign (.Subscript o i pos) X.env v = (do
      let ov ← holding [v] (eval o X.env)
      let iv ← holding [v, ov] (eval i X.env)
      standAt pos
      holding [v, ov, iv] (setItem ov iv v)
      release [v, ov, iv] []) := by intro _; rfl) : QG X (.Subscript o i pos) (gSub to ti t) := ⟨pg_sub (ho := ho.out) (hi := hi.out) (hs := hs) (ha := ha)⟩
theorem qs_asg {X : Cx} {pos : Pos} {tg e : Expr} {te : TE} {g : TG} (he : QE X e te) (hg : QG X tg g) (hs : swapsWithSole [tg] e pos.line X.env = pure false := by rfl) (hw : swappedStores [tg] e X.env = pure none := by rfl) (h1 : (assignEach [tg] X.env).map (·.2) = [assign tg X.env] := by rfl) : QS X (.Assign [tg] e pos) (tAsg te g) := ⟨ps_asg (he := he.out) (hg := hg.out) (hs := hs) (hw := hw) (h1 := h1)⟩
theorem qs_set {X : Cx} {pos : Pos} {i : Nat} {x : Str} {e : Expr} {te : TE} {pos' : Pos} (hN : X.N.Nodup) (hi : X.N[i]? = some x) (hx : Loc X.env.scope x) (he : QE X e te) (hs : swapsWith e (some (.Name x pos')) pos.line X.env = pure false := by rfl) (hf : X.fn x = true ∨ X.env.scope.names.lookup x = some .local := by first | exact .inl rfl | exact .inr rfl | assumption) : QS X (.Assign [.Name x pos'] e pos) (tAsg te (gName i)) := ⟨ps_set (hN := hN) (hi := hi) (hx := hx) (he := he.out) (hs := hs) (hf := hf)⟩
theorem qs_while {X : Cx} {pos : Pos} {c : Expr} {body : List Stmt} {tc : TT} {tb : TS} (hp : PassesOwn (model X.prog X.w) X.A X.env X.xe) (hc : QT X c tc) (hb : QSs X body tb) : QS X (.While c body [] pos) (tWhile tc tb) := ⟨ps_while (hp := hp) (hc := hc.out) (hb := hb.out)⟩
theorem qi_list {X : Cx} {tg : Expr} {l : Expr} {tl : TE} (hl : QE X l tl) : QI X tg l (iList X.K tl) := ⟨pi_list (hl := hl.out)⟩
theorem qi_tup {X : Cx} {tg : Expr} {l : Expr} {tl : TE} (hl : QE X l tl) : QI X tg l (iTup X.K tl) := ⟨pi_tup (hl := hl.out)⟩
theorem qs_for {X : Cx} {tg : Expr} {iter : Expr} {body : List Stmt} {wi : TI} {g : TG} {tb : TS} {pos : Pos} (hp : PassesOwn (model X.prog X.w) X.A X.env X.xe) (hc : X.calm = true) (hi : QI X tg iter wi) (hg : QG X tg g) (hb : QSs X body tb) (hs : ∀ x, foldedSetIterable iter X.env x = pure x := by intro _; rfl) : QS X (.For tg iter body [] pos) (tFor wi g tb) := ⟨ps_for (hp := hp) (hc := hc) (hi := hi.out) (hg := hg.out) (hb := hb.out) (hs := hs)⟩
theorem qe_tup {X : Cx} {es : List Expr} {t : TA} {pos : Pos} {x1} (h : QA X es t) : QE X (.Tuple es x1 pos) (tTup t) := ⟨pe_tup (h := h.out)⟩
theorem qe_lst {X : Cx} {es : List Expr} {t : TA} {pos : Pos} (h : QA X es t) : QE X (.List es pos) (tLst t) := ⟨pe_lst (h := h.out)⟩
theorem qa_nil {X : Cx} : QA X [] tNil := ⟨pa_nil ⟩
theorem qa_c {X : Cx} {e : Expr} {es : List Expr} {te : TE} {t : TA} (ha : QE X e te) (hr : QA X es t) (hp : plainE e = true := by rfl) : QA X (e :: es) (tCons te t) := ⟨pa_c (ha := ha.out) (hr := hr.out) (hp := hp)⟩
theorem qe_callF {X : Cx} {CX : CXT} {k : Nat} {f : Addr} {fd : FuncData} {ps : List Str} {sp : Sp} {dvs : List V} {ds : List Value} {E : XK} {x : Str} {p : Pos} {pos : Pos} {e : Expr} {es : List Expr} {t : TA} (F : FnOk X.prog X.w X.K X.mg X.base CX k f fd ps sp) (hr : Room k X.A) (hg : Gl X x) (hm : X.mg x = some (.ref f)) (hk : PySem.W.keepIn X.K (.ref f) = true) (hb : Binds X.K fd ps ds) (hd : Vals dvs ds) (hx : Passes CX X E) (ha : QA X (e :: es) t) (hdb : (x == ("__debug__" : Str)) = false := by decide) (hp : (e :: es).all plainE = true := by rfl) : QE X (.Call (.Name x p) (e :: es) [] pos) (tCall sp dvs E t) := ⟨pe_callF (F := F) (hr := hr) (hg := hg) (hm := hm) (hk := hk) (hb := hb) (hd := hd) (hx := hx) (ha := ha.out) (hdb := hdb) (hp := hp)⟩
theorem qe_callBF {X : Cx} {x : Str} {p : Pos} {pos : Pos} {e : Expr} {es : List Expr} {t : TA} {id : String} {r : List V → Hp → VK → Prop} (hc : CallR X (.builtin id) r) (hg : Gl X x) (hm : X.mg x = none) (hv : bootBuiltins x = some (.builtin id)) (ha : QA X (e :: es) t) (hn : x ≠ "__name__" := by decide) (hdb : (x == ("__debug__" : Str)) = false := by decide) (hp : (e :: es).all plainE = true := by rfl) : QE X (.Call (.Name x p) (e :: es) [] pos) (tCB r t) := ⟨pe_callBF (hc := hc) (hg := hg) (hm := hm) (hv := hv) (ha := ha.out) (hn := hn) (hdb := hdb) (hp := hp)⟩
theorem qe_callTF {X : Cx} {x : Str} {p : Pos} {pos : Pos} {e : Expr} {es : List Expr} {t : TA} {T : String} {r : List V → Hp → VK → Prop} (hc : CallR X (.type T) r) (hg : Gl X x) (hm : X.mg x = none) (hv : bootBuiltins x = some (.type T)) (ha : QA X (e :: es) t) (hn : x ≠ "__name__" := by decide) (hdb : (x == ("__debug__" : Str)) = false := by decide) (hp : (e :: es).all plainE = true := by rfl) : QE X (.Call (.Name x p) (e :: es) [] pos) (tCB r t) := ⟨pe_callTF (hc := hc) (hg := hg) (hm := hm) (hv := hv) (ha := ha.out) (hn := hn) (hdb := hdb) (hp := hp)⟩
theorem qi_rangeF {X : Cx} {p : Pos} {pos : Pos} {t : TA} {tg a : Expr} (hg : Gl X "range") (hm : X.mg "range" = none) (ha : QA X [a] t) (hp : plainE a = true := by rfl) : QI X tg (.Call (.Name "range" p) [a] [] pos) (iRng1 t) := ⟨pi_rangeF (hg := hg) (hm := hm) (ha := ha.out) (hp := hp)⟩
theorem qe_bmF {X : Cx} {apos : Pos} {e : Expr} {o : Expr} {es : List Expr} {t : TA} {id : String} {T : String} {name : Str} {cpos : Pos} {to : TE} {rm : V → List V → Hp → VK → Prop} (pa : PlainAttrs T) (slot : Slot T name id) (hty : typeOf (.builtin id) = pure (.type "method_descriptor")) (hm : MtR X id rm) (ho : QE X o to) (ha : QA X (e :: es) t) (hbase : attributeBase o name X.env (eval o X.env) = eval o X.env := by rfl) (hline : (apos.endLine == cpos.line) = true := by rfl) (hp : (e :: es).all plainE = true := by rfl) (hl : (e :: es).length < 30 := by decide) : QE X (.Call (.Attribute o name apos) (e :: es) [] cpos) (tBM X.K T rm to t) := ⟨pe_bmF (pa := pa) (slot := slot) (hty := hty) (hm := hm) (ho := ho.out) (ha := ha.out) (hbase := hbase) (hline := hline) (hp := hp) (hl := hl)⟩
theorem qo_none {X : Cx} : QO X none tNoPart := ⟨po_none ⟩
theorem qo_some {X : Cx} {e : Expr} {te : TE} (h : QE X e te) : QO X (some e) (tPart te) := ⟨po_some (h := h.out)⟩
theorem qe_slice {X : Cx} {e : Expr} {te : TE} {lo : Option Expr} {hi : Option Expr} {tl : TO} {th : TO} {pos : Pos} {p2 : Pos} {r : V → Option Int → Option Int → Hp → VK → Prop} (hr : SlR X r) (he : QE X e te) (hl : QO X lo tl) (hu : QO X hi th) : QE X (.Subscript e (.Slice lo hi none p2) pos) (tSl r te tl th) := ⟨pe_slice (hr := hr) (he := he.out) (hl := hl.out) (hu := hu.out)⟩
theorem qe_ix {X : Cx} {a : Expr} {b : Expr} {ta : TE} {tb : TE} {pos : Pos} {r : R2} (hr : IxR X r) (ha : QE X a ta) (hb : QE X b tb) (hs : PlainIx b) : QE X (.Subscript a b pos) (tOp r ta tb) := ⟨pe_ix (hr := hr) (ha := ha.out) (hb := hb.out) (hs := hs)⟩
theorem qw_pt {X : Cx} {e : Expr} {t : TT} (h : QW X e t) : QT X e t := ⟨h.out.pt⟩
end L2
set_option Elab.async false
set_option linter.all false
set_option maxRecDepth 100000
set_option maxHeartbeats 1000000
namespace L2
open PySem PySem.Spec PyProof.Rows
noncomputable def clOf (cells : List (Str × Addr)) : List (Str × NameKind) → List (Str × Addr) → List (Str × Addr)
  | [], acc => acc
  | (n, k) :: r, acc => clOf cells r (if (k == NameKind.free) = true then (n, (cells.lookup n).getD 0) :: acc else acc)
theorem closure_go {env : Env} : ∀ (names : List (Str × NameKind)) (acc : List (Str × Addr)), (∀ y ∈ names, y.2 = .free → ∃ c, env.cells.lookup y.1 = some c) →
    (forIn names acc fun (x : Str × NameKind) (r : List (Str × Addr)) => match x with
      | (name, kind) => if (kind == NameKind.free) = true then do let a ← cellOf env name; pure (ForInStep.yield ((name, a) :: r)) else pure (ForInStep.yield r) : Sem (List (Str × Addr))) = pure (clOf env.cells names acc)
  | [], acc, _ => rfl
  | (n, k) :: r, acc, h => by
    rw [List.forIn_cons]
    have ih := fun acc' => closure_go (env := env) r acc' fun y hy => h y (List.mem_cons_of_mem _ hy)
    by_cases hk : (k == NameKind.free) = true
    · obtain ⟨c, hc⟩ := h (n, k) List.mem_cons_self (by simpa using hk)
      have hc' : env.cells.lookup n = some c := hc
      have e : cellOf env n = pure c := by unfold cellOf; rw [hc']
      simp only [hk, if_true, e]
      rw [clOf, if_pos hk, hc']
      exact ih ((n, c) :: acc)
    · rw [clOf, if_neg hk]
      simp only [hk, if_false]
      exact ih acc
theorem closure_of {scope : Scope} {env : Env} (h : ∀ y ∈ scope.names, y.2 = .free → ∃ c, env.cells.lookup y.1 = some c) : closureFor scope env = pure (clOf env.cells scope.names []) := by
  have e := closure_go (env := env) scope.names [] h
  unfold closureFor
  show (do let r ← _; pure r) = _
  rw [show (forIn scope.names ([] : List (Str × Addr)) fun (x : Str × NameKind) (r : List (Str × Addr)) => match x with
      | (name, kind) => if (kind == NameKind.free) = true then do let a ← cellOf env name; pure (ForInStep.yield ((name, a) :: r)) else pure (ForInStep.yield r) : Sem (List (Str × Addr))) = pure (clOf env.cells scope.names []) from e]
  rfl
theorem clOf_get {cells : List (Str × Addr)} : ∀ {names : List (Str × NameKind)} {acc : List (Str × Addr)}, (∀ y ∈ names, y.2 = .free → ∃ c, cells.lookup y.1 = some c) → (∀ x c, acc.lookup x = some c → cells.lookup x = some c) →
    ∀ x c, (clOf cells names acc).lookup x = some c → cells.lookup x = some c
  | [], acc, _, ha, x, c, h => ha x c h
  | (n, k) :: r, acc, hf, ha, x, c, h => by
    rw [clOf] at h
    refine clOf_get (names := r) (fun y hy => hf y (List.mem_cons_of_mem _ hy)) (fun y d hd => ?_) x c h
    by_cases hk : (k == NameKind.free) = true
    · rw [if_pos hk] at hd
      obtain ⟨e, he⟩ := hf (n, k) List.mem_cons_self (by simpa using hk)
      have he' : cells.lookup n = some e := he
      rw [he', List.lookup_cons] at hd
      cases hy : y == n with
      | true =>
        rw [hy] at hd
        have hy' : y = n := by simpa using hy
        rw [hy', he']
        exact hd
      | false =>
        rw [hy] at hd
        exact ha y d hd
    · rw [if_neg hk] at hd
      exact ha y d hd
theorem clOf_keep {cells : List (Str × Addr)} : ∀ {names : List (Str × NameKind)} {acc : List (Str × Addr)} {x : Str}, (∃ c, acc.lookup x = some c) → ∃ c, (clOf cells names acc).lookup x = some c
  | [], acc, x, h => h
  | (n, k) :: r, acc, x, h => by
    rw [clOf]
    refine clOf_keep (names := r) ?_
    by_cases hk : (k == NameKind.free) = true
    · rw [if_pos hk, List.lookup_cons]
      cases hx : x == n with
      | true => exact ⟨_, rfl⟩
      | false => exact h
    · rw [if_neg hk]; exact h
theorem clOf_has {cells : List (Str × Addr)} : ∀ {names : List (Str × NameKind)} {acc : List (Str × Addr)} {x : Str}, names.lookup x = some .free → ∃ c, (clOf cells names acc).lookup x = some c
  | [], acc, x, h => by cases h
  | (n, k) :: r, acc, x, h => by
    rw [clOf]
    rw [List.lookup_cons] at h
    cases hx : x == n with
    | true =>
      rw [hx] at h
      have hk : k = .free := Option.some.inj h
      refine clOf_keep (names := r) ?_
      rw [hk, if_pos (show (NameKind.free == NameKind.free) = true by rfl), List.lookup_cons, hx]
      exact ⟨_, rfl⟩
    | false =>
      rw [hx] at h
      exact clOf_has (names := r) h
theorem relabel_free {scope : Scope} {env : Env} (hk : env.scope.kind = .function) : ∀ {names : List (Str × NameKind)} {x : Str}, names.lookup x = some .free → env.kindOf x = some .cell →
    (names.map fun (n, k) => if (k == NameKind.free && env.scope.kind == .function && env.kindOf n == some .cell) = true then (n, NameKind.cell) else (n, k)).lookup x = some .cell
  | [], _, h, _ => by cases h
  | (n, k) :: r, x, h, hc => by
    rw [List.lookup_cons] at h
    show List.lookup x ((if (k == NameKind.free && env.scope.kind == .function && env.kindOf n == some .cell) = true then (n, NameKind.cell) else (n, k)) :: _) = _
    cases hx : x == n with
    | true =>
      rw [hx] at h
      have hkk : k = .free := Option.some.inj h
      have hxn : x = n := by simpa using hx
      rw [hkk, hk, ← hxn, hc]
      simp [List.lookup_cons]
    | false =>
      rw [hx] at h
      have ih := relabel_free (scope := scope) hk (names := r) h hc
      by_cases hq : (k == NameKind.free && env.scope.kind == .function && env.kindOf n == some .cell) = true
      · rw [if_pos hq, List.lookup_cons, hx]; exact ih
      · rw [if_neg hq, List.lookup_cons, hx]; exact ih
theorem relabel_back {env : Env} : ∀ {names : List (Str × NameKind)} {x : Str}, (∀ y ∈ names, y.2 ≠ .cell) →
    ((names.map fun (n, k) => if (k == NameKind.free && env.scope.kind == .function && env.kindOf n == some .cell) = true then (n, NameKind.cell) else (n, k)).lookup x = some .cell ∨
     (names.map fun (n, k) => if (k == NameKind.free && env.scope.kind == .function && env.kindOf n == some .cell) = true then (n, NameKind.cell) else (n, k)).lookup x = some .free) → names.lookup x = some .free
  | [], _, _, h => by rcases h with h | h <;> cases h
  | (n, k) :: r, x, hn, h => by
    have ih := relabel_back (env := env) (names := r) (x := x) fun y hy => hn y (List.mem_cons_of_mem _ hy)
    rw [List.map_cons] at h
    rw [List.lookup_cons]
    by_cases hq : (k == NameKind.free && env.scope.kind == .function && env.kindOf n == some .cell) = true
    · have hk : k = .free := by
        rw [Bool.and_eq_true, Bool.and_eq_true] at hq
        simpa using hq.1.1
      simp only [hq, if_true, List.lookup_cons] at h
      cases hx : x == n with
      | true => rw [hk]
      | false =>
        rw [hx] at h
        exact ih h
    · simp only [hq, Bool.false_eq_true, if_false, List.lookup_cons] at h
      cases hx : x == n with
      | true =>
        rw [hx] at h
        rcases h with h | h
        · exact absurd (Option.some.inj h) (hn (n, k) List.mem_cons_self)
        · exact h
      | false =>
        rw [hx] at h
        exact ih h
noncomputable def cxC (X : Cx) (N' : List Str) (scope : Scope) (C : Addr) (s₂ : Shared) (H₂ : Hp) (ex : List Addr) : Cx :=
  { X with N := N', s₀ := s₂, H₀ := H₂, env := compEnvC scope (clOf X.env.cells scope.names []) C X.env, outer := X.stack, stack := X.stack, ex := ex, fn := fun _ => false, pn := [], xe := fun _ _ => False }
noncomputable def selS (is : List Nat) (σ : St) (v : Option V) : St := v :: is.map fun i => (σ[i]?).getD none
structure CompSc (S scope : Scope) (N : List Str) (x : Str) (ys : List Str) (is : List Nat) : Prop where
  kind : scope.kind = .function
  cell : ∀ y ∈ scope.names, y.2 ≠ .cell
  names : ∀ y ∈ scope.names, y.2 = .local → scope.names.lookup y.1 = some .local
  own : scope.names.lookup x = some .local
  free : ∀ y ∈ scope.names, y.2 = .free → S.names.lookup y.1 = some .cell
  vis : ∀ p ∈ ys.zip is, N[p.2]? = some p.1 ∧ scope.names.lookup p.1 = some .free
  len : ys.length = is.length
  nd : (x :: ys).Nodup
noncomputable def PF (X : Cx) (ifs : List Expr) (t : TT) : Prop :=
  ∀ (pins : List (Addr × Obj)) (s : Shared) (σ : St) (H : Hp) (Q : Bool → Hp → Prop), Inv X pins σ H s → t σ H Q →
    wpAny (model X.prog X.w) X.A (forIn ifs true fun c r => if r = true then do let ok ← isTrue c X.env (eval c X.env); pure (ForInStep.yield ok) else pure (ForInStep.yield r)) (TP X pins σ Q) X.xe s
structure QF (X : Cx) (ifs : List Expr) (t : TT) : Prop where
  out : PF X ifs t
noncomputable def tYes : TT := fun _ H Q => Q true H
theorem qf_nil {X : Cx} : QF X [] tYes := ⟨fun _ _ _ H _ I h => wpAny_tests_nil ⟨H, I, h⟩⟩
theorem qf_one {X : Cx} {c : Expr} {t : TT} (h : QT X c t) : QF X [c] t := ⟨fun pins s σ H Q I hw => wpAny_tests_one (h.out pins s σ H Q I hw)⟩
section
variable {X : Cx} {S scope : Scope} {N : List Str} {x : Str} {ys : List Str} {is : List Nat} {pins : List (Addr × Obj)} {σ : St} {H₂ : Hp} {s₂ : Shared} {fp : List Addr}
theorem CompSc.cellOf' (K : CompSc S scope N x ys is) (hX : X.env.scope = S) (ok : X.Ok) : ∀ y ∈ scope.names, y.2 = .free → ∃ c, X.env.cells.lookup y.1 = some c := fun y hy h =>
  ok.has y.1 (.inl (by show X.env.scope.names.lookup y.1 = _; rw [hX]; exact K.free y hy h))
theorem CompSc.cl (K : CompSc S scope N x ys is) (hX : X.env.scope = S) (ok : X.Ok) : ∀ y c, (clOf X.env.cells scope.names []).lookup y = some c → X.env.cells.lookup y = some c :=
  clOf_get (K.cellOf' hX ok) fun _ _ z => by cases z
theorem mem_free {names : List (Str × NameKind)} {y : Str} {k : NameKind} (h : names.lookup y = some k) : (y, k) ∈ names := by
  induction names with
  | nil => cases h
  | cons p r ih =>
    obtain ⟨n, k'⟩ := p
    rw [List.lookup_cons] at h
    cases hx : y == n with
    | true =>
      rw [hx] at h
      have e1 : y = n := by simpa using hx
      have e2 : k' = k := Option.some.inj h
      rw [e1, e2]
      exact List.mem_cons_self
    | false =>
      rw [hx] at h
      exact List.mem_cons_of_mem _ (ih h)
theorem cxC_ok (K : CompSc S scope N x ys is) (hX : X.env.scope = S) (I : Inv X pins σ H₂ s₂) {C : Addr} (hC : s₂.heap.objs.size ≤ C) (hfp : ∀ b ∈ fp, FpOk X pins H₂ b) (hlt : ∀ b ∈ fp, b < s₂.heap.objs.size) : (cxC X (x :: ys) scope C s₂ H₂ fp).Ok where
  mod := I.ok.mod
  kind := K.kind
  glob := I.ok.glob
  blt := I.ok.blt
  above := hC
  inj := fun y z c h1 h2 => I.ok.inj y z c (K.cl hX I.ok y c h1) (K.cl hX I.ok z c h2)
  has := fun y hy => clOf_has (relabel_back (env := X.env) K.cell hy)
  cab := fun y c h => by cases h
  hd := I.ok.hd
  frames := I.ok.frames
  stk := .inl rfl
  exf := fun b hb => ⟨fun e => absurd (Nat.lt_of_lt_of_le (hlt b hb) (Nat.le_trans hC (Nat.le_of_eq (Eq.symm e)))) (Nat.lt_irrefl _), fun y c h => (hfp b hb).2.2.2.2.1 y c (K.cl hX I.ok y c h)⟩
  bs := I.bs
  bsz := Nat.le_trans I.ok.bsz I.sz
  noex := fun b o e hb => by
    rcases (hfp b hb).2.2.2.1 with z | z
    · exact I.ok.noex b o e z
    · exact absurd (Nat.lt_of_lt_of_le (Heap.lt_size e) (Nat.le_trans I.ok.bsz z)) (Nat.lt_irrefl _)
  exfs := fun b hb z => by
    rcases List.mem_cons.mp (I.stkSub b z) with e | e
    · exact (hfp b hb).2.1 e
    · exact (hfp b hb).2.2.1 e
  funs := I.stack
  frf := I.stkFree
theorem cxC_inv (K : CompSc S scope N x ys is) (hX : X.env.scope = S) (hN : X.N = N) (hk : S.kind = .function) (I : Inv X pins σ H₂ s₂) {C D : Addr} {h₁ : Heap} {tk : Nat} {oD : Obj} (hC : s₂.heap.objs.size ≤ C) (hD : s₂.heap.objs.size ≤ D) (hDC : D ≠ C)
    (hfp : ∀ b ∈ fp, FpOk X pins H₂ b) (hlt : ∀ b ∈ fp, b < s₂.heap.objs.size) (old : ∀ b o, s₂.heap.get? b = some o → h₁.get? b = some o) (hn : h₁.Ns C fun _ => none) (hacc : h₁.get? D = some oD) (hod : ∀ v, oD.data ≠ .cell v) :
    Inv (cxC X (x :: ys) scope C s₂ H₂ fp) [(D, oD)] (selS is σ none) H₂ { s₂ with heap := h₁, toks := tk } := by
  have ok := cxC_ok K hX I hC hfp hlt
  refine ⟨ok, rfl, I.bare, Un.kept old, ⟨_, hn, fun i y v h1 h2 h3 => ?_⟩, fun y c h => ?_, I.hok.fresh hC, fun y c h => I.freeC y c (K.cl hX I.ok y c h), fun p hp => ?_, I.hok.kept old, ?_⟩
  · cases i with
    | zero =>
      have h2' : some (none : Option V) = some (some v) := h2
      cases h2'
    | succ i =>
      have h1' : ys[i]? = some y := h1
      have h2' : (is.map fun i => (σ[i]?).getD none)[i]? = some (some v) := h2
      rw [List.getElem?_map] at h2'
      cases hj : is[i]? with
      | none => rw [hj] at h2'; cases h2'
      | some j =>
        rw [hj] at h2'
        have h2'' : (σ[j]?).getD none = some v := Option.some.inj h2'
        have hσ : σ[j]? = some (some v) := by
          cases q : σ[j]? with
          | none => rw [q] at h2''; cases h2''
          | some z => rw [q] at h2''; exact congrArg some h2''
        have hz : (y, j) ∈ ys.zip is := by
          obtain ⟨a1, e1⟩ := List.getElem?_eq_some_iff.mp h1'
          obtain ⟨a2, e2⟩ := List.getElem?_eq_some_iff.mp hj
          rw [← e1, ← e2, ← List.getElem_zip (h := by rw [List.length_zip]; omega)]
          exact List.getElem_mem _
        obtain ⟨v1, v2⟩ := K.vis _ hz
        have kc : X.env.kindOf y = some .cell := by show X.env.scope.names.lookup y = _; rw [hX]; exact K.free _ (mem_free v2) rfl
        obtain ⟨m, hm, hl⟩ := I.loc
        obtain ⟨u, r, l⟩ := hl j y v (by rw [hN]; exact v1) hσ (.inr (.inl kc))
        refine ⟨u, r, .inr ?_⟩
        rcases l with ⟨l1, _⟩ | ⟨_, c, l2, l3⟩
        · rw [kc] at l1; cases l1
        · obtain ⟨c', hc'⟩ := clOf_has (cells := X.env.cells) (acc := []) v2
          have e : c' = c := by have := K.cl hX I.ok y c' hc'; rw [l2] at this; exact (Option.some.inj this).symm
          subst e
          refine ⟨.inl (relabel_free (scope := scope) (by rw [hX]; exact hk) v2 kc), c', hc', ?_⟩
          obtain ⟨o, ho, hd⟩ := l3
          exact ⟨o, old _ _ ho, hd⟩
  · obtain ⟨v, o, ho, hd⟩ := I.cell y c (K.cl hX I.ok y c h)
    exact ⟨v, o, old _ _ ho, hd⟩
  · have e : p = (D, oD) := by simpa [cxC] using hp
    subst e
    refine ⟨hacc, I.hok.fresh hD, hDC, fun z => ?_, hod⟩
    obtain ⟨_, o, ho, _⟩ := ok.funs.mem z
    exact absurd (Nat.lt_of_lt_of_le (Heap.lt_size ho) hD) (Nat.lt_irrefl _)
  · show (selS is σ none).length = (x :: ys).length
    unfold selS
    rw [List.length_cons, List.length_map, List.length_cons, K.len]
theorem cxC_end (I : Inv X pins σ H₂ s₂) {C D : Addr} {N' : List Str} {σ' : St} {H' : Hp} {s' : Shared} {pl : List (Addr × Obj)} (I' : Inv (cxC X N' scope C s₂ H₂ fp) pl σ' H' s') (hD : s₂.heap.objs.size ≤ D) (hDn : H' D = none)
    (hfp : ∀ b ∈ fp, FpOk X pins H₂ b) {zs : List V} {its : List Value} {n : Nat} (hz : zs.length ≤ sizeLine) (r : Vals zs its) (hd : s'.heap.get? D = some { cls := .type "list", data := .seq its.toArray n }) :
    Inv X pins σ (upd H' D (.lst zs)) s' := by
  have b : Un (frs X.stack) fp H₂ H' s₂.heap s'.heap := I'.base
  have ne : ∀ c o, s₂.heap.get? c = some o → c ≠ D := fun c o e z => absurd (Nat.lt_of_lt_of_le (Heap.lt_size e) (Nat.le_trans hD (Nat.le_of_eq (Eq.symm z)))) (Nat.lt_irrefl _)
  have D2 : H₂ D = none := I.hok.fresh hD
  refine I.call' I'.os ⟨b.keep, b.slot, fun c o e n hx => ?_, b.there, fun c xs e => ?_, fun c o u e => ?_, fun c ps e => ?_⟩ (fun c u e => ?_) I'.bare fun c hc => ⟨(hfp c hc).2.2.2.1, (hfp c hc).2.1, (hfp c hc).2.2.2.2.1, (hfp c hc).2.2.2.2.2⟩
  · rw [upd_ne (ne c o e)]; exact b.free c o e n hx
  · rw [upd_ne (ne_of_none e D2)]; exact b.tups c xs e
  · rw [upd_ne (ne_of_none e D2)]; exact b.frzs c o u e
  · rw [upd_ne (ne_of_none e D2)]; exact b.tbls c ps e
  · by_cases hc : c = D
    · subst hc
      rw [upd_same] at e
      cases e
      exact ⟨hz, its, n, r, hd⟩
    · rw [upd_ne hc] at e
      exact (I'.hok c u e).stay (fun _ _ _ q => q) (fun d q => by rw [upd_ne (ne_of_none q hDn)]; exact q) fun d xs q => by rw [upd_ne (ne_of_none q hDn)]; exact q
end
section
variable {prog : Program} {w : World} {A : Around} {R : Result → Shared → Prop} {s : Shared}
theorem comp_loop {elt target iter : Expr} {ifs : List Expr} {scope : Scope} {pos : Pos} {it acc : Value} {env : Env} (I : Nat → Shared → Prop)
    (turn : ∀ n s, I n s → wpAny (model prog w) A (pyNext it) (fun r s₁ => match r with
      | none => R (.ok .next) s₁
      | some v => wpAny (model prog w) A (letOwnedTupleGo target it v) (fun _ s₁' => wpAny (model prog w) A (assign target env v) (fun _ s₂ =>
          wpAny (model prog w) A (forIn ifs true fun c r => if r = true then do let ok ← isTrue c env (eval c env); pure (ForInStep.yield ok) else pure (ForInStep.yield r)) (fun ok s₃ =>
            if ok = true then wpAny (model prog w) A (eval elt env) (fun x s₄ =>
              wpAny (model prog w) A (call (.builtin "list.append") [acc, x]) (fun _ s₅ => ∃ m, m < n ∧ I m s₅) (fun _ _ => False) s₄) (fun _ _ => False) s₃
            else ∃ m, m < n ∧ I m s₃) (fun _ _ => False) s₂) (fun _ _ => False) s₁') (fun _ _ => False) s₁) (fun _ _ => False) s)
    (n : Nat) (h : I n s) :
    codeAny (model prog w) A (.compLoop (.ListComp elt [⟨target, iter, ifs, 0⟩] scope pos) 0 it acc env) R s := by
  refine codeAny_loop rfl I (fun n s hI => ?_) n h
  show wpAny _ A ((compTurn (.ListComp elt [⟨target, iter, ifs, 0⟩] scope pos) 0 it acc env).onRaise (fun x => do noteFrame x env; theTreesLotGoes x)) _ _ s
  refine wpAny_noted ?_
  rw [compTurn_list]
  have nf : ∀ {E : Value → Shared → Prop} (e : Value) (s' : Shared), False → E e s' := fun _ _ z => z.elim
  refine wpAny_bind (wpAny_standAt (wpAny_bind (wpAny_mono (turn n s hI) (fun r s₁ h₁ => ?_) nf)))
  cases r with
  | none => exact wpAny_pure h₁
  | some v =>
    refine wpAny_bind (wpAny_mono h₁ (fun _ s₁' h₁' => ?_) nf)
    refine wpAny_bind (wpAny_mono h₁' (fun _ s₂ h₂ => wpAny_bind (wpAny_mono h₂ (fun ok s₃ h₃ => ?_) nf)) nf)
    cases ok with
    | false => exact wpAny_pure ⟨rfl, h₃⟩
    | true =>
      exact wpAny_bind (wpAny_bind (wpAny_mono h₃ (fun x s₄ h₄ => wpAny_bind (wpAny_mono h₄ (fun _ s₅ h₅ => wpAny_pure (wpAny_pure ⟨rfl, h₅⟩)) nf)) nf))
end
noncomputable def CompW (is : List Nat) (tc : TT) (te : TE) (σ : St) (Q : VK) (J : It) (H1 : Hp) : Prop := ∃ W : Nat → Nat → List V → Hp → Prop, (∃ m, W 0 m [] H1) ∧ ∀ i m zs H, W i m zs H →
  (J.stop i H ∧ zs.length ≤ sizeLine ∧ ∀ p, H p = none → Q (.ref p) (upd H p (.lst zs))) ∨
  (J.go i H ∧ zs.length ≤ sizeLine ∧ ∀ x H', J.yld i H x H' → tc (selS is σ (some x)) H' fun b H2 => if b = true then te (selS is σ (some x)) H2 fun y H3 => ∃ m', m' < m ∧ W (i + 1) m' (zs ++ [y]) H3 else ∃ m', m' < m ∧ W (i + 1) m' zs H2)
noncomputable def tComp (wi : TI) (is : List Nat) (tc : TT) (te : TE) : TE := fun σ H Q => wi σ H (CompW is tc te σ Q)
section
variable {X : Cx} {S scope : Scope} {N : List Str} {x : Str} {ys : List Str} {is : List Nat} {pins : List (Addr × Obj)} {σ : St} {H₂ : Hp} {s₂ : Shared} {fp : List Addr} {elt iter : Expr} {px pos : Pos} {ifs : List Expr} {tc : TT} {te : TE}
theorem comp_block {J : It} {it : Addr} {tn : Nat → Heap → Prop} {Q : VK} {RR : Value → Addr → Result → Shared → Prop} {E : Value → Shared → Prop} (K : CompSc S scope N x ys is) (hX : X.env.scope = S) (hN : X.N = N) (hk : S.kind = .function) (hc : X.calm = true)
    (hf : ∀ C s₂ H₂ ex, QF (cxC X (x :: ys) scope C s₂ H₂ ex) ifs tc) (he : ∀ C s₂ H₂ ex, QE (cxC X (x :: ys) scope C s₂ H₂ ex) elt te)
    (I : Inv X pins σ H₂ s₂) (T : Turn X.prog X.w X.K (.Name x px) J fp it tn) (st : tn 0 s₂.heap) (hfp : ∀ b ∈ fp, FpOk X pins H₂ b)
    {W : Nat → Nat → List V → Hp → Prop} {m0 : Nat} (w0 : W 0 m0 [] H₂)
    (turn : ∀ i m zs H, W i m zs H → (J.stop i H ∧ zs.length ≤ sizeLine ∧ ∀ p, H p = none → Q (.ref p) (upd H p (.lst zs))) ∨
      (J.go i H ∧ zs.length ≤ sizeLine ∧ ∀ x H', J.yld i H x H' → tc (selS is σ (some x)) H' fun b H2 => if b = true then te (selS is σ (some x)) H2 fun y H3 => ∃ m', m' < m ∧ W (i + 1) m' (zs ++ [y]) H3 else ∃ m', m' < m ∧ W (i + 1) m' zs H2))
    (fin : ∀ D C s' H' m', Inv X pins σ H' s' → FpOk X pins H' C → s'.heap.Ns C m' → Q (.ref D) H' → RR (.ref D) C (.ok .next) s') :
    wpAny (model X.prog X.w) X.A (newList []) (fun acc s₃ => wpAny (model X.prog X.w) X.A (newFunctionEnv scope X.env.globals (clOf X.env.cells scope.names []) [] X.env.qual none .none (some X.env)) (fun cenv s₄ =>
      codeAny (model X.prog X.w) X.A (.compStart (.ListComp elt [⟨.Name x px, iter, ifs, 0⟩] scope pos) 0 (.ref it) acc { cenv with scope := relabel scope X.env }) (RR acc cenv.locals) s₄) E s₃) E s₂ := by
  refine wpAny_newObj_type (wpAny_newFunctionEnv K.cell (by intro y hy; simp at hy) (fun h₁ hns₁ hsb₁ => ?_) K.kind)
  dsimp only at hns₁ hsb₁ ⊢
  generalize hH2 : s₂.heap.push { cls := .type "list", dict := none, data := .seq ([] : List Value).toArray } = H2 at hns₁ hsb₁ ⊢
  have hCs : H2.objs.size = s₂.heap.objs.size + 1 := by rw [← hH2, Heap.size_push]
  have hDC : s₂.heap.objs.size ≠ H2.objs.size := by rw [hCs]; exact Nat.ne_of_lt (Nat.lt_succ_self _)
  have hC : s₂.heap.objs.size ≤ H2.objs.size := by rw [hCs]; exact Nat.le_succ _
  have hlt : ∀ b ∈ fp, b < s₂.heap.objs.size := fun b hb => by obtain ⟨o, e, _⟩ := T.obj 0 _ st b hb; exact Heap.lt_size e
  have old : ∀ b o, s₂.heap.get? b = some o → h₁.get? b = some o := fun b o e => hsb₁.extBut b o (by rw [hCs]; exact Nat.ne_of_lt (Nat.lt_succ_of_lt (Heap.lt_size e))) (Heap.get?_push_of_some _ (hH2 ▸ Heap.get?_push_of_some _ e))
  have hacc : h₁.get? s₂.heap.objs.size = some { cls := .type "list", data := .seq ([] : List Value).toArray 0 } := hsb₁.extBut _ _ hDC (Heap.get?_push_of_some _ (hH2 ▸ Heap.get?_push_size _ rfl))
  have st₁ : tn 0 h₁ := T.keep _ _ _ st fun b _ o e => old b o e
  -- the records of the iterator through the block
  have fpC : ∀ {H' : Hp} {pl : List (Addr × Obj)}, (∀ p ∈ pl, ∀ b ∈ fp, p.1 ≠ b) → (∀ b ∈ fp, H' b = none) → ∀ b ∈ fp, FpOk (cxC X (x :: ys) scope H2.objs.size s₂ H₂ fp) pl H' b := fun {H' pl} hpl hn b hb => by
    have ok := cxC_ok K hX I hC hfp hlt
    exact ⟨hn b hb, (ok.exf b hb).1, ok.exfs b hb, .inl hb, (ok.exf b hb).2, fun p hp => hpl p hp b hb⟩
  have Dfp : ∀ (o : Obj), ∀ p ∈ [(s₂.heap.objs.size, o)], ∀ b ∈ fp, p.1 ≠ b := fun o p hp b hb e => by
    have e1 : p = (s₂.heap.objs.size, o) := by simpa using hp
    subst e1
    exact absurd (hlt b hb) (by rw [← e]; exact Nat.lt_irrefl _)
  have loop : ∀ s₃ : Shared, s₃ = { s₂ with heap := h₁, toks := s₂.toks + ([] : List (Str × Value)).length } →
      codeAny (model X.prog X.w) X.A (.compLoop (.ListComp elt [⟨.Name x px, iter, ifs, 0⟩] scope pos) 0 (.ref it) (.ref s₂.heap.objs.size) (compEnvC scope (clOf X.env.cells scope.names []) H2.objs.size X.env))
        (RR (.ref s₂.heap.objs.size) H2.objs.size) s₃ := by
    rintro s₃ rfl
    have I0 := cxC_inv K hX hN hk I (tk := s₂.toks + ([] : List (Str × Value)).length) hC (Nat.le_refl _) hDC hfp hlt old hns₁ hacc (fun v z => by cases z)
    refine comp_loop (fun n s' => ∃ (i : Nat) (v0 : Option V) (zs : List V) (its : List Value) (k : Nat) (H' : Hp), Inv (cxC X (x :: ys) scope H2.objs.size s₂ H₂ fp) [(s₂.heap.objs.size, { cls := .type "list", data := .seq its.toArray k })] (selS is σ v0) H' s' ∧
      Vals zs its ∧ tn i s'.heap ∧ (∀ b ∈ fp, H' b = none) ∧ W i n zs H') ?_ m0 ⟨0, none, [], [], 0, H₂, I0, .nil, st₁, fun b hb => (hfp b hb).1, w0⟩
    rintro n s3 ⟨i, v0, zs, its, k, H3, I3, rv, st3, fr3, w3⟩
    have hD3 := I3.pin _ (List.mem_append_right _ (List.mem_singleton.mpr rfl))
    rcases turn i n zs H3 w3 with ⟨stop, hz, q⟩ | ⟨go, hz, step⟩
    · refine thn (T.done (cxC X (x :: ys) scope H2.objs.size s₂ H₂ fp) rfl rfl rfl hc i _ s3 _ H3 _ I3 (fpC (Dfp _) fr3) st3 stop) fun r s4 ⟨hr, I4⟩ => ?_
      subst hr
      have hD4 := I4.pin _ (List.mem_append_right _ (List.mem_singleton.mpr rfl))
      have I5 := cxC_end I I4 (Nat.le_refl _) hD4.2.1 hfp hz rv hD4.1
      obtain ⟨m', hm', _⟩ := I4.loc
      refine fin _ _ s4 _ m' I5 ?_ hm' (q _ hD4.2.1)
      refine I.fpOk hC ?_
      rw [upd_ne (Ne.symm hDC)]
      exact I4.free
    · refine thn (T.item (cxC X (x :: ys) scope H2.objs.size s₂ H₂ fp) rfl rfl rfl hc i _ s3 _ H3 _ I3 (fpC (Dfp _) fr3) st3 go) fun r s4 ⟨u, hr, h4⟩ => ?_
      subst hr
      refine thn h4 fun _ s5 ⟨xv, H5, I5, r5, y5, st5, fr5⟩ => ?_
      have I5' := I5.pinned (fpC (Dfp _) fr5) (T.obj _ _ st5)
      have pg : PG (cxC X (x :: ys) scope H2.objs.size s₂ H₂ fp) (.Name x px) (gName 0) := pg_name K.nd rfl (.inl (lookup_relabel_local K.own)) (.inr (lookup_relabel_local K.own))
      refine thn (pg _ s5 _ H5 xv u (fun σ2 H2 => σ2 = selS is σ (some xv) ∧ H2 = H5) I5' r5 ⟨rfl, rfl⟩) fun _ s6 ⟨σ6, H6, I6, e6, e6'⟩ => ?_
      subst e6
      subst e6'
      -- what stays of the list and the iterator
      have back : ∀ {s7 : Shared} {H7 : Hp}, Inv (cxC X (x :: ys) scope H2.objs.size s₂ H₂ fp) ([(s₂.heap.objs.size, { cls := .type "list", data := .seq its.toArray k })] ++ pinsAt fp s5.heap) (selS is σ (some xv)) H7 s7 →
          tn (i + 1) s7.heap ∧ (∀ b ∈ fp, H7 b = none) ∧ s7.heap.get? s₂.heap.objs.size = some { cls := .type "list", data := .seq its.toArray k } ∧ H7 s₂.heap.objs.size = none := fun {s7 H7} I7 => by
        refine ⟨T.keep _ _ _ st5 fun b hb o e => (I7.pin (b, o) (List.mem_append_right _ (List.mem_append_right _ (mem_pinsAt hb e)))).1, fun b hb => ?_, ?_, ?_⟩
        · obtain ⟨o, e, d⟩ := T.obj _ _ st5 b hb
          exact (I7.pin (b, o) (List.mem_append_right _ (List.mem_append_right _ (mem_pinsAt hb e)))).2.1
        · exact (I7.pin (s₂.heap.objs.size, { cls := .type "list", data := .seq its.toArray k }) (List.mem_append_right _ (List.mem_append_left _ (List.mem_singleton.mpr rfl)))).1
        · exact (I7.pin (s₂.heap.objs.size, { cls := .type "list", data := .seq its.toArray k }) (List.mem_append_right _ (List.mem_append_left _ (List.mem_singleton.mpr rfl)))).2.1
      refine thn ((hf _ _ _ _).out _ s6 _ H6 _ I6 (step xv H6 y5)) fun b s7 ⟨H7, I7, q7⟩ => ?_
      cases b with
      | false =>
        have q7' : ∃ m', m' < n ∧ W (i + 1) m' zs H7 := by simpa using q7
        obtain ⟨m', hm', w7⟩ := q7'
        obtain ⟨b1, b2, b3, b4⟩ := back I7
        rw [if_neg Bool.false_ne_true]
        exact ⟨m', hm', i + 1, some xv, zs, its, k, H7, I7.unpinned, rv, b1, b2, w7⟩
      | true =>
        rw [if_pos rfl]
        have q7' := q7
        rw [if_pos rfl] at q7'
        refine thn ((he _ _ _ _).out _ s7 _ H7 _ I7 q7') fun yv s8 ⟨y, H8, I8, r8, m', hm', w8⟩ => ?_
        obtain ⟨b1, b2, b3, b4⟩ := back I8
        refine append_at b3 (fun h9 sb9 e9 => ?_) (by rw [List.size_toArray, ← rv.length]; exact hz)
        have ok := cxC_ok K hX I hC hfp hlt
        have I8' : Inv (cxC X (x :: ys) scope H2.objs.size s₂ H₂ fp) [] (selS is σ (some xv)) H8 s8 := I8.pins_of fun p hp => by cases hp
        have I9 : Inv (cxC X (x :: ys) scope H2.objs.size s₂ H₂ fp) [] (selS is σ (some xv)) H8 { s8 with heap := h9 } := I8'.turned (t' := s8.toks) (it := s₂.heap.objs.size) (fun b o hb e => (sb9.2 b hb).trans e) b4 hDC (.inr (Nat.le_refl _))
          (fun y c h z => by
            obtain ⟨v, o, ho, _⟩ := I.cell y c (K.cl hX I.ok y c h)
            have := Heap.lt_size ho
            rw [z] at this
            exact Nat.lt_irrefl _ this) (fun p hp => by cases hp)
        refine ⟨m', hm', i + 1, some xv, zs ++ [y], its ++ [yv], k + 1, H8, ?_, rv.append (.cons r8 .nil), T.keep _ _ _ b1 fun b hb o e => (sb9.2 b fun z => absurd (hlt b hb) (by rw [z]; exact Nat.lt_irrefl _)).trans e, b2, w8⟩
        refine I9.pins_of fun p hp => ?_
        have e1 : p = (s₂.heap.objs.size, { cls := .type "list", data := .seq (its ++ [yv]).toArray (k + 1) }) := by simpa using hp
        subst e1
        refine ⟨by rw [e9, List.push_toArray], b4, hDC, fun z => ?_, fun v z => by cases z⟩
        obtain ⟨_, o, ho, _⟩ := ok.funs.mem z
        exact absurd (Heap.lt_size ho) (Nat.lt_irrefl _)
  exact codeAny_compStart_list (loop _ rfl) (T.self _ 0 _ _ _ st₁ (loop _ rfl))
end
section
variable {X : Cx} {S scope : Scope} {N : List Str} {x : Str} {ys : List Str} {is : List Nat} {elt iter : Expr} {px pos : Pos} {ifs : List Expr} {wi : TI} {tc : TT} {te : TE}
theorem qe_comp (K : CompSc S scope N x ys is) (hi : QI X (.Name x px) iter wi) (hf : ∀ C s₂ H₂ ex, QF (cxC X (x :: ys) scope C s₂ H₂ ex) ifs tc) (he : ∀ C s₂ H₂ ex, QE (cxC X (x :: ys) scope C s₂ H₂ ex) elt te)
    (hc : X.calm = true := by rfl) (hX : X.env.scope = S := by rfl) (hN : X.N = N := by rfl) (hk : S.kind = .function := by rfl) (hs : ∀ v, foldedSetIterable iter X.env v = pure v := by intro _; rfl) :
    QE X (.ListComp elt [⟨.Name x px, iter, ifs, 0⟩] scope pos) (tComp wi is tc te) := by
  refine ⟨fun pins s σ H Q I h => ?_⟩
  rw [eval_ListComp]
  refine wpAny_comprehension_free (use := none) rfl hs (closure_of (K.cellOf' hX I.ok)) K.kind K.names (thn (hi.out pins s σ H _ I h) fun v s1 h1 => thn h1 fun itv s2 h2 => ?_)
  obtain ⟨it, fp, tn, J, H2, rfl, I2, T, st2, f2, W, ⟨m0, w0⟩, turn⟩ := h2
  refine comp_block (RR := fun acc C => compPost (model X.prog X.w) X.A X.xe none (EP X pins σ Q) acc C) K hX hN hk hc hf he I2 T st2 f2 w0 turn ?_
  intro D C s' H' m' I' fC hm' q
  obtain ⟨f0, f1, f3, f4, f5, f6⟩ := fC
  exact ⟨m', hm', fun h' hs' => ⟨.ref D, H', I'.turned (t' := s'.toks) (fun b o hb e => (hs'.2 b hb).trans e) f0 f1 f4 f5 f6, rfl, q⟩⟩
theorem qs_setC {i : Nat} {y : Str} {py spos : Pos} (hNd : X.N.Nodup) (hy : X.N[i]? = some y) (hl : X.env.scope.names.lookup y = some .local) (K : CompSc S scope N x ys is) (hi : QI X (.Name x px) iter wi)
    (hf : ∀ C s₂ H₂ ex, QF (cxC X (x :: ys) scope C s₂ H₂ ex) ifs tc) (he : ∀ C s₂ H₂ ex, QE (cxC X (x :: ys) scope C s₂ H₂ ex) elt te)
    (hsw : swapsWith (.ListComp elt [⟨.Name x px, iter, ifs, 0⟩] scope pos) (some (.Name y py)) spos.line X.env = pure true := by rfl)
    (hc : X.calm = true := by rfl) (hX : X.env.scope = S := by rfl) (hN : X.N = N := by rfl) (hk : S.kind = .function := by rfl) (hs : ∀ v, foldedSetIterable iter X.env v = pure v := by intro _; rfl) :
    QS X (.Assign [.Name y py] (.ListComp elt [⟨.Name x px, iter, ifs, 0⟩] scope pos) spos) (tAsg (tComp wi is tc te) (gName i)) := by
  refine ⟨fun pins s σ H D I h => ?_⟩
  rw [exec_Assign_Name_used _ _ _ _ hsw]
  refine wpAny_bind (wpAny_standAt (wpAny_bind ?_))
  show wpAny _ X.A (do let _ ← comprehension (.ListComp elt [⟨.Name x px, iter, ifs, 0⟩] scope pos) scope X.env _ (newList []) false (eval iter X.env) (some (assign (.Name y py) X.env))) _ _ s
  refine wpAny_bind (thn (wpAny_comprehension_free (use := some (assign (.Name y py) X.env)) (Q := fun _ s' => SP X pins D .next s') rfl hs (closure_of (K.cellOf' hX I.ok)) K.kind K.names
    (thn (hi.out pins s σ H _ I h) fun v s1 h1 => thn h1 fun itv s2 h2 => ?_)) fun _ s' hq => wpAny_pure (wpAny_pure hq))
  obtain ⟨it, fp, tn, J, H2, rfl, I2, T, st2, f2, W, ⟨m0, w0⟩, turn⟩ := h2
  refine comp_block (RR := fun acc C => compPost (model X.prog X.w) X.A X.xe (some (assign (.Name y py) X.env)) (fun _ s' => SP X pins D .next s') acc C) (Q := fun v H => D.nx (σ.set i (some v)) H) K hX hN hk hc hf he I2 T st2 f2 w0 turn ?_
  intro Dl C s' H' m' I' fC hm' q
  obtain ⟨f0, f1, f3, f4, f5, f6⟩ := fC
  show wpAny _ X.A (assign (.Name y py) X.env (.ref Dl)) _ _ _
  obtain ⟨oC, es, ep, hoC, hdC, hrC⟩ := hm'
  have Ip : Inv X (pins ++ [(C, oC)]) σ H' s' := I'.pins_of fun p hp => (List.mem_append.mp hp).elim (fun z => I'.pin p (List.mem_append_right _ z)) fun z => by
    have e : p = (C, oC) := by simpa using z
    subst e
    exact ⟨hoC, f0, f1, f3, fun v z => by rw [hdC] at z; cases z⟩
  refine wpAny_assign_Name (store_ok Ip hNd hy (.inl hl) (v := .ref Dl) rfl (fun s'' I'' => ?_) (.inr hl))
  have hC2 := (I''.pin (C, oC) (List.mem_append_right _ (List.mem_append_right _ (List.mem_singleton.mpr rfl)))).1
  refine ⟨m', ⟨oC, es, ep, hC2, hdC, hrC⟩, fun h' hs' => ⟨_, H', I''.unpinned.turned (t' := s''.toks) (fun b o hb e => (hs'.2 b hb).trans e) f0 f1 f4 f5 f6, q⟩⟩
end
theorem comp_range {lo : Int} {n : Nat} {is : List Nat} {tc : TT} {te : TE} {σ : St} {H : Hp} {Q : VK} (Pv : Nat → List V → Hp → Prop) (h0 : Pv 0 [] H) (hl : ∀ i zs H, Pv i zs H → zs.length ≤ sizeLine)
    (hs : ∀ i zs H (R : List V → Hp → Prop), (∀ zs H, Pv (i + 1) zs H → R zs H) → i < n → Pv i zs H → tc (selS is σ (some (.int (lo + i)))) H fun b H2 => if b = true then te (selS is σ (some (.int (lo + i)))) H2 fun y H3 => R (zs ++ [y]) H3 else R zs H2)
    (hd : ∀ zs H, Pv n zs H → ∀ p, H p = none → Q (.ref p) (upd H p (.lst zs))) :
    CompW is tc te σ Q (Itr lo n) H := by
  refine ⟨fun i m zs H => m = n - i ∧ i ≤ n ∧ Pv i zs H, ⟨n, by simp, Nat.zero_le _, h0⟩, ?_⟩
  rintro i m zs H ⟨rfl, hi, p⟩
  by_cases hlt : i < n
  · refine .inr ⟨hlt, hl i zs H p, fun x H' y => ?_⟩
    obtain ⟨e, y⟩ := y
    subst e y
    exact hs i zs _ (fun zs H => ∃ m', m' < n - i ∧ m' = n - (i + 1) ∧ i + 1 ≤ n ∧ Pv (i + 1) zs H) (fun zs H q => ⟨n - (i + 1), by omega, rfl, hlt, q⟩) hlt p
  · have e : i = n := by omega
    subst e
    exact .inl ⟨Nat.le_refl _, hl _ _ _ p, hd zs H p⟩
theorem comp_tup {K : PySem.W.Frag} {a : Addr} {xs : List V} {is : List Nat} {tc : TT} {te : TE} {σ : St} {H : Hp} {Q : VK} (Pv : Nat → List V → Hp → Prop) (h0 : Pv 0 [] H) (hl : ∀ i zs H, Pv i zs H → zs.length ≤ sizeLine) (hq : ∀ i zs H, Pv i zs H → SqT K H a xs)
    (hs : ∀ i x zs H (R : List V → Hp → Prop), (∀ zs H, Pv (i + 1) zs H → R zs H) → xs[i]? = some x → Pv i zs H → tc (selS is σ (some x)) H fun b H2 => if b = true then te (selS is σ (some x)) H2 fun y H3 => R (zs ++ [y]) H3 else R zs H2)
    (hd : ∀ zs H, Pv xs.length zs H → ∀ p, H p = none → Q (.ref p) (upd H p (.lst zs))) :
    CompW is tc te σ Q (Itt K a) H := by
  refine ⟨fun i m zs H => m = xs.length - i ∧ i ≤ xs.length ∧ Pv i zs H, ⟨xs.length, by simp, Nat.zero_le _, h0⟩, ?_⟩
  rintro i m zs H ⟨rfl, hi, p⟩
  by_cases hlt : i < xs.length
  · refine .inr ⟨⟨xs, xs[i], hq i zs H p, List.getElem?_eq_getElem hlt⟩, hl i zs H p, fun x H' y => ?_⟩
    obtain ⟨e, y⟩ := y
    subst e
    exact hs i x zs _ (fun zs H => ∃ m', m' < xs.length - i ∧ m' = xs.length - (i + 1) ∧ i + 1 ≤ xs.length ∧ Pv (i + 1) zs H) (fun zs H q => ⟨xs.length - (i + 1), by omega, rfl, hlt, q⟩) (y xs (hq i zs _ p)) p
  · have e : i = xs.length := by omega
    exact .inl ⟨⟨xs, hq i zs H p, by omega⟩, hl _ _ _ p, by rw [e] at p; exact hd zs H p⟩
end L2
set_option Elab.async false
set_option linter.all false
set_option maxRecDepth 100000
set_option maxHeartbeats 1000000
namespace HT
open PySem PySem.Spec PyProof.Rows
section
variable {prog : Program} {w : World} {A : Around} {E : Value → Shared → Prop} {s : Shared}
end
end HT
namespace L2
open PySem PySem.Spec PyProof.Rows
section
variable {X : Cx} {e st : Expr} {te ts : TE} {pos p2 : Pos}
end
end L2
set_option Elab.async false
set_option linter.all false
set_option maxRecDepth 100000
set_option maxHeartbeats 1000000
namespace RvT
open PySem PySem.Spec PyProof.Rows
theorem owner_rev : Manifest.owners.lookup (String.ofList ['d', 'e', 's', 'r', 'e', 'v', 'e', 'r'].reverse) = some Manifest.sig_reversed := by kernel_rfl
theorem slot_next : Slot "reversed" "__next__" "reversed.__next__" :=
  .of (owner := "reversed") (n := "__next__") (by rw [typeLookup_type, builtinLookup_eq_fast]; kernel_rfl) (by decide +kernel) (by decide +kernel) (by decide +kernel)
    (by first | exact .inl (by decide +kernel) | exact .inr (by decide +kernel)) (by rw [isSubtype_type]; kernel_rfl)
theorem entry_next : entryFor table "reversed.__next__" = some Builtin.«reversed.__next__» := entryFor_of_tree (by kernel_rfl)
theorem args_next (a : Value) : argsOk "reversed.__next__" ⟨[a], []⟩ := by
  unfold argsOk; rw [signature?_of (id := "reversed.__next__") (n := ['_', '_', 't', 'x', 'e', 'n', '_', '_']) (o := ['d', 'e', 's', 'r', 'e', 'v', 'e', 'r']) (by kernel_rfl) owner_rev]; kernel_rfl
theorem slot_iter : Slot "reversed" "__iter__" "reversed.__iter__" :=
  .of (owner := "reversed") (n := "__iter__") (by rw [typeLookup_type, builtinLookup_eq_fast]; kernel_rfl) (by decide +kernel) (by decide +kernel) (by decide +kernel)
    (by first | exact .inl (by decide +kernel) | exact .inr (by decide +kernel)) (by rw [isSubtype_type]; kernel_rfl)
theorem args_iter (a : Value) : argsOk "reversed.__iter__" ⟨[a], []⟩ := by
  unfold argsOk; rw [signature?_of (id := "reversed.__iter__") (n := ['_', '_', 'r', 'e', 't', 'i', '_', '_']) (o := ['d', 'e', 's', 'r', 'e', 'v', 'e', 'r']) (by kernel_rfl) owner_rev]; kernel_rfl
theorem entry_iter : entryFor table "reversed.__iter__" = some Builtin.«dict_keyiterator.__iter__» :=
  entryFor_alias (id' := "dict_keyiterator.__iter__") (by kernel_rfl) (by first | rfl | decide +kernel | (unfold String.splitOn; simp +decide [String.splitOnAux])) (by decide +kernel) (by kernel_rfl)
theorem no_reversed : typeLookup (.type "tuple") "__reversed__" = pure none := by rw [typeLookup_type, builtinLookup_eq_fast]; kernel_rfl
theorem sub_tuple_dict : isSubtype (.type "tuple") (.type "dict") = pure false := by rw [isSubtype_type]; kernel_rfl
noncomputable def revObj (t : Addr) (i : Int) : Obj := { cls := .type "reversed", data := .fields #[.ref t, rawInt i] }
noncomputable def IsRev (h : Heap) (a t : Addr) (i : Int) : Prop := ∃ o, h.get? a = some o ∧ o.cls = .type "reversed" ∧ o.data = .fields #[.ref t, rawInt i]
theorem IsRev.typeIs {s : Shared} {a t : Addr} {i : Int} (x : IsRev s.heap a t i) : s.TypeIs (.ref a) "reversed" := let ⟨o, ho, hc, _⟩ := x; ⟨o, ho, hc⟩
section
variable {prog : Program} {w : World} {A : Around} {E : Value → Shared → Prop} {s : Shared}
theorem meets_new (t : Addr) (items : Array Value) (hz : items.size < 2 ^ 63) :
    Meets (Builtin.«reversed.__new__» ⟨[.type "reversed", .ref t], []⟩) (fun _ R s => IsTup s.heap t items ∧ ∀ tk, R (.ok (.ret (.ref s.heap.objs.size))) { s with heap := s.heap.push (revObj t ((items.size : Int) - 1)), toks := tk }) :=
  .of_wp fun prog w A R s h => by
    obtain ⟨ht, h⟩ := h
    unfold Builtin.«reversed.__new__»
    refine wpAny_bind (wpAny_of_eq (newClass_reversed _) ?_)
    try dsimp only
    refine wpAny_bind (wpAny_of_eq (a := ()) (by first | rfl | kernel_rfl) ?_)
    refine wpAny_bind (wpAny_of_eq (a := ()) (by first | rfl | kernel_rfl) ?_)
    try dsimp only
    refine wpAny_bind (wpAny_specialOf ht.typeIs no_reversed ?_)
    try dsimp only
    refine wpAny_bind ?_
    show wpAny _ _ (isInstance (Value.ref t) (.type "dict") >>= _) _ _ _
    refine wpAny_bind (wpAny_isInstance (T := "tuple") (b := false) ht.typeIs sub_tuple_dict ?_)
    simp only [Bool.false_eq_true, if_false]
    refine wpAny_bind (wpAny_specialOf ht.typeIs PyProof.Rows.slot_tuple_getitem.lookup ?_)
    try dsimp only
    rw [if_pos (by decide +kernel)]
    refine wpAny_pure ?_
    simp only [Bool.not_true, Bool.false_eq_true, if_false]
    refine wpAny_bind (len_tuple ht (by omega) ?_)
    refine wpAny_bind (wpAny_of_eq (a := some (items.size : Int)) rfl ?_)
    try dsimp only
    refine wpAny_bind (m := newObj (.type "reversed") (.fields #[.ref t, rawInt ((items.size : Int) - 1)])) (wpAny_newObj_type ?_)
    exact wpAny_pure ⟨_, rfl, h _⟩
theorem next_item {it t : Addr} {i : Nat} {items : Array Value} {x : Value} {Q : Option Value → Shared → Prop} (hit : IsRev s.heap it t (i : Int)) (ht : IsTup s.heap t items) (hi : (i : Int) < 2 ^ 63) (hx : items[i]? = some x) (hne : t ≠ it)
    (hQ : ∀ h' tk, IsRev h' it t ((i : Int) - 1) → Heap.SameBut it s.heap h' → Q (some x) { s with heap := h', toks := tk }) : wpAny (model prog w) A (pyNext (.ref it)) Q E s := by
  obtain ⟨o, ho, hc, hd⟩ := id hit
  unfold pyNext
  refine wpAny_bind (wpAny_attempt (wpAny_callSpecial?_slot (name := Str.ofString "__next__") hit.typeIs slot_next
    (wpAny_call_entry slot_next hit.typeIs entry_next ?_ (args_next _))))
  unfold Builtin.«reversed.__next__»
  refine wpAny_bind (wpAny_of_eq (a := (Value.ref it, [])) rfl ?_)
  try dsimp only
  refine wpAny_bind (wpAny_field ho hd (x := .ref t) rfl ?_)
  refine wpAny_bind (wpAny_field ho hd (x := rawInt (i : Int)) rfl ?_)
  show wpAny _ _ (if (i : Int) < 0 then _ else _) _ _ s
  rw [if_neg (by omega)]
  refine wpAny_bind (wpAny_specialOf ht.typeIs PyProof.Rows.slot_tuple_getitem.lookup ?_)
  simp only [Option.isNone_some, Bool.false_eq_true, if_false]
  refine wpAny_bind (wpAny_mkInt ?_)
  have hsz := (Array.getElem?_eq_some_iff.mp hx).1
  refine wpAny_bind (wpAny_attempt (getItem_tuple (s := { s with toks := s.toks + 1 }) (j := i) ht (by omega) hi (by rw [seqIndex_of (by omega) (by omega), Int.toNat_natCast]) hx ?_))
  show wpAny _ _ (field (.ref it) 1 >>= _) _ _ _
  refine wpAny_bind (wpAny_field (s := { s with toks := s.toks + 1 }) ho hd (x := rawInt (i : Int)) rfl ?_)
  show wpAny _ _ (setField (.ref it) 1 (rawInt ((i : Int) - 1)) >>= _) _ _ _
  refine wpAny_bind (wpAny_setField (s := { s with toks := s.toks + 1 }) ho hd (by simp) ?_)
  refine wpAny_pure ⟨x, rfl, wpAny_pure (hQ _ _ ?_ (Heap.SameBut.update ..))⟩
  exact ⟨_, Heap.get?_update_self _ ho (Obj.isFreed_of_fields (Obj.data_mapFields hd _)), (Obj.cls_mapFields ..).trans hc, by
    rw [Obj.data_mapFields hd]; simp⟩
theorem next_end {it t : Addr} {Q : Option Value → Shared → Prop} (hh : A.handled = none) (hit : IsRev s.heap it t (-1))
    (hQ : ∀ h', (∀ b o, b ≠ it → s.heap.get? b = some o → h'.get? b = some o) → Q none { s with heap := h' }) : wpAny (model prog w) A (pyNext (.ref it)) Q E s := by
  obtain ⟨o, ho, hc, hd⟩ := id hit
  unfold pyNext
  refine wpAny_bind (wpAny_attempt (wpAny_callSpecial?_slot (name := Str.ofString "__next__") hit.typeIs slot_next
    (wpAny_call_entry slot_next hit.typeIs entry_next ?_ (args_next _))))
  unfold Builtin.«reversed.__next__»
  refine wpAny_bind (wpAny_of_eq (a := (Value.ref it, [])) rfl ?_)
  try dsimp only
  refine wpAny_bind (wpAny_field ho hd (x := .ref t) rfl ?_)
  refine wpAny_bind (wpAny_field ho hd (x := rawInt (-1)) rfl ?_)
  show wpAny _ _ (if (-1 : Int) < 0 then _ else _) _ _ s
  rw [if_pos (by decide)]
  refine wpAny_bind (wpAny_rule ?_)
  refine wpAny_bind ?_
  show wpAny _ _ (setField (.ref it) 1 (rawInt (-1)) >>= _) _ _ _
  refine wpAny_bind (wpAny_setField ho hd (by simp) ?_)
  have ho2 := Heap.get?_update_self (Obj.mapFields (·.setIfInBounds 1 (rawInt (-1)))) ho (Obj.isFreed_of_fields (Obj.data_mapFields hd _))
  refine wpAny_setField ho2 (Obj.data_mapFields hd _) (by simp) ?_
  first
  | show wpAny _ _ (newExc (.type "StopIteration") [] >>= _) _ _ _
  | (refine wpAny_bind ?_; show wpAny _ _ (newExc (.type "StopIteration") [] >>= _) _ _ _)
  refine wpAny_bind ?_
  simp only [newExc, newTuple]
  refine wpAny_bind (wpAny_newObj_type ?_ (by size_fits))
  refine wpAny_bind (m := firstArgMember _ _) (wpAny_of_eq (a := Value.none) (by first | rfl | (simp only [firstArgMember]; rfl)) ?_)
  refine wpAny_newObj_type ?_ (by size_fits)
  simp only [raiseNew]
  refine wpAny_bind (wpAny_handled ?_)
  first | rw [show A.in1.handled = none from hh] | rw [hh]
  refine wpAny_bind (wpAny_pure (wpAny_throw ?_))
  refine wpAny_bind (wpAny_isInstance (T := "StopIteration") (b := true) ⟨_, Heap.get?_push_size _ rfl, rfl⟩ isSubtype_stop ?_)
  refine wpAny_pure (hQ _ fun b ob hb e => ?_)
  exact Heap.get?_push_of_some _ (Heap.get?_push_of_some _ ((Heap.get?_update_other _ _ (Ne.symm hb)).trans ((Heap.get?_update_other _ _ (Ne.symm hb)).trans e)))
theorem iter_self {it t : Addr} {i : Int} {Q : Value → Shared → Prop} (hit : IsRev s.heap it t i) (h : Q (.ref it) s) : wpAny (model prog w) A (pyIter (.ref it)) Q E s := by
  refine wpAny_pyIter_slot hit.typeIs slot_iter (wpAny_call_entry slot_iter hit.typeIs entry_iter ?_ (args_iter _))
  show wpAny _ _ (ret (.ref it)) _ _ s
  exact wpAny_pure ⟨_, rfl, "reversed", _, hit.typeIs, slot_next.lookup, h⟩
end
end RvT
namespace L2
open PySem PySem.Spec PyProof.Rows
end L2
set_option Elab.async false
set_option linter.all false
set_option maxRecDepth 100000
set_option maxHeartbeats 1000000
namespace HT
open PySem PySem.Spec PyProof.Rows
section
variable {prog : Program} {w : World} {A : Around} {E : Value → Shared → Prop} {s : Shared}
theorem getItem_tuple_whole {t sl : Addr} {items : Array Value} {vl vu : Value} {lo hi : Option Int} {Q : Value → Shared → Prop} (ht : IsTup s.heap t items) (hs : s.heap.IsSliceOf sl vl vu .none) (pl : IsPart vl lo) (pu : IsPart vu hi)
    (hw : sIx items.size 0 lo = 0 ∧ sIx items.size items.size hi = items.size) (h : Q (.ref t) s) : wpAny (model prog w) A (getItem (.ref t) (.ref sl)) Q E s := by
  obtain ⟨os, hos, hcs, hds⟩ := id hs
  have hTs : s.TypeIs (.ref sl) "slice" := ⟨os, hos, hcs⟩
  unfold getItem
  try with_reducible refine wpAny_holding ?_
  first | refine wpAny_bind (wpAny_pure ?_) | skip
  refine wpAny_bind (wpAny_sequenceKey ht.typeIs (by decide) ?_)
  refine wpAny_bind (wpAny_callSpecial?_slot (name := Str.ofString "__getitem__") ht.typeIs PyProof.Rows.slot_tuple_getitem
    (wpAny_call_entry PyProof.Rows.slot_tuple_getitem ht.typeIs entry_tuple_getitem ?_ (args_tuple_getitem _ _)))
  show wpAny _ _ (Builtin.Tuple.tupleItemsOf (.ref t) >>= _) _ _ s
  refine wpAny_bind (tupleItemsOf_ ht ?_)
  refine wpAny_bind (wpAny_typeOf hTs ?_)
  rw [if_pos (by decide)]
  refine wpAny_bind (sliceApplied_gen hs pl pu ?_)
  have hyes : (((sIx items.size 0 lo : Nat) : Int) == 0 && (1 : Int) == 1 && (sIx items.size items.size hi - sIx items.size 0 lo) == items.size) = true := by
    rw [hw.1, hw.2]
    simp
  show wpAny _ _ (if (((sIx items.size 0 lo : Nat) : Int) == 0 && (1 : Int) == 1 && (sIx items.size items.size hi - sIx items.size 0 lo) == items.size) = true then _ else _) _ _ s
  rw [if_pos hyes]
  refine wpAny_bind (m := Builtin.Tuple.tupleIsExact (.ref t)) (wpAny_bind (wpAny_typeOf ht.typeIs (wpAny_pure ?_)))
  rw [if_pos (by decide)]
  first
    | exact wpAny_bind (wpAny_rule (wpAny_bind (wpAny_pure (wpAny_pure ⟨_, rfl, wpAny_pure h⟩))))
    | exact wpAny_bind (wpAny_rule (wpAny_pure ⟨_, rfl, wpAny_pure h⟩))
    | exact wpAny_bind (wpAny_rule (wpAny_bind (wpAny_pure ⟨_, rfl, wpAny_pure h⟩)))
end
end HT
namespace L2
open PySem PySem.Spec PyProof.Rows
section
variable {X : Cx}
noncomputable def rSlW (K : PySem.W.Frag) : V → Option Int → Option Int → Hp → VK → Prop := fun x lo hi H Q => ∃ a xs, x = .ref a ∧ SqT K H a xs ∧ (HT.sIx xs.length 0 lo = 0 ∧ HT.sIx xs.length xs.length hi = xs.length) ∧ Q (.ref a) H
theorem sl_tupW : SlR X (rSlW X.K) := by
  intro pins s σ H x v vl vu lo hi sl Q I rx hs pl pu h
  obtain ⟨a, xs, rfl, hx, hw, q⟩ := h
  cases rx
  obtain ⟨its, r, ht, hz⟩ := I.tuple hx
  have hlen : its.toArray.size = xs.length := by rw [List.size_toArray]; exact r.length.symm
  refine ⟨"tuple", _, PyProof.Rows.slot_tuple_getitem.lookup, ht.typeIs, ?_⟩
  exact HT.getItem_tuple_whole ht hs pl pu (by rw [hlen]; exact hw) ⟨.ref a, H, I, rfl, q⟩
end
end L2
set_option Elab.async false
set_option linter.all false
set_option maxRecDepth 100000
set_option maxHeartbeats 1000000
namespace L2
open PySem PySem.Spec PyProof.Rows
section
variable {X : Cx}
theorem sl_str : SlR X (fun x lo hi H Q => ∃ z, x = .str z ∧ z.length ≤ sizeLine ∧ Q (.str (Txt.slice z lo hi)) H) := by
  intro pins s σ H x v vl vu lo hi sl Q I rx hs pl pu h
  obtain ⟨z, rfl, hz, q⟩ := h
  obtain ⟨t, rfl⟩ := rx
  refine ⟨"str", _, F.slot_str_getitem.lookup, typeIs_str _ _ _, ?_⟩
  have fin : ∀ t' k, EP X pins σ Q (.str (Txt.slice z lo hi) t') { s with toks := k } := fun t' k => ⟨.str _, H, I.tok _, ⟨_, rfl⟩, q⟩
  cases pl with
  | none =>
    cases pu with
    | none => exact wpAny_getItem_str_slice (l := none) (u := none) (st := none) hs rfl (post_val_or_str ⟨Nat.le_trans (Txt.slice_le z _ _) hz, fin⟩)
    | int j uj => exact wpAny_getItem_str_slice (l := none) (u := some (j, uj)) (st := none) hs rfl (post_val_or_str ⟨Nat.le_trans (Txt.slice_le z _ _) hz, fin⟩)
  | int i ui =>
    cases pu with
    | none => exact wpAny_getItem_str_slice (l := some (i, ui)) (u := none) (st := none) hs rfl (post_val_or_str ⟨Nat.le_trans (Txt.slice_le z _ _) hz, fin⟩)
    | int j uj => exact wpAny_getItem_str_slice (l := some (i, ui)) (u := some (j, uj)) (st := none) hs rfl (post_val_or_str ⟨Nat.le_trans (Txt.slice_le z _ _) hz, fin⟩)
theorem strsAre_of {ys : List Str} : ∀ {us : List Value}, Vals (ys.map V.str) us → StrsAre us ys := by
  induction ys with
  | nil => intro us r; rw [List.map_nil] at r; cases r; exact .nil
  | cons n ns ih =>
    intro us r
    rw [List.map_cons] at r
    cases r with
    | cons r1 r2 =>
      obtain ⟨t, e⟩ := r1
      subst e
      exact .cons n t (ih r2)
theorem mt_join : MtR X "str.join" (fun x vs H Q => ∃ (z : Str) (p : Addr) (ys : List Str), x = .str z ∧ vs = [.ref p] ∧ SqL X.K H p (ys.map V.str) ∧ (ys.map (·.length)).sum + ys.length * z.length ≤ 16777216 ∧ Q (.str (Txt.join z ys)) H) := by
  intro pins s σ H x vs v us Q I rx rv h
  obtain ⟨z, p, ys, rfl, rfl, hq, hok, q⟩ := h
  obtain ⟨t, rfl⟩ := rx
  obtain ⟨u, rfl, ru⟩ := vals1 rv
  cases ru
  obtain ⟨its, r', pl, hz⟩ := I.list hq
  exact join_list pl.isList (strsAre_of r') hok fun t' k => ⟨.str _, H, I.tok _, ⟨_, rfl⟩, q⟩
end
theorem comp_list {K : PySem.W.Frag} {a : Addr} {xs : List V} {is : List Nat} {tc : TT} {te : TE} {σ : St} {H : Hp} {Q : VK} (Pv : Nat → List V → Hp → Prop) (h0 : Pv 0 [] H) (hl : ∀ i zs H, Pv i zs H → zs.length ≤ sizeLine) (hq : ∀ i zs H, Pv i zs H → SqL K H a xs)
    (hs : ∀ i x zs H (R : List V → Hp → Prop), (∀ zs H, Pv (i + 1) zs H → R zs H) → xs[i]? = some x → Pv i zs H → tc (selS is σ (some x)) H fun b H2 => if b = true then te (selS is σ (some x)) H2 fun y H3 => R (zs ++ [y]) H3 else R zs H2)
    (hd : ∀ zs H, Pv xs.length zs H → ∀ p, H p = none → Q (.ref p) (upd H p (.lst zs))) :
    CompW is tc te σ Q (Itl K a) H := by
  refine ⟨fun i m zs H => m = xs.length - i ∧ i ≤ xs.length ∧ Pv i zs H, ⟨xs.length, by simp, Nat.zero_le _, h0⟩, ?_⟩
  rintro i m zs H ⟨rfl, hi, p⟩
  by_cases hlt : i < xs.length
  · refine .inr ⟨⟨xs, xs[i], hq i zs H p, List.getElem?_eq_getElem hlt⟩, hl i zs H p, fun x H' y => ?_⟩
    obtain ⟨e, y⟩ := y
    subst e
    exact hs i x zs _ (fun zs H => ∃ m', m' < xs.length - i ∧ m' = xs.length - (i + 1) ∧ i + 1 ≤ xs.length ∧ Pv (i + 1) zs H) (fun zs H q => ⟨xs.length - (i + 1), by omega, rfl, hlt, q⟩) (y xs (hq i zs _ p)) p
  · have e : i = xs.length := by omega
    exact .inl ⟨⟨xs, hq i zs H p, by omega⟩, hl _ _ _ p, by rw [e] at p; exact hd zs H p⟩
end L2
set_option Elab.async false
set_option linter.all false
set_option maxRecDepth 100000
set_option maxHeartbeats 1000000
namespace L2
open PySem PySem.Spec PyProof.Rows
section
variable {X : Cx}
end
end L2
set_option Elab.async false
set_option linter.all false
set_option maxRecDepth 100000
set_option maxHeartbeats 1000000
namespace L2
open PySem PySem.Spec PyProof.Rows
section
variable {X : Cx}
theorem vals_of_strs : ∀ {us : List Value} {ys : List Str}, StrsAre us ys → Vals (ys.map V.str) us
  | _, _, .nil => .nil
  | _, _, .cons y t h => .cons ⟨t, rfl⟩ (vals_of_strs h)
theorem call_sortedS : CallR X (.builtin "sorted") (fun xs H Q => ∃ (p : Addr) (ss : List Str), xs = [.ref p] ∧ SqL X.K H p (ss.map V.str) ∧ ss.length < 64 ∧
    ∀ (l : Addr) (ms : List Str), H l = none → ms.Perm ss → sortedS ms = true → Q (.ref l) (upd H l (.lst (ms.map V.str)))) := by
  intro pins s σ H xs us Q I r h
  obtain ⟨p, ss, rfl, hq, hn, q⟩ := h
  obtain ⟨u, rfl, rx⟩ := vals1 r
  cases rx
  obtain ⟨its, r', pl, hz⟩ := I.list hq
  have hlen := r'.length
  rw [List.length_map] at hlen
  refine sorted_strs pl.isList (strsAre_of r') (by omega) fun out ms hi hp hs => ?_
  obtain ⟨e, he⟩ := sortedAll_at s.heap its out
  refine ⟨.ref (s.heap.objs.size + 1), _, I.laid (t' := s.toks) (o := .lst (ms.map V.str)) (fun b o e => sortedAll_old e) (Nat.le_succ _) ?_, rfl, q _ ms (I.hok.fresh (Nat.le_succ _)) hp hs⟩
  have hm : ms.length = ss.length := hp.length_eq
  exact ⟨by rw [List.length_map]; exact Nat.le_of_lt (small1000 (by omega)), out.toList, e, vals_of_strs hi, by simpa using he⟩
end
end L2
set_option Elab.async false
set_option linter.all false
set_option maxRecDepth 100000
set_option maxHeartbeats 1000000
namespace L2
open PySem PySem.Spec PyProof.Rows
theorem bt_abs : bootBuiltins "abs" = some (.builtin "abs") := by decide +kernel
theorem bt_max : bootBuiltins "max" = some (.builtin "max") := by decide +kernel
theorem kit_bool_bool {K : PySem.W.Frag} : PySem.W.kitOne K (.type "bool") (.type "bool") = some true := by rfl
theorem seq_join {t u : TS} {D : Ends} {σ : St} {H : Hp} (J : St → Hp → Prop) (h1 : ∀ N : St → Hp → Prop, (∀ σ H, J σ H → N σ H) → t { D with nx := N } σ H) (h2 : ∀ σ H, J σ H → u D σ H) : tSeq t u D σ H := h1 _ h2
theorem take_snoc {α : Type} {xs : List α} {i : Nat} {x : α} (h : xs[i]? = some x) : xs.take (i + 1) = xs.take i ++ [x] := by
  rw [List.take_succ, h]
  rfl
theorem comp_filter {K : PySem.W.Frag} {a : Addr} {xs : List V} {is : List Nat} {tc : TT} {te : TE} {σ : St} {H : Hp} {Q : VK} (p : V → Bool) (f : V → V) (hx : SqL K H a xs) (hz : xs.length ≤ sizeLine)
    (hc : ∀ x ∈ xs, ∀ R : Bool → Hp → Prop, R (p x) H → tc (selS is σ (some x)) H R)
    (he : ∀ x ∈ xs, p x = true → ∀ R : VK, R (f x) H → te (selS is σ (some x)) H R)
    (hd : ∀ l, H l = none → Q (.ref l) (upd H l (.lst ((xs.filter p).map f)))) : CompW is tc te σ Q (Itl K a) H := by
  refine comp_list (xs := xs) (fun i zs H' => zs = ((xs.take i).filter p).map f ∧ H' = H) ⟨rfl, rfl⟩ ?_ ?_ ?_ ?_
  · rintro i zs H' ⟨rfl, rfl⟩
    rw [List.length_map]
    exact Nat.le_trans (List.length_filter_le _ _) (by rw [List.length_take]; omega)
  · rintro i zs H' ⟨rfl, rfl⟩
    exact hx
  · rintro i x zs H' R hR hxi ⟨rfl, rfl⟩
    have hm := List.mem_of_getElem? hxi
    have e := take_snoc hxi
    refine hc x hm _ ?_
    cases hp : p x with
    | true =>
      refine (if_pos rfl : (if true = true then _ else _) = _) ▸ he x hm hp _ (hR _ _ ⟨?_, rfl⟩)
      rw [e, List.filter_append, List.map_append, List.filter_cons, if_pos hp]
      rfl
    | false =>
      refine (if_neg Bool.false_ne_true : (if false = true then _ else _) = _) ▸ hR _ _ ⟨?_, rfl⟩
      rw [e, List.filter_append, List.map_append, List.filter_cons, if_neg (by rw [hp]; exact Bool.false_ne_true)]
      simp
  · rintro zs H' ⟨rfl, rfl⟩ l hl
    rw [List.take_length]
    exact hd l hl
theorem comp_map {K : PySem.W.Frag} {a : Addr} {xs : List V} {is : List Nat} {te : TE} {σ : St} {H : Hp} {Q : VK} (f : V → V) (hx : SqL K H a xs) (hz : xs.length ≤ sizeLine)
    (he : ∀ x ∈ xs, ∀ R : VK, R (f x) H → te (selS is σ (some x)) H R)
    (hd : ∀ l, H l = none → Q (.ref l) (upd H l (.lst (xs.map f)))) : CompW is tYes te σ Q (Itl K a) H := by
  refine comp_filter (fun _ => true) f hx hz (fun x _ R h => h) (fun x hm _ => he x hm) fun l hl => ?_
  rw [List.filter_eq_self.mpr fun _ _ => rfl]
  exact hd l hl
theorem comp_rmap {lo : Int} {n : Nat} {is : List Nat} {te : TE} {σ : St} {H : Hp} {Q : VK} (f : Nat → V) (hz : n ≤ sizeLine)
    (he : ∀ i, i < n → ∀ R : VK, R (f i) H → te (selS is σ (some (.int (lo + i)))) H R)
    (hd : ∀ l, H l = none → Q (.ref l) (upd H l (.lst ((List.range n).map f)))) : CompW is tYes te σ Q (Itr lo n) H := by
  refine comp_range (fun i zs H' => i ≤ n ∧ zs = (List.range i).map f ∧ H' = H) ⟨Nat.zero_le _, rfl, rfl⟩ ?_ ?_ ?_
  · rintro i zs H' ⟨hi, rfl, rfl⟩
    rw [List.length_map, List.length_range]
    omega
  · rintro i zs H' R hR hi ⟨_, rfl, rfl⟩
    unfold tYes
    dsimp only
    rw [if_pos rfl]
    refine he i hi _ (hR _ _ ⟨hi, ?_, rfl⟩)
    rw [List.range_succ, List.map_append]
    rfl
  · rintro zs H' ⟨_, rfl, rfl⟩ l hl
    exact hd l hl
theorem comp_tmap {K : PySem.W.Frag} {a : Addr} {xs : List V} {is : List Nat} {te : TE} {σ : St} {H : Hp} {Q : VK} (f : V → V) (hx : SqT K H a xs) (hz : xs.length ≤ sizeLine)
    (he : ∀ x ∈ xs, ∀ R : VK, R (f x) H → te (selS is σ (some x)) H R)
    (hd : ∀ l, H l = none → Q (.ref l) (upd H l (.lst (xs.map f)))) : CompW is tYes te σ Q (Itt K a) H := by
  refine comp_tup (xs := xs) (fun i zs H' => zs = (xs.take i).map f ∧ H' = H) ⟨rfl, rfl⟩ ?_ ?_ ?_ ?_
  · rintro i zs H' ⟨rfl, rfl⟩
    rw [List.length_map, List.length_take]
    omega
  · rintro i zs H' ⟨rfl, rfl⟩
    exact hx
  · rintro i x zs H' R hR hxi ⟨rfl, rfl⟩
    unfold tYes
    dsimp only
    rw [if_pos rfl]
    refine he x (List.mem_of_getElem? hxi) _ (hR _ _ ⟨?_, rfl⟩)
    rw [take_snoc hxi, List.map_append]
    rfl
  · rintro zs H' ⟨rfl, rfl⟩ l hl
    rw [List.take_length]
    exact hd l hl
end L2
set_option Elab.async false
set_option linter.all false
set_option maxRecDepth 100000
namespace L2
open PySem PySem.Spec PyProof.Rows
section
variable {κ : Type} [DecidableEq κ]
noncomputable def valV (kvs : List (κ × V)) (k : κ) : Option V := (kvs.find? fun kv => decide (kv.1 = k)).map (·.2)
noncomputable def putK (kvs : List (κ × V)) (k : κ) (v : V) : List (κ × V) :=
  if (kvs.any fun kv => decide (kv.1 = k)) = true then kvs.map (fun kv => if kv.1 = k then (kv.1, v) else kv) else kvs ++ [(k, v)]
theorem valV_pos {p : κ × V} {r : List (κ × V)} {k : κ} (e : p.1 = k) : valV (p :: r) k = some p.2 := by simp [valV, List.find?_cons, e]
theorem valV_neg {p : κ × V} {r : List (κ × V)} {k : κ} (e : ¬ p.1 = k) : valV (p :: r) k = valV r k := by simp [valV, List.find?_cons, e]
theorem valV_any (k : κ) : ∀ kvs : List (κ × V), (kvs.any fun kv => decide (kv.1 = k)) = (valV kvs k).isSome
  | [] => rfl
  | p :: r => by
    rw [List.any_cons]
    by_cases e : p.1 = k
    · simp only [valV_pos e, decide_eq_true e, Bool.true_or, Option.isSome_some]
    · rw [valV_neg e, decide_eq_false e, Bool.false_or]; exact valV_any k r
theorem valV_map (k j : κ) (y : V) : ∀ kvs : List (κ × V), valV (kvs.map fun kv => if kv.1 = k then (kv.1, y) else kv) j = (valV kvs j).map fun x => if j = k then y else x
  | [] => rfl
  | p :: r => by
    have ih := valV_map k j y r
    rw [List.map_cons]
    by_cases h : p.1 = k
    · rw [if_pos h]
      by_cases e : p.1 = j
      · rw [valV_pos (p := (p.1, y)) e, valV_pos e, Option.map_some, if_pos (e.symm.trans h)]
      · rw [valV_neg (p := (p.1, y)) e, valV_neg e, ih]
    · rw [if_neg h]
      by_cases e : p.1 = j
      · rw [valV_pos (p := p) e, valV_pos e, Option.map_some, if_neg (fun z => h (e.trans z))]
      · rw [valV_neg (p := p) e, valV_neg e, ih]
theorem valV_snoc (k j : κ) (y : V) : ∀ kvs : List (κ × V), valV kvs k = none → valV (kvs ++ [(k, y)]) j = if j = k then some y else valV kvs j
  | [], _ => by
    by_cases e : k = j
    · rw [if_pos e.symm]; exact valV_pos (p := (k, y)) e
    · rw [if_neg (fun z => e z.symm)]; exact valV_neg (p := (k, y)) e
  | p :: r, hn => by
    rw [List.cons_append]
    have hk : ¬ p.1 = k := fun z => by rw [valV_pos z] at hn; cases hn
    rw [valV_neg hk] at hn
    have ih := valV_snoc k j y r hn
    by_cases e : p.1 = j
    · rw [valV_pos e, valV_pos e, if_neg (fun z => hk (e.trans z))]
    · rw [valV_neg e, valV_neg e, ih]
theorem valV_put (kvs : List (κ × V)) (k j : κ) (y : V) : valV (putK kvs k y) j = if j = k then some y else valV kvs j := by
  unfold putK
  by_cases a : (kvs.any fun kv => decide (kv.1 = k)) = true
  · rw [if_pos a, valV_map]
    rw [valV_any] at a
    by_cases e : j = k
    · obtain ⟨x, hx⟩ := Option.isSome_iff_exists.mp a
      rw [if_pos e, e, hx, Option.map_some, if_pos rfl]
    · rw [if_neg e]
      cases valV kvs j with
      | none => rfl
      | some x => rw [Option.map_some, if_neg e]
  · rw [if_neg a]
    refine valV_snoc k j y kvs ?_
    rw [valV_any] at a
    cases q : valV kvs k with
    | none => rfl
    | some x => rw [q] at a; exact (a rfl).elim
theorem length_putK (kvs : List (κ × V)) (k : κ) (v : V) : (putK kvs k v).length ≤ kvs.length + 1 := by
  unfold putK
  split
  · rw [List.length_map]; omega
  · rw [List.length_append, List.length_cons, List.length_nil]; omega
theorem RelO.isSome_eq {o : Option V} {u : Option Value} (r : RelO o u) : o.isSome = u.isSome := by
  cases o with
  | none => cases u with
    | none => rfl
    | some _ => exact (show False from r).elim
  | some _ => cases u with
    | none => exact (show False from r).elim
    | some _ => rfl
theorem RelO.getD {o : Option V} {u : Option Value} {d : V} {d' : Value} (r : RelO o u) (rd : RelV d d') : RelV (o.getD d) (u.getD d') := by
  cases o with
  | none => cases u with
    | none => exact rd
    | some _ => exact (show False from r).elim
  | some _ => cases u with
    | none => exact (show False from r).elim
    | some _ => exact r
theorem KV.val {kvs : List (κ × V)} {vs : List (κ × Value)} (r : KV kvs vs) (k : κ) : RelO (valV kvs k) (valueAt vs k) := by
  unfold KV at r
  induction r with
  | nil => exact True.intro
  | @cons p q ps qs h t ih =>
    obtain ⟨h1, h2⟩ := h
    by_cases e : p.1 = k
    · have e' : q.1 = k := h1.symm.trans e
      have b : valueAt (q :: qs) k = some q.2 := by simp [valueAt, List.find?_cons, e']
      rw [valV_pos e, b]; exact h2
    · have e' : ¬ q.1 = k := fun z => e (h1.trans z)
      have b : valueAt (q :: qs) k = valueAt qs k := by simp [valueAt, List.find?_cons, e']
      rw [valV_neg e, b]; exact ih
theorem KV.any {kvs : List (κ × V)} {vs : List (κ × Value)} (r : KV kvs vs) (k : κ) : (kvs.any fun kv => decide (kv.1 = k)) = vs.any fun kv => decide (kv.1 = k) := by
  unfold KV at r
  induction r with
  | nil => rfl
  | cons h t ih => rw [List.any_cons, List.any_cons, ih, h.1]
theorem KV.repl {kvs : List (κ × V)} {vs : List (κ × Value)} (r : KV kvs vs) (k : κ) {y : V} {u : Value} (ry : RelV y u) :
    KV (kvs.map fun kv => if kv.1 = k then (kv.1, y) else kv) (vs.map fun kv => if kv.1 = k then (kv.1, u) else kv) := by
  unfold KV at r ⊢
  induction r with
  | nil => exact .nil
  | @cons p q ps qs h t ih =>
    rw [List.map_cons, List.map_cons]
    refine .cons ?_ ih
    obtain ⟨h1, h2⟩ := h
    by_cases e : p.1 = k
    · rw [if_pos e, if_pos (h1.symm.trans e)]; exact ⟨h1, ry⟩
    · rw [if_neg e, if_neg (fun z => e (h1.trans z))]; exact ⟨h1, h2⟩
theorem KV.put {kvs : List (κ × V)} {vs : List (κ × Value)} (r : KV kvs vs) (k : κ) {y : V} {u : Value} (ry : RelV y u) : KV (putK kvs k y) (stored vs k u) := by
  unfold putK stored
  rw [r.any k]
  by_cases e : (vs.any fun kv => decide (kv.1 = k)) = true
  · rw [if_pos e, if_pos e]; exact r.repl k ry
  · rw [if_neg e, if_neg e]; exact Paired.snoc r ⟨rfl, ry⟩
theorem KV.keys {kvs : List (κ × V)} {vs : List (κ × Value)} (r : KV kvs vs) : kvs.map (·.1) = vs.map (·.1) := by
  unfold KV at r
  induction r with
  | nil => rfl
  | cons h t ih => rw [List.map_cons, List.map_cons, ih, h.1]
theorem KV.length {kvs : List (κ × V)} {vs : List (κ × Value)} (r : KV kvs vs) : kvs.length = vs.length := Paired.length r
end
theorem kV_is {P : Program} {w : World} {k : Key} {u : Value} (r : RelV (kV k) u) : (mixKind P w).is k u = true := by
  cases k with
  | inl i => obtain ⟨t, e⟩ := (show ∃ t, u = Value.int i t from r); subst e; exact mixKind_int P w i t
  | inr x => obtain ⟨t, e⟩ := (show ∃ t, u = Value.str x t from r); subst e; exact mixKind_str P w x t
theorem items_are {P : Program} {w : World} : ∀ {ks : List Key} {us : List Value}, Vals (ks.map kV) us → ItemsAre (mixKind P w) ks us
  | [], _, r => by rw [List.map_nil] at r; cases r; exact .nil
  | k :: ks, _, r => by
    rw [List.map_cons] at r
    cases r with
    | cons h t => exact .cons (kV_is h) (items_are t)
noncomputable abbrev KT (H : Hp) : List (List Key × V) → List (List Key × Addr × Value) → Prop := Paired fun p q => p.1 = q.1 ∧ H q.2.1 = some (.tup (p.1.map kV)) ∧ RelV p.2 q.2.2
theorem KT.val {H : Hp} {kvs : List (List Key × V)} {xs : List (List Key × Addr × Value)} (r : KT H kvs xs) (k : List Key) : RelO (valV kvs k) ((atKey xs k).map (·.2)) := by
  induction r with
  | nil => exact True.intro
  | @cons p q ps qs h t ih =>
    obtain ⟨h1, _, h2⟩ := h
    by_cases e : p.1 = k
    · have e' : q.1 = k := h1.symm.trans e
      have b : atKey (q :: qs) k = some q.2 := by simp [atKey, List.find?_cons, e']
      rw [valV_pos e, b]; exact h2
    · have e' : ¬ q.1 = k := fun z => e (h1.trans z)
      have b : atKey (q :: qs) k = atKey qs k := by simp [atKey, List.find?_cons, e']
      rw [valV_neg e, b]; exact ih
theorem KT.repl {H : Hp} {kvs : List (List Key × V)} {xs : List (List Key × Addr × Value)} (r : KT H kvs xs) (k : List Key) {y : V} {u : Value} (ry : RelV y u) :
    KT H (kvs.map fun kv => if kv.1 = k then (kv.1, y) else kv) (xs.map (putAt k u)) := by
  induction r with
  | nil => exact .nil
  | @cons p q ps qs h t ih =>
    rw [List.map_cons, List.map_cons]
    refine .cons ?_ ih
    obtain ⟨h1, h2, h3⟩ := h
    unfold putAt
    by_cases e : p.1 = k
    · rw [if_pos e, if_pos (h1.symm.trans e)]; exact ⟨h1, h2, ry⟩
    · rw [if_neg e, if_neg (fun z => e (h1.trans z))]; exact ⟨h1, h2, h3⟩
theorem KT.put {H : Hp} {kvs : List (List Key × V)} {xs : List (List Key × Addr × Value)} (r : KT H kvs xs) (k : List Key) {b : Addr} {y : V} {u : Value} (hb : H b = some (.tup (k.map kV))) (ry : RelV y u) :
    KT H (putK kvs k y) (storedH xs k b u) := by
  have e : (kvs.any fun kv => decide (kv.1 = k)) = (atKey xs k).isSome := by
    rw [valV_any, (r.val k).isSome_eq, Option.isSome_map]
  unfold putK storedH
  rw [e]
  by_cases q : (atKey xs k).isSome = true
  · rw [if_pos q, if_pos q]; exact r.repl k ry
  · rw [if_neg q, if_neg q]; exact Paired.snoc r ⟨rfl, hb, ry⟩
theorem KT.keeps {H H' : Hp} {kvs : List (List Key × V)} {xs : List (List Key × Addr × Value)} (r : KT H kvs xs) (ht : ∀ b ys, H b = some (.tup ys) → H' b = some (.tup ys)) : KT H' kvs xs :=
  Paired.mapP r fun _ _ z => ⟨z.1, ht _ _ z.2.1, z.2.2⟩
section
variable {P : Program} {w : World} {H : Hp} {h : Heap} {a : Addr}
theorem rd_of {u : HO} (ok : HOk P w H h) (e : Rd H a u) : ObjOk P w H h a u := e.ok ok
theorem dk_rd {kvs : List (Key × V)} (ok : HOk P w H h) (e : Rd H a (.dK kvs)) : kvs.length ≤ sizeLine ∧ (a == sysModules) = false ∧ ∃ vs, KV kvs vs ∧ h.DictOf (mixKind P w) a vs :=
  show ObjOk P w H h a (.dK kvs) from rd_of ok e
theorem dk_of {kvs : List (Key × V)} (ok : HOk P w H h) (e : H a = some (.dK kvs)) : kvs.length ≤ sizeLine ∧ (a == sysModules) = false ∧ ∃ vs, KV kvs vs ∧ h.DictOf (mixKind P w) a vs := dk_rd ok (.inl e)
theorem key_of {ks : List Key} (ok : HOk P w H h) (e : H a = some (.tup (ks.map kV))) : (tupleKind (mixKind P w)).is h ks a := by
  obtain ⟨_, its, r, o, h1, h2, n, h3⟩ := (show ObjOk P w H h a (.tup (ks.map kV)) from ok a _ e)
  exact ⟨o, its.toArray, n, h1, h2, h3, by simpa using items_are r⟩
theorem dt_rd {kvs : List (List Key × V)} (ok : HOk P w H h) (e : Rd H a (.dT kvs)) : kvs.length ≤ sizeLine ∧ (a == sysModules) = false ∧
    ∃ xs, KT H kvs xs ∧ h.DictOfH (tupleKind (mixKind P w)) a xs := by
  obtain ⟨z, y, xs, r, o, es, ep, h1, h2, h3, h4, h5⟩ := (show ObjOk P w H h a (.dT kvs) from rd_of ok e)
  refine ⟨z, y, xs, r, o, es, ep, h1, h2, h3, h4, fun x hx => ?_, h5⟩
  have all : ∀ {l : List (List Key × V)} {m : List (List Key × Addr × Value)}, KT H l m → ∀ x ∈ m, (tupleKind (mixKind P w)).is h x.1 x.2.1 := by
    intro l m q
    induction q with
    | nil => intro x hx; exact nomatch hx
    | @cons p q ps qs hq t ih =>
      intro x hx
      rcases List.mem_cons.mp hx with e | hx
      · subst e
        exact key_of ok (by rw [← hq.1]; exact hq.2.1)
      · exact ih x hx
  exact all r x hx
theorem dt_of {kvs : List (List Key × V)} (ok : HOk P w H h) (e : H a = some (.dT kvs)) : kvs.length ≤ sizeLine ∧ (a == sysModules) = false ∧
    ∃ xs, KT H kvs xs ∧ h.DictOfH (tupleKind (mixKind P w)) a xs := dt_rd ok (.inl e)
end
noncomputable def DGet (H : Hp) (a : Addr) (y : V) (r : Option V) : Prop :=
  (∃ kvs k, Rd H a (.dK kvs) ∧ y = kV k ∧ r = valV kvs k) ∨ ∃ kvs k b, Rd H a (.dT kvs) ∧ y = .ref b ∧ H b = some (.tup (k.map kV)) ∧ r = valV kvs k
noncomputable def DPut (H : Hp) (a : Addr) (y v : V) (H' : Hp) : Prop :=
  (∃ kvs k, H a = some (.dK kvs) ∧ y = kV k ∧ kvs.length < sizeLine ∧ H' = upd H a (.dK (putK kvs k v))) ∨
  ∃ kvs k b, H a = some (.dT kvs) ∧ y = .ref b ∧ H b = some (.tup (k.map kV)) ∧ kvs.length < sizeLine ∧ H' = upd H a (.dT (putK kvs k v))
theorem DPut.k {H : Hp} {a : Addr} {kvs : List (Key × V)} {k : Key} {v : V} (e : H a = some (.dK kvs)) (hl : kvs.length < sizeLine) : DPut H a (kV k) v (upd H a (.dK (putK kvs k v))) := .inl ⟨kvs, k, e, rfl, hl, rfl⟩
section
variable {X : Cx} {pins : List (Addr × Obj)} {σ : St} {H : Hp} {s : Shared} {a : Addr} {y v : V} {u r : Value} {o : Option V} {A : Around} {E : Value → Shared → Prop}
theorem Inv.big (I : Inv X pins σ H s) : sysModules < s.heap.objs.size := by
  have h : mainGlobals < s.heap.objs.size := (I.mod.glob.keeps I.bk).lt
  exact Nat.lt_trans (by decide) h
theorem d_getItem {Q : Value → Shared → Prop} (hu : A.units + 1 < cLine) (I : Inv X pins σ H s) (g : DGet H a y (some v)) (ry : RelV y u) (h : ∀ w' s', Inv X pins σ H s' → RelV v w' → Q w' s') :
    wpAny (model X.prog X.w) A (getItem (.ref a) u) Q E s := by
  rcases g with ⟨kvs, k, e, ey, l⟩ | ⟨kvs, k, b, e, ey, eb, l⟩
  · subst ey
    obtain ⟨z, hd, vs, rel, dd⟩ := dk_rd I.hok e
    obtain ⟨w', hw, rw'⟩ := RelO.some_of (v := v) (o := valueAt vs k) (by rw [l]; exact rel.val k)
    exact wpAny_getItem_of (kV_is ry) dd.mapOf hw (h w' _ (I.tok _) rw')
  · subst ey
    cases (show u = Value.ref b from ry)
    obtain ⟨z, hd, xs, rel, dd⟩ := dt_rd I.hok e
    obtain ⟨w', hw, rw'⟩ := RelO.some_of (v := v) (o := (atKey xs k).map (·.2)) (by rw [l]; exact rel.val k)
    obtain ⟨p, hp, hp2⟩ := Option.map_eq_some_iff.mp hw
    refine wpAny_getItem_heap (tupleKind_room_in1 hu) (key_of I.hok eb) dd hp ?_
    rw [hp2]
    exact h w' _ (I.tok _) rw'
theorem d_notIn {Q : Value → Shared → Prop} (hu : A.units + 1 < cLine) (I : Inv X pins σ H s) (g : DGet H a y o) (ry : RelV y u) (h : ∀ s', Inv X pins σ H s' → Q (.bool (!o.isSome)) s') :
    wpAny (model X.prog X.w) A (compareOp .NotIn u (.ref a)) Q E s := by
  rcases g with ⟨kvs, k, e, ey, l⟩ | ⟨kvs, k, b, e, ey, eb, l⟩
  · subst ey
    obtain ⟨z, hd, vs, rel, dd⟩ := dk_rd I.hok e
    refine wpAny_notIn_of (kV_is ry) hd dd.mapOf ?_
    rw [← (rel.val k).isSome_eq, ← l]
    exact h _ (I.tok _)
  · subst ey
    cases (show u = Value.ref b from ry)
    obtain ⟨z, hd, xs, rel, dd⟩ := dt_rd I.hok e
    refine wpAny_notIn_heap (tupleKind_room_in1 hu) (key_of I.hok eb) hd dd ?_
    have q := (rel.val k).isSome_eq
    rw [Option.isSome_map] at q
    rw [← q, ← l]
    exact h _ (I.tok _)
theorem d_write {h' : Heap} {t' : Nat} {ob : HO} (I : Inv X pins σ H s) (mu : Mut (H a)) (hs : Heap.SameBut a s.heap h') (he : ∃ q, h'.get? a = some q) (new : ObjOk X.prog X.w (upd H a ob) h' a ob) :
    Inv X pins σ (upd H a ob) { s with heap := h', toks := t' } :=
  I.write (x := a) (e := a) mu (.inl rfl) (fun b q hb z => (hs.2 b hb).trans z) he new
theorem dk_new {P : Program} {w : World} {H' : Hp} {h' : Heap} {kvs : List (Key × V)} {vs : List (Key × Value)} (z : kvs.length ≤ sizeLine) (hd : (a == sysModules) = false) (rel : KV kvs vs) (dd : h'.DictOf (mixKind P w) a vs) :
    ObjOk P w H' h' a (.dK kvs) := ⟨z, hd, vs, rel, dd⟩
theorem d_setItem {H' : Hp} {Q : Unit → Shared → Prop} (hu : A.units + 1 < cLine) (I : Inv X pins σ H s) (g : DPut H a y v H') (ry : RelV y u) (rv : RelV v r) (h : ∀ s', Inv X pins σ H' s' → Q () s') :
    wpAny (model X.prog X.w) A (setItem (.ref a) u r) Q E s := by
  rcases g with ⟨kvs, k, e, ey, l, eH⟩ | ⟨kvs, k, b, e, ey, eb, l, eH⟩
  · subst ey eH
    obtain ⟨z, hd, vs, rel, dd⟩ := dk_of I.hok e
    have hz : vs.length ≤ sizeLine := by rw [← rel.length]; exact z
    have hl : (putK kvs k v).length ≤ sizeLine := by have := length_putK kvs k v; omega
    refine wpAny_setItem_pairs (hsz := hz) (kV_is ry) dd fun h' dd' hs => h _ ?_
    have he : ∃ q, h'.get? a = some q := let ⟨q, _, _, hq, _⟩ := dd'; ⟨q, hq⟩
    exact d_write I (by rw [e]; exact True.intro) hs he (dk_new hl hd (rel.put k rv) dd')
  · subst ey eH
    cases (show u = Value.ref b from ry)
    obtain ⟨z, hd, xs, rel, dd⟩ := dt_of I.hok e
    have hz : xs.length ≤ sizeLine := by rw [← Paired.length rel]; exact z
    have hl : (putK kvs k v).length ≤ sizeLine := by have := length_putK kvs k v; omega
    refine wpAny_setItem_heap (hsz := hz) (tupleKind_room_in1 hu) (key_of I.hok eb) dd fun h' dd' hs => h _ ?_
    obtain ⟨q, es, ep, hq, h2, h3, h4, _, h5⟩ := dd'
    refine d_write I (by rw [e]; exact True.intro) hs ⟨q, hq⟩ ⟨hl, hd, _, (rel.put k eb rv).keeps fun c ys ec => ?_, q, es, ep, hq, h2, h3, h4, h5⟩
    rw [upd_ne (ne_of ec e (fun z => nomatch z))]
    exact ec
end
section
variable {X : Cx} {pins : List (Addr × Obj)} {σ : St} {H : Hp} {s : Shared} {a : Addr} {kvs : List (Key × V)} {k : Key} {u : Value} {A : Around} {E : Value → Shared → Prop}
end
noncomputable def NoSl (i : Expr) : Prop := ∀ ov iv, subscripted i false ov iv = operate [ov, iv] (getItem ov iv)
theorem subD_of {prog : Program} {w : World} {A : Around} {E : Value → Shared → Prop} {s : Shared} {env : Env} {value slice : Expr} {pos : Pos} {T id : String} {Q : Value → Shared → Prop}
    (hl : typeLookup (.type T) "__getitem__" = pure (some (.builtin id))) (hs : NoSl slice)
    (h : wpAny (model prog w) A (eval value env) (fun o s₁ => wpAny (model prog w) A (eval slice env) (fun i s₂ => s₂.TypeIs o T ∧ wpAny (model prog w) A (getItem o i) Q E s₂) E s₁) E s) :
    wpAny (model prog w) A (eval (.Subscript value slice pos) env) Q E s := by
  refine Subscript_ (wpAny_mono h (fun o s₁ h₁ => wpAny_mono h₁ (fun i s₂ h₂ => ?_) fun _ _ x => x) fun _ _ x => x)
  obtain ⟨hT, h₂⟩ := h₂
  unfold subscriptTail
  refine wpAny_bind ?_
  rw [getitemInPython_of_ne hT.not_modules]
  refine wpAny_bind (wpAny_specialOf hT hl ?_)
  have fin : wpAny (model prog w) A (subscripted slice false o i) (fun r s₃ => wpAny (model prog w) A (letTemporaryGo value o r >>= fun _ => pure r) Q E s₃) E s₂ := by
    rw [hs o i]
    exact wpAny_operating (wpAny_mono h₂ (fun r s₃ h₃ => wpAny_bind (wpAny_letTemporaryGo (wpAny_pure h₃))) fun _ _ x => x)
  first
    | exact wpAny_pure (wpAny_bind fin)
    | exact wpAny_bind (wpAny_pure (wpAny_bind fin))
    | exact wpAny_bind fin
theorem dict_typeIs {X : Cx} {pins : List (Addr × Obj)} {σ : St} {H : Hp} {s : Shared} {a : Addr} {y : V} {o : Option V} (I : Inv X pins σ H s) (g : DGet H a y o) : s.TypeIs (.ref a) "dict" := by
  rcases g with ⟨kvs, k, e, _, _⟩ | ⟨kvs, k, b, e, _, _, _⟩
  · obtain ⟨_, _, vs, _, dd⟩ := dk_rd I.hok e
    exact dd.typeIs
  · obtain ⟨_, _, xs, _, dd⟩ := dt_rd I.hok e
    exact dd.typeIs
noncomputable def tDGet (td ty : TE) : TE := fun σ H Q => td σ H fun x H1 => ty σ H1 fun y H2 => ∃ a v, x = .ref a ∧ DGet H2 a y (some v) ∧ Q v H2
noncomputable def sDPut (td ty tv : TE) : TS := fun D σ H => tv σ H fun v H1 => td σ H1 fun x H2 => ty σ H2 fun y H3 => ∃ a H4, x = .ref a ∧ DPut H3 a y v H4 ∧ D.nx σ H4
section
variable {X : Cx} {o i e value : Expr} {pos pos' tpos : Pos} {td ty tv : TE}
theorem pe_dget (hu : X.A.units + 1 < cLine) (ho : PE X o td) (hi : PE X i ty) (hs : NoSl i) : PE X (.Subscript o i pos) (tDGet td ty) := by
  intro pins s σ H Q I h
  refine subD_of PySem.F.slot_dict_getitem.lookup hs (thn (ho pins s σ H _ I h) fun u s1 ⟨x, H1, I1, rx, q1⟩ => thn (hi pins s1 σ H1 _ I1 q1) fun iv s2 ⟨y, H2, I2, ry, a, v, ex, g, q2⟩ => ?_)
  subst ex
  obtain rfl : u = Value.ref a := rx
  exact ⟨dict_typeIs I2 g, d_getItem hu I2 g ry fun w' s3 I3 rw' => ⟨v, H2, I3, rw', q2⟩⟩
theorem ps_dput (hu : X.A.units + 1 < cLine) (ho : PE X o td) (hi : PE X i ty) (hv : PE X value tv) (hs : swapsWith value (some (.Subscript o i pos')) pos.line X.env = pure false) :
    PS X (.Assign [.Subscript o i pos'] value pos) (sDPut td ty tv) := by
  intro pins s σ H D I h
  refine wpAny_Assign_Subscript (thn (hv pins s σ H _ I h) fun r s1 ⟨v, H1, I1, rv, q1⟩ => thn (ho pins s1 σ H1 _ I1 q1) fun u s2 ⟨x, H2, I2, rx, q2⟩ => thn (hi pins s2 σ H2 _ I2 q2) fun iv s3 ⟨y, H3, I3, ry, a, H4, ex, g, q3⟩ => ?_) hs
  subst ex
  obtain rfl : u = Value.ref a := rx
  exact d_setItem hu I3 g ry rv fun s4 I4 => ⟨σ, H4, I4, q3⟩
end
theorem dk_empty {P : Program} {w : World} {H : Hp} (h : Heap) (hb : sysModules < h.objs.size) : ObjOk P w H (h.push { cls := .type "dict", data := .dict #[] }) h.objs.size (.dK []) :=
  ⟨Nat.zero_le _, beq_eq_false_iff_ne.mpr (Ne.symm (Nat.ne_of_lt hb)), [], .nil, Heap.DictOf.new h⟩
noncomputable def tDNewK : TE := fun _ H Q => ∀ p, H p = none → Q (.ref p) (upd H p (.dK []))
section
variable {X : Cx} {pos : Pos}
theorem pe_dnewK : PE X (.Dict [] [] pos) tDNewK := fun pins s σ H Q I h =>
  wpAny_Dict_empty ⟨.ref s.heap.objs.size, _, I.laid (a := s.heap.objs.size) (o := .dK []) (t' := s.toks) (fun _ _ q => Heap.get?_push_of_some _ q) (Nat.le_refl _) (dk_empty s.heap I.big), rfl, h _ (I.hok.fresh (Nat.le_refl _))⟩
end
noncomputable def tPairs : List (TE × TE) → St → Hp → (List (V × V) → Hp → Prop) → Prop
  | [], _, H, Q => Q [] H
  | (tk, tv) :: r, σ, H, Q => tk σ H fun x H1 => tv σ H1 fun y H2 => tPairs r σ H2 fun ps H3 => Q ((x, y) :: ps) H3
noncomputable abbrev VV : List (V × V) → List (Value × Value) → Prop := Paired fun p q => RelV p.1 q.1 ∧ RelV p.2 q.2
noncomputable def PPs (X : Cx) (pos : Pos) (keys : List (Option Expr)) (values : List Expr) (trs : List (TE × TE)) : Prop :=
  ∀ (pins : List (Addr × Obj)) (s : Shared) (σ : St) (H : Hp) (Q : List (V × V) → Hp → Prop), Inv X pins σ H s → tPairs trs σ H Q →
    wpAny (model X.prog X.w) X.A (evalPairs (pairTrees keys values X.env pos)) (fun vs s' => ∃ ps H', Inv X pins σ H' s' ∧ VV ps vs ∧ Q ps H') X.xe s
theorem pps_nil {X : Cx} {pos : Pos} : PPs X pos [] [] [] := fun pins s σ H Q I h => pairTrees_nil_walk ⟨[], H, I, .nil, h⟩
theorem pps_cons {X : Cx} {pos : Pos} {k v : Expr} {ks : List (Option Expr)} {vs : List Expr} {tk tv : TE} {trs : List (TE × TE)} (hk : PE X k tk) (hv : PE X v tv) (hr : PPs X pos ks vs trs) :
    PPs X pos (some k :: ks) (v :: vs) ((tk, tv) :: trs) := fun pins s σ H Q I h =>
  pairTrees_cons_walk (thn (hk pins s σ H _ I h) fun u s1 ⟨x, H1, I1, rx, q1⟩ => thn (hv pins s1 σ H1 _ I1 q1) fun w2 s2 ⟨y, H2, I2, ry, q2⟩ =>
    thn (hr pins s2 σ H2 _ I2 q2) fun ws s3 ⟨ps, H3, I3, rel, q3⟩ => ⟨(x, y) :: ps, H3, I3, .cons ⟨rx, ry⟩ rel, q3⟩)
noncomputable def mergeK (kvs more : List (Key × V)) : List (Key × V) := more.foldl (fun acc kv => putK acc kv.1 kv.2) kvs
theorem KV.merge : ∀ {more : List (Key × V)} {rs : List (Key × Value)} {kvs : List (Key × V)} {vs : List (Key × Value)}, KV more rs → KV kvs vs → KV (mergeK kvs more) (merged vs rs) := by
  intro more rs kvs vs r
  unfold KV at r
  induction r generalizing kvs vs with
  | nil => intro q; exact q
  | @cons p q ps qs h t ih =>
    intro r0
    have e : KV (putK kvs p.1 p.2) (stored vs q.1 q.2) := by
      have := r0.put p.1 h.2
      rw [← h.1]; exact this
    exact ih e
theorem length_mergeK : ∀ (more kvs : List (Key × V)), (mergeK kvs more).length ≤ kvs.length + more.length
  | [], kvs => by show kvs.length ≤ kvs.length + 0; omega
  | p :: r, kvs => by
    have h1 := length_mergeK r (putK kvs p.1 p.2)
    have h2 := length_putK kvs p.1 p.2
    show (mergeK (putK kvs p.1 p.2) r).length ≤ _
    rw [List.length_cons]; omega
theorem carries_of {P : Program} {w : World} : ∀ {kvs : List (Key × V)} {ws : List (Value × Value)}, VV (kvs.map fun kv => (kV kv.1, kv.2)) ws → ∃ rs, Carries (mixKind P w) ws rs ∧ KV kvs rs
  | [], _, r => by rw [List.map_nil] at r; cases r; exact ⟨[], True.intro, .nil⟩
  | p :: kvs, _, r => by
    rw [List.map_cons] at r
    cases r with
    | @cons a b as bs h t =>
      obtain ⟨rs, c, q⟩ := carries_of (P := P) (w := w) t
      obtain ⟨b1, b2⟩ := b
      exact ⟨(p.1, b2) :: rs, ⟨kV_is h.1, rfl, c⟩, .cons ⟨rfl, h.2⟩ q⟩
noncomputable def tDisp (trs : List (TE × TE)) : TE := fun σ H Q => ∀ p, H p = none → tPairs trs σ (upd H p (.dK [])) fun ps H2 => H2 p = some (.dK []) ∧ ∃ kvs : List (Key × V), ps = kvs.map (fun kv => (kV kv.1, kv.2)) ∧ kvs.length ≤ 15 ∧ Q (.ref p) (upd H2 p (.dK (mergeK [] kvs)))
theorem pe_disp {X : Cx} {pos : Pos} {keys : List (Option Expr)} {values : List Expr} {trs : List (TE × TE)} (h : PPs X pos keys values trs) (hall : keys.all (·.isSome) = true) (hl : keys.length = values.length) (h0 : keys ≠ [])
    (h15 : keys.length ≤ 15) : PE X (.Dict keys values pos) (tDisp trs) := by
  intro pins s σ H Q I q
  have hn := I.hok.fresh (Nat.le_refl s.heap.objs.size)
  have I1 := I.laid (a := s.heap.objs.size) (o := .dK []) (h' := s.heap.push { cls := .type "dict", data := .dict #[] }) (t' := s.toks) (fun _ _ q => Heap.get?_push_of_some _ q) (Nat.le_refl _) (dk_empty s.heap I.big)
  refine wpAny_Dict_walk (knd := mixKind X.prog X.w) hall hl h0 h15 (thn (h pins _ σ _ _ I1 (q _ hn)) fun ws s2 ⟨ps, H2, I2, rel, e, kvs, ep, lk, q2⟩ => ?_)
  subst ep
  obtain ⟨rs, c, rk⟩ := carries_of (P := X.prog) (w := X.w) rel
  obtain ⟨z, hd, vs0, r0, dd⟩ := dk_of I2.hok e
  cases r0
  refine ⟨rs, c, dd, fun h' dd' hs => ⟨.ref s.heap.objs.size, _, ?_, rfl, q2⟩⟩
  have hz : (mergeK [] kvs).length ≤ sizeLine := by
    have h1 := length_mergeK kvs []
    rw [List.length_nil] at h1
    rw [sizeLine_eq]; omega
  have he : ∃ q, h'.get? s.heap.objs.size = some q := let ⟨q, _, _, hq, _⟩ := dd'; ⟨q, hq⟩
  exact d_write I2 (by rw [e]; exact True.intro) hs he (dk_new hz hd (rk.merge .nil) dd')
section
variable {X : Cx} {pins : List (Addr × Obj)} {σ : St} {H : Hp} {s : Shared} {a : Addr} {y d : V} {u r : Value} {o : Option V} {A : Around} {E : Value → Shared → Prop}
end
section
variable {X : Cx} {o e f : Expr} {apos cpos : Pos} {td ty tx : TE}
end
section
variable {X : Cx} {pins : List (Addr × Obj)} {σ : St} {H : Hp} {s : Shared} {a : Addr} {kvs : List (Key × V)} {A : Around} {E : Value → Shared → Prop}
end
section
variable {X : Cx} {pins : List (Addr × Obj)} {σ : St} {H : Hp} {s : Shared} {a : Addr} {y : V} {u : Value} {A : Around} {E : Value → Shared → Prop}
end
end L2
namespace L2
open PySem PySem.Spec PyProof.Rows
section
variable {X : Cx}
end
end L2
set_option Elab.async false
set_option linter.all false
set_option maxRecDepth 100000
set_option maxHeartbeats 1000000
namespace EnT
open PySem PySem.Spec PyProof.Rows
open AutoSeq1 (wpAny_loadPart')
noncomputable def tIt (l : Addr) : Obj := { cls := .type "tuple_iterator", data := .fields #[.ref l, .int 0 0] }
noncomputable def enO (it : Addr) : Obj := { cls := .type "enumerate", data := .fields #[.none, .bool false, .ref it, rawInt 0, .none, .none] }
theorem meets_new (l : Addr) (items : Array Value) :
    Meets (Builtin.«enumerate.__new__» ⟨[.type "enumerate", .ref l], []⟩) (fun _ R s => s.heap.IsTuple l items ∧
      R (.ok (.ret (.ref (s.heap.push (tIt l)).objs.size))) { s with heap := (s.heap.push (tIt l)).push (enO s.heap.objs.size) }) :=
  .of_wp fun prog w A R s h => by
    obtain ⟨hp, g, d, tk, os⟩ := s; obtain ⟨hL, h⟩ := h
    have hsub := sub_enumerate
    obtain ⟨⟨oc, od, oda, osl⟩, hl, hc, n, hd⟩ := id hL
    simp only at hc hd
    subst hc hd
    wp_walk using wpAny_loadPart' hl
    refine wpAny_stack_any fun st => wpAny_pure ?_
    split
    · rename_i c _ _ _ _ _
      cases (c == Value.type "enumerate")
      · wp_walk using wpAny_loadPart' hl, wpAny_pyIter_tuple hL
        exact ⟨_, rfl, h⟩
      · wp_walk using wpAny_loadPart' hl, wpAny_pyIter_tuple hL
        exact ⟨_, rfl, h⟩
    · wp_walk using wpAny_loadPart' hl, wpAny_pyIter_tuple hL
      exact ⟨_, rfl, h⟩
section
variable {prog : Program} {w : World} {A : Around} {E : Value → Shared → Prop} {s : Shared}
theorem next_of {it l : Addr} {i : Nat} {items} {x : Value} {Q : Value → Shared → Prop} (hit : s.heap.IsTupleIter it l i) (hl : s.heap.IsTuple l items) (hx : items[i]? = some x)
    (hQ : ∀ h', h'.IsTupleIter it l (i + 1) → Heap.SameBut it s.heap h' → Q x { s with heap := h' }) : wpAny (model prog w) A (Builtin.SmallTypes.nextOf (.ref it)) Q E s := by
  obtain ⟨o, ho, hc, hd⟩ := id hit
  obtain ⟨ol, hol, _, nl, hdl⟩ := hl
  unfold Builtin.SmallTypes.nextOf
  refine wpAny_bind (wpAny_callSpecial?_slot (name := Str.ofString "__next__") hit.typeIs F.slot_tuple_iterator_next (wpAny_call_entry F.slot_tuple_iterator_next hit.typeIs F.entry_tuple_iterator_next ?_ (F.args_tuple_iterator_next_1 _)))
  show wpAny _ _ (field (.ref it) 0 >>= _) _ _ s
  refine wpAny_bind (wpAny_field ho hd (x := .ref l) rfl ?_)
  show wpAny _ _ (if (Value.ref l == Value.none) = true then _ else _) _ _ s
  rw [if_neg (show ¬ ((Value.ref l == Value.none) = true) from Bool.false_ne_true)]
  show wpAny _ _ (field (.ref it) 1 >>= _) _ _ s
  refine wpAny_bind (wpAny_field ho hd (x := .int i 0) rfl ?_)
  show wpAny _ _ (seqItems? (.ref l) >>= _) _ _ s
  refine wpAny_bind (wpAny_seqItems hol hdl ?_)
  simp only [Int.toNat_natCast, hx]
  refine wpAny_bind (wpAny_setField ho hd (by simp) (wpAny_pure ⟨x, rfl, wpAny_pure (hQ _ ⟨_, Heap.get?_update_self _ ho (Obj.isFreed_of_fields (Obj.data_mapFields hd _)), (Obj.cls_mapFields ..).trans hc, ?_⟩ (Heap.SameBut.update ..))⟩))
  rw [Obj.data_mapFields hd]
  simp [rawInt]
theorem next_no {it l : Addr} {i : Nat} {items} {Q : Value → Shared → Prop} (hh : A.handled = none) (hit : s.heap.IsTupleIter it l i) (hl : s.heap.IsTuple l items) (hx : items[i]? = none)
    (hE : ∀ h' e, Heap.ExtBut it s.heap h' → (∃ o, h'.get? e = some o ∧ o.cls = .type "StopIteration") → E (.ref e) { s with heap := h' }) : wpAny (model prog w) A (Builtin.SmallTypes.nextOf (.ref it)) Q E s := by
  obtain ⟨o, ho, hc, hd⟩ := id hit
  obtain ⟨ol, hol, _, nl, hdl⟩ := hl
  unfold Builtin.SmallTypes.nextOf
  refine wpAny_bind (wpAny_callSpecial?_slot (name := Str.ofString "__next__") hit.typeIs F.slot_tuple_iterator_next (wpAny_call_entry F.slot_tuple_iterator_next hit.typeIs F.entry_tuple_iterator_next ?_ (F.args_tuple_iterator_next_1 _)))
  show wpAny _ _ (field (.ref it) 0 >>= _) _ _ s
  refine wpAny_bind (wpAny_field ho hd (x := .ref l) rfl ?_)
  show wpAny _ _ (if (Value.ref l == Value.none) = true then _ else _) _ _ s
  rw [if_neg (show ¬ ((Value.ref l == Value.none) = true) from Bool.false_ne_true)]
  show wpAny _ _ (field (.ref it) 1 >>= _) _ _ s
  refine wpAny_bind (wpAny_field ho hd (x := .int i 0) rfl ?_)
  show wpAny _ _ (seqItems? (.ref l) >>= _) _ _ s
  refine wpAny_bind (wpAny_seqItems hol hdl ?_)
  simp only [Int.toNat_natCast, hx]
  refine wpAny_bind (wpAny_rule (wpAny_bind (wpAny_setField ho hd (by simp) ?_)))
  show wpAny _ _ (newExc (.type "StopIteration") [] >>= _) _ _ _
  refine wpAny_bind ?_
  simp only [newExc, newTuple]
  refine wpAny_bind (wpAny_newObj_type ?_ (by size_fits))
  refine wpAny_bind (m := firstArgMember _ _) (wpAny_of_eq (a := Value.none) (by first | rfl | (simp only [firstArgMember]; rfl)) ?_)
  refine wpAny_newObj_type ?_ (by size_fits)
  simp only [raiseNew]
  refine wpAny_bind (wpAny_handled ?_)
  first | rw [show A.in1.handled = none from hh] | rw [hh]
  refine wpAny_bind (wpAny_pure (wpAny_throw ?_))
  exact hE _ _ (((Heap.SameBut.update ..).extBut.push _).push _) ⟨_, Heap.get?_push_size _ rfl, rfl⟩
theorem step_in {e it l : Addr} {i : Nat} {items : Array Value} {x old : Value} {Q : Value → Shared → Prop}
    (he : IsEnum s.heap e it i old) (hit : s.heap.IsTupleIter it l i) (hl : s.heap.IsTuple l items) (hx : items[i]? = some x) (hne : e ≠ it)
    (hQ : ∀ h', IsEnumOut h' e it ((i : Int) + 1) x s.heap.objs.size → h'.IsTupleIter it l (i + 1) →
      h'.get? s.heap.objs.size = some { cls := .type "tuple", data := .seq #[.int i s.toks, x] } → h'.objs.size = s.heap.objs.size + 1 →
      (∀ b o, b ≠ e → b ≠ it → s.heap.get? b = some o → h'.get? b = some o) → Q (.ref s.heap.objs.size) { s with heap := h', toks := s.toks + 1 }) :
    wpAny (model prog w) A (Builtin.«enumerate.__next__» ⟨[.ref e], []⟩) (fun fin s' => ∃ v, fin = .done (.ret v) ∧ Q v s') E s := by
  obtain ⟨hp, g, d, tk, os⟩ := s
  show wpAny _ _ (field (.ref e) 2 >>= _) _ _ _
  refine wpAny_bind (wpAny_field he rfl (x := .ref it) rfl ?_)
  refine wpAny_bind (next_of hit hl hx fun h₁ hit₁ hs₁ => ?_)
  replace hs₁ : Heap.SameBut it hp h₁ := hs₁
  have he₁ : IsEnum h₁ e it i old := (hs₁.2 e hne).trans he
  show wpAny _ _ (field (.ref e) 3 >>= _) _ _ ⟨h₁, g, d, tk, os⟩
  refine wpAny_bind (wpAny_field he₁ rfl (x := rawInt i) rfl ?_)
  show wpAny _ _ (field (.ref e) 4 >>= _) _ _ ⟨h₁, g, d, tk, os⟩
  refine wpAny_bind (wpAny_field he₁ rfl (x := .none) rfl ?_)
  show wpAny _ _ (mkInt i >>= _) _ _ ⟨h₁, g, d, tk, os⟩
  refine wpAny_bind (wpAny_mkInt ?_)
  show wpAny _ _ (setField (.ref e) 3 (rawInt ((i : Int) + 1)) >>= _) _ _ ⟨h₁, g, d, tk + 1, os⟩
  refine wpAny_bind (wpAny_setField_rec he₁ (by simp) fun h₂ he₂ hs₂ => ?_)
  replace hs₂ : Heap.SameBut e h₁ h₂ := hs₂
  replace he₂ : IsEnum h₂ e it ((i : Int) + 1) old := he₂
  show wpAny _ _ (setField (.ref e) 4 .none >>= _) _ _ ⟨h₂, g, d, tk + 1, os⟩
  refine wpAny_bind (wpAny_setField_rec he₂ (by simp) fun h₃ he₃ hs₃ => ?_)
  replace hs₃ : Heap.SameBut e h₂ h₃ := hs₃
  replace he₃ : IsEnum h₃ e it ((i : Int) + 1) old := he₃
  show wpAny _ _ (newTuple [.int i tk, x] >>= _) _ _ ⟨h₃, g, d, tk + 1, os⟩
  refine wpAny_bind (wpAny_newTuple ?_)
  have he₄ : IsEnum (h₃.push { cls := .type "tuple", data := .seq #[.int i tk, x] }) e it ((i : Int) + 1) old := Heap.get?_push_of_some _ he₃
  generalize hh₄ : h₃.push { cls := .type "tuple", data := .seq #[.int i tk, x] } = h₄ at he₄
  have hsz : h₃.objs.size = hp.objs.size := by rw [hs₃.1, hs₂.1, hs₁.1]
  have hel : e < hp.objs.size := Heap.lt_size he
  have ht₄ : h₄.get? hp.objs.size = some { cls := .type "tuple", data := .seq #[.int i tk, x] } := by rw [← hh₄, ← hsz]; exact Heap.get?_push_size _ rfl
  have hz₄ : h₄.objs.size = hp.objs.size + 1 := by rw [← hh₄, Heap.size_push, hsz]
  have hk₄ : ∀ b o, b ≠ e → b ≠ it → hp.get? b = some o → h₄.get? b = some o := fun b o hbe hbi hb => by
    rw [← hh₄]; exact Heap.get?_push_of_some _ (hs₃.extBut b o hbe (hs₂.extBut b o hbe (hs₁.extBut b o hbi hb)))
  have hit₄ : h₄.IsTupleIter it l (i + 1) := by
    rw [← hh₄]; obtain ⟨o, ho, r⟩ := (hit₁.extBut hs₂.extBut (Ne.symm hne)).extBut hs₃.extBut (Ne.symm hne); exact ⟨o, Heap.get?_push_of_some _ ho, r⟩
  show wpAny _ _ (Builtin.SmallTypes.ownedTupleIsFree (.ref e) >>= _) _ _ ⟨h₄, g, d, tk + 1, os⟩
  rw [hsz]
  clear hh₄ he₃ hs₃ he₂ hs₂ he₁ hs₁ hit₁ hsz h₃ h₂ h₁
  refine wpAny_bind ?_
  · unfold Builtin.SmallTypes.ownedTupleIsFree
    refine wpAny_bind (wpAny_field he₄ rfl (x := .none) rfl (wpAny_pure ?_))
    simp only [if_true]
    refine wpAny_bind (wpAny_rule ?_)
    refine wpAny_bind (wpAny_field he₄ rfl (x := old) rfl ?_)
    refine wpAny_bind (wpAny_setField_rec he₄ (by simp) fun h₅ he₅ hs₅ => ?_)
    replace hs₅ : Heap.SameBut e h₄ h₅ := hs₅
    replace he₅ : IsEnum h₅ e it ((i : Int) + 1) x := he₅
    show wpAny _ _ (Builtin.SmallTypes.ownedTupleHandOut (.ref e) (.ref hp.objs.size) >>= _) _ _ ⟨h₅, g, d, tk + 1, os⟩
    refine wpAny_bind ?_
    · unfold Builtin.SmallTypes.ownedTupleHandOut
      refine wpAny_bind (wpAny_setField_rec he₅ (by simp) fun h₆ he₆ hs₆ => ?_)
      replace hs₆ : Heap.SameBut e h₅ h₆ := hs₆
      replace he₆ : IsEnumOut h₆ e it ((i : Int) + 1) x hp.objs.size := he₆
      refine wpAny_setField_rec he₆ (by simp) fun h₇ he₇ hs₇ => ?_
      replace hs₇ : Heap.SameBut e h₆ h₇ := hs₇
      replace he₇ : IsEnumOut h₇ e it ((i : Int) + 1) x hp.objs.size := he₇
      refine wpAny_bind (wpAny_letGo (wpAny_pure ⟨_, rfl, hQ h₇ he₇ ?_ ?_ ?_ ?_⟩))
      · exact ((hit₄.extBut hs₅.extBut (Ne.symm hne)).extBut hs₆.extBut (Ne.symm hne)).extBut hs₇.extBut (Ne.symm hne)
      · exact hs₇.extBut _ _ (Nat.ne_of_gt hel) (hs₆.extBut _ _ (Nat.ne_of_gt hel) (hs₅.extBut _ _ (Nat.ne_of_gt hel) ht₄))
      · rw [hs₇.1, hs₆.1, hs₅.1, hz₄]
      · exact fun b o hbe hbi hb => hs₇.extBut b o hbe (hs₆.extBut b o hbe (hs₅.extBut b o hbe (hk₄ b o hbe hbi hb)))
theorem next_item {e it l : Addr} {i : Nat} {items : Array Value} {x old : Value} {Q : Option Value → Shared → Prop}
    (he : IsEnum s.heap e it i old) (hit : s.heap.IsTupleIter it l i) (hl : s.heap.IsTuple l items) (hx : items[i]? = some x) (hne : e ≠ it)
    (hQ : ∀ h', IsEnumOut h' e it ((i : Int) + 1) x s.heap.objs.size → h'.IsTupleIter it l (i + 1) →
      h'.get? s.heap.objs.size = some { cls := .type "tuple", data := .seq #[.int i s.toks, x] } → h'.objs.size = s.heap.objs.size + 1 →
      (∀ b o, b ≠ e → b ≠ it → s.heap.get? b = some o → h'.get? b = some o) → Q (some (.ref s.heap.objs.size)) { s with heap := h', toks := s.toks + 1 }) :
    wpAny (model prog w) A (pyNext (.ref e)) Q E s := by
  have hT : s.TypeIs (.ref e) "enumerate" := ⟨_, he, rfl⟩
  unfold pyNext
  exact wpAny_bind (wpAny_attempt (wpAny_callSpecial?_slot (name := Str.ofString "__next__") hT F.slot_enumerate_next (wpAny_call_entry F.slot_enumerate_next hT F.entry_enumerate_next
      (step_in he hit hl hx hne fun h' a b c d k => wpAny_pure (hQ h' a b c d k)) (F.args_enumerate_next_1 _))))
theorem next_end {e it l : Addr} {i : Nat} {items : Array Value} {old : Value} {Q : Option Value → Shared → Prop} (hh : A.handled = none)
    (he : IsEnum s.heap e it i old) (hit : s.heap.IsTupleIter it l i) (hl : s.heap.IsTuple l items) (hx : items[i]? = none)
    (hQ : ∀ h', Heap.ExtBut it s.heap h' → Q none { s with heap := h' }) : wpAny (model prog w) A (pyNext (.ref e)) Q E s := by
  have hT : s.TypeIs (.ref e) "enumerate" := ⟨_, he, rfl⟩
  unfold pyNext
  refine wpAny_bind (wpAny_attempt (wpAny_callSpecial?_slot (name := Str.ofString "__next__") hT F.slot_enumerate_next (wpAny_call_entry F.slot_enumerate_next hT F.entry_enumerate_next ?_ (F.args_enumerate_next_1 _))))
  show wpAny _ _ (field (.ref e) 2 >>= _) _ _ _
  refine wpAny_bind (wpAny_field he rfl (x := .ref it) rfl ?_)
  refine wpAny_bind (next_no hh hit hl hx fun h' x he' hx' => ?_)
  obtain ⟨o, ho, hc⟩ := hx'
  refine wpAny_bind (wpAny_isInstance (T := "StopIteration") (b := true) ⟨o, ho, hc⟩ isSubtype_stop ?_)
  exact wpAny_pure (hQ _ he')
theorem call_new {l : Addr} {items : Array Value} {Q : Value → Shared → Prop} (hl : s.heap.IsTuple l items)
    (h : ∀ h', IsEnum h' (s.heap.objs.size + 1) s.heap.objs.size 0 .none → h'.IsTupleIter s.heap.objs.size l 0 → h'.objs.size = s.heap.objs.size + 2 →
      (∀ b o, s.heap.get? b = some o → h'.get? b = some o) → Q (.ref (s.heap.objs.size + 1)) { s with heap := h' }) : wpAny (model prog w) A (call (.type "enumerate") [.ref l]) Q E s := by
  refine callType_new F.called_enumerate (by decide) (F.typeCall_enumerate_1 _) (F.newCall_enumerate_1 _) (fun obj => F.args_object_init_2 obj _) F.entry_enumerate_new (meets_new l items) ⟨hl, ?_⟩
  have hz : (s.heap.push (tIt l)).objs.size = s.heap.objs.size + 1 := Heap.size_push ..
  show _ ∧ _
  rw [hz]
  have he : IsEnum ((s.heap.push (tIt l)).push (enO s.heap.objs.size)) (s.heap.objs.size + 1) s.heap.objs.size 0 .none := by
    have := Heap.get?_push_size (s.heap.push (tIt l)) (o := enO s.heap.objs.size) rfl
    rw [hz] at this
    exact this
  refine ⟨⟨_, he, rfl⟩, h _ he ⟨_, Heap.get?_push_of_some _ (Heap.get?_push_size _ rfl), rfl, rfl⟩ (by rw [Heap.size_push, hz]) fun b o x => Heap.get?_push_of_some _ (Heap.get?_push_of_some _ x)⟩
end
end EnT
namespace L2
open PySem PySem.Spec PyProof.Rows
theorem turned_all {X : Cx} {pins : List (Addr × Obj)} {σ : St} {H : Hp} {s : Shared} {h' : Heap} {t' : Nat} {fp : List Addr} (I : Inv X pins σ H s) (hf : ∀ b ∈ fp, FpOk X pins H b) (k : ∀ b o, b ∉ fp → s.heap.get? b = some o → h'.get? b = some o) : Inv X pins σ H { s with heap := h', toks := t' } := by
  have nit : ∀ b u, H b = some u → b ∉ fp := fun b u e z => by rw [(hf b z).1] at e; cases e
  refine I.step (g' := s.gens) (d' := s.drawn) (ch := fp) (fun b hb => ⟨(hf b hb).2.2.2.1, (hf b hb).2.1, (hf b hb).2.2.2.2.1, (hf b hb).2.2.2.2.2⟩) (fun b o _ _ hc e _ => k b o hc e) (fun b o _ _ hc e _ => ⟨o.slots, k b o hc e⟩) (fun _ _ _ _ n => n)
    (fun b o hc e => ⟨o, k b o hc e⟩) (fun _ _ e => e) (fun _ _ _ e => e) (fun b ps e => ⟨#[], by rw [e]; simp⟩) (fun m hm => ?_) (fun b u e => ?_) I.bare
  · obtain ⟨o, es, ep, ho, r⟩ := hm
    exact ⟨o, es, ep, k _ o (fun z => (hf _ z).2.1 rfl) ho, r⟩
  · refine (I.hok b u e).stay (fun c v hc q => k c v ?_ q) (fun _ q => q) fun _ _ q => q
    rcases hc with z | z
    · rw [z]
      exact nit b u e
    · exact nit c _ z
theorem bt_enumerate : bootBuiltins "enumerate" = some (.type "enumerate") := by decide +kernel
theorem qg_pair {X : Cx} {x y : Str} {p1 p2 pos : Pos} {k : Nat} {t1 t2 : TG} (hc : X.calm = true) (h1 : QG X (.Name x p1) t1) (h2 : QG X (.Name y p2) t2) : QG X (.Tuple [.Name x p1, .Name y p2] k pos) (gTup X.K 2 (gCons t1 (gCons t2 gNil))) :=
  ⟨pg_tup hc (pgs_cons h1.out (pgs_cons h2.out pgs_nil))⟩
end L2
set_option Elab.async false
set_option linter.all false
set_option maxRecDepth 100000
set_option maxHeartbeats 1000000
namespace L2
open PySem PySem.Spec PyProof.Rows
section
variable {X : Cx}
theorem qe_dget {o i : Expr} {td ty : TE} {pos : Pos} (hu : X.A.units + 1 < cLine) (ho : QE X o td) (hi : QE X i ty) (hs : NoSl i) : QE X (.Subscript o i pos) (tDGet td ty) := ⟨pe_dget hu ho.out hi.out hs⟩
theorem qe_dnew {pos : Pos} : QE X (.Dict [] [] pos) tDNewK := ⟨pe_dnewK⟩
theorem qs_dput {o i value : Expr} {td ty tv : TE} {pos pos' : Pos} (hu : X.A.units + 1 < cLine) (ho : QE X o td) (hi : QE X i ty) (hv : QE X value tv) (hs : swapsWith value (some (.Subscript o i pos')) pos.line X.env = pure false) :
    QS X (.Assign [.Subscript o i pos'] value pos) (sDPut td ty tv) := ⟨ps_dput hu ho.out hi.out hv.out hs⟩
noncomputable def rDIn (neg : Bool) : R2 := fun y x H Q => ∃ a o, x = .ref a ∧ DGet H a y o ∧ Q (.bl (if neg then !o.isSome else o.isSome)) H
theorem op_notIn_dict (hu : X.A.units + 1 < cLine) : OpR X (compareOp .NotIn) (rDIn true) := by
  intro pins s σ H x y v u Q I rx ry h
  obtain ⟨a, o, rfl, g, q⟩ := h
  cases ry
  exact d_notIn hu I g rx fun s' I' => ⟨.bl (!o.isSome), H, I', rfl, q⟩
theorem valV_mem {κ : Type} [DecidableEq κ] : ∀ {kvs : List (κ × V)}, (kvs.map (·.1)).Nodup → ∀ p ∈ kvs, valV kvs p.1 = some p.2
  | [], _, _, h => nomatch h
  | q :: r, nd, p, h => by
    rw [List.map_cons, List.nodup_cons] at nd
    rcases List.mem_cons.mp h with rfl | h
    · exact valV_pos rfl
    · have hne : ¬ q.1 = p.1 := fun z => nd.1 (by rw [z]; exact List.mem_map_of_mem h)
      rw [valV_neg hne]
      exact valV_mem nd.2 p h
theorem eqV_self {x : V} (h : flatV x = true) : eqV x x = true := by
  cases x <;> first
    | exact beq_self_eq_true _
    | rfl
    | cases h
end
end L2
set_option Elab.async false
set_option linter.all false
set_option maxRecDepth 100000
set_option maxHeartbeats 1000000
namespace L2
open PySem PySem.Spec PyProof.Rows
inductive KTab (P : Params) : List DictEntry → List (Str × Int) → Prop
  | nil : KTab P [] []
  | cons {k : Str} {v : Int} {t u : Tok} {es : List DictEntry} {l : List (Str × Int)} : KTab P es l → KTab P ({ hash := PyData.keyHash P k, key := .str k t, val := .int v u } :: es) ((k, v) :: l)
noncomputable def kvsOf (l : List (Str × Int)) : List (Key × V) := l.map fun p => ((Sum.inr p.1 : Key), V.int p.2)
theorem KTab.pairs {P : Program} {w : World} {es : List DictEntry} {l : List (Str × Int)} (h : KTab w.params es l) : (∃ vs, KV (kvsOf l) vs ∧ Pairs (mixKind P w) es vs) ∧ ∀ e ∈ es, ∃ k, (mixKind P w).is k e.key = true ∧ e.hash = (mixKind P w).hash k := by
  induction h with
  | nil => exact ⟨⟨[], .nil, .nil⟩, fun _ h => nomatch h⟩
  | @cons k v t u es l _ ih =>
    obtain ⟨⟨vs, r, p⟩, q⟩ := ih
    refine ⟨⟨(.inr k, .int v u) :: vs, .cons ⟨rfl, ⟨u, rfl⟩⟩ r, .cons (mixKind_str P w k t) rfl p⟩, fun e he => ?_⟩
    rcases List.mem_cons.mp he with rfl | he
    · exact ⟨.inr k, mixKind_str P w k t, rfl⟩
    · exact q e he
section
variable {X : Cx} {pins : List (Addr × Obj)} {σ : St} {H : Hp} {s : Shared} {a : Addr} {l : List (Str × Int)} {k : Key} {u : Value} {A : Around} {E : Value → Shared → Prop}
end
section
variable {X : Cx}
end
end L2
set_option Elab.async false
set_option linter.all false
set_option maxRecDepth 100000
set_option maxHeartbeats 1000000
namespace L2
open PySem PySem.Spec PyProof.Rows
noncomputable def eqvs : List V → List V → Bool
  | [], [] => true
  | x :: xs, y :: ys => eqV x y && eqvs xs ys
  | _, _ => false
noncomputable def eqJ (xs ys : List V) (j : Nat) : Bool := match xs[j]?, ys[j]? with
  | some a, some b => eqV a b
  | _, _ => true
theorem eqvs_range : ∀ xs ys : List V, ((List.range (min xs.length ys.length)).all (eqJ xs ys) && xs.length == ys.length) = eqvs xs ys
  | [], [] => rfl
  | [], y :: ys => by simp [eqvs]
  | x :: xs, [] => by simp [eqvs]
  | x :: xs, y :: ys => by
    have ih := eqvs_range xs ys
    have e1 : min (x :: xs).length (y :: ys).length = min xs.length ys.length + 1 := by
      simp only [List.length_cons]
      omega
    have e2 : ((x :: xs).length == (y :: ys).length) = (xs.length == ys.length) := by simp
    rw [e1, e2, List.range_succ_eq_map, List.all_cons, List.all_map, Bool.and_assoc]
    show (eqV x y && ((List.range (min xs.length ys.length)).all (eqJ xs ys) && xs.length == ys.length)) = (eqV x y && eqvs xs ys)
    rw [ih]
theorem eqvs_self {xs : List V} (f : xs.all flatV = true) : eqvs xs xs = true := by
  induction xs with
  | nil => rfl
  | cons x xs ih =>
    rw [List.all_cons, Bool.and_eq_true] at f
    show (eqV x x && eqvs xs xs) = true
    rw [eqV_self f.1, ih f.2]
    rfl
section
variable {X : Cx}
end
end L2
set_option Elab.async false
set_option linter.all false
set_option maxRecDepth 100000
set_option maxHeartbeats 1000000
namespace L2
open PySem PySem.Spec PyProof.Rows
noncomputable def tx : Value → Str
  | .str x _ => x
  | _ => ⟨#[]⟩
section
variable {prog : Program} {w : World} {A : Around} {E : Value → Shared → Prop} {s : Shared}
noncomputable def ins (S : List Str) (x : Str) : List Str := if x ∈ S then S else S ++ [x]
end
end L2
set_option Elab.async false
set_option linter.all false
set_option maxRecDepth 100000
set_option maxHeartbeats 3200000
namespace L2
open PySem PySem.Spec PyProof.Rows
section
variable {prog : Program} {w : World} {A : Around} {R : Result → Shared → Prop} {I : Addr} {fp wr : List Addr} {G : Array GenState → Array GenState → Prop} {n : Nat} {P : Nat → Value → Prop} {St : Nat → Shared → Prop}
end
end L2
set_option Elab.async false
set_option linter.all false
set_option maxRecDepth 100000
set_option maxHeartbeats 3200000
namespace L2
open PySem PySem.Spec PyProof.Rows
section
variable {prog : Program} {w : World} {A : Around} {E : Value → Shared → Prop} {s : Shared}
end
end L2
set_option Elab.async false
set_option linter.all false
set_option maxRecDepth 100000
set_option maxHeartbeats 3200000
namespace L2
open PySem PySem.Spec PyProof.Rows
section
variable {prog : Program} {w : World} {A : Around} {E : Value → Shared → Prop} {s : Shared}
end
end L2
set_option Elab.async false
set_option linter.all false
set_option maxRecDepth 100000
set_option maxHeartbeats 3200000
namespace L2
open PySem PySem.Spec PyProof.Rows
noncomputable def SetIter (h : Heap) (I a : Addr) (first : Value) (i n ep : Nat) : Prop := ∃ o, h.get? I = some o ∧ o.cls = .type "set_iterator" ∧ o.data = .fields #[first, .int i 0, .ref a, .int n 0, .int ep 0]
section
variable {prog : Program} {w : World} {A : Around} {E : Value → Shared → Prop} {s : Shared}
theorem SetIter.typeIs {I a : Addr} {first : Value} {i n ep : Nat} (x : SetIter s.heap I a first i n ep) : s.TypeIs (.ref I) "set_iterator" := let ⟨o, ho, hc, _⟩ := x; ⟨o, ho, hc⟩
end
end L2
set_option Elab.async false
set_option linter.all false
set_option maxRecDepth 100000
set_option maxHeartbeats 3200000
namespace L2
open PySem PySem.Spec PyProof.Rows
section
variable {prog : Program} {w : World} {A : Around} {E : Value → Shared → Prop} {s : Shared}
end
end L2
set_option Elab.async false
set_option linter.all false
set_option maxRecDepth 100000
set_option maxHeartbeats 3200000
namespace L2
open PySem PySem.Spec PyProof.Rows
section
variable {prog : Program} {w : World} {A : Around} {E : Value → Shared → Prop} {s : Shared}
end
end L2
set_option Elab.async false
set_option linter.all false
set_option maxRecDepth 100000
set_option maxHeartbeats 3200000
namespace L2
open PySem PySem.Spec PyProof.Rows
section
variable {prog : Program} {w : World} {A : Around} {E : Value → Shared → Prop} {s : Shared}
end
end L2
set_option Elab.async false
set_option linter.all false
set_option maxRecDepth 100000
set_option maxHeartbeats 3200000
namespace L2
open PySem PySem.Spec PyProof.Rows
section
variable {prog : Program} {w : World} {A : Around} {E : Value → Shared → Prop} {s : Shared}
end
end L2
set_option Elab.async false
set_option linter.all false
set_option maxRecDepth 100000
set_option maxHeartbeats 3200000
namespace L2
open PySem PySem.Spec PyProof.Rows
section
variable {X : Cx}
end
end L2
set_option Elab.async false
set_option linter.all false
set_option maxRecDepth 100000
set_option maxHeartbeats 3200000
namespace L2
open PySem PySem.Spec PyProof.Rows
end L2
set_option Elab.async false
set_option linter.all false
set_option maxRecDepth 100000
set_option maxHeartbeats 3200000
namespace L2
open PySem PySem.Spec PyProof.Rows
section
variable {prog : Program} {w : World} {A : Around} {E : Value → Shared → Prop} {s : Shared}
end
section
variable {X : Cx}
end
end L2
set_option Elab.async false
set_option linter.all false
set_option maxRecDepth 100000
set_option maxHeartbeats 3200000
namespace L2
open PySem PySem.Spec PyProof.Rows
end L2
namespace L2
open PySem PySem.Spec PyProof.Rows
end L2
set_option Elab.async false
set_option linter.all false
set_option maxRecDepth 100000
set_option maxHeartbeats 3200000
namespace L2
open PySem PySem.Spec PyProof.Rows
section
variable {X : Cx}
end
end L2
set_option Elab.async false
set_option linter.all false
set_option maxRecDepth 100000
set_option maxHeartbeats 3200000
namespace L2
open PySem PySem.Spec PyProof.Rows
noncomputable abbrev frzA (o : Obj) : HO := .frz o (.ext fun _ => True)
theorem frzA_ok {P : Program} {w : World} {H : Hp} {h : Heap} {a : Addr} {o : Obj} (e : h.get? a = some o) : ObjOk P w H h a (frzA o) := ⟨e, trivial, ⟨o, e⟩, fun _ _ _ _ => trivial⟩
noncomputable def hide (cs : List Addr) (H : Hp) : Hp := fun b => if b ∈ cs then none else H b
noncomputable def unhide (cs : List Addr) (H H' : Hp) : Hp := fun b => if b ∈ cs then H b else H' b
theorem hide_in {cs : List Addr} {H : Hp} {b : Addr} (h : b ∈ cs) : hide cs H b = none := if_pos h
theorem hide_out {cs : List Addr} {H : Hp} {b : Addr} (h : b ∉ cs) : hide cs H b = H b := if_neg h
theorem unhide_in {cs : List Addr} {H H' : Hp} {b : Addr} (h : b ∈ cs) : unhide cs H H' b = H b := if_pos h
theorem unhide_out {cs : List Addr} {H H' : Hp} {b : Addr} (h : b ∉ cs) : unhide cs H H' b = H' b := if_neg h
theorem of_hide {cs : List Addr} {H : Hp} {b : Addr} {o : HO} (h : hide cs H b = some o) : b ∉ cs ∧ H b = some o := by
  by_cases m : b ∈ cs
  · rw [hide_in m] at h; cases h
  · rw [hide_out m] at h; exact ⟨m, h⟩
noncomputable def FrzIn (H H1 : Hp) : Prop := ∀ b o u, H b = some (.frz o u) → H1 b = some (.frz o u)
theorem FrzIn.refl (H : Hp) : FrzIn H H := fun _ _ _ h => h
theorem FrzIn.trans {H H1 H2 : Hp} (a : FrzIn H H1) (b : FrzIn H1 H2) : FrzIn H H2 := fun c o u h => b c o u (a c o u h)
theorem Same.frz {H H1 : Hp} (a : Same H H1) : FrzIn H H1 := fun b o u h => a b _ h
noncomputable def Callable (P : Program) (w : World) (K : PySem.W.Frag) (mg : Str → Option Value) (base : Heap) (k : Nat) (f : Addr) (H : Hp) (τ : Sp) : Prop :=
  (∃ o fd, H f = some (frzA o) ∧ o.data = .func fd) ∧
  ∀ (A : Around) (outer : List Env) (s : Shared) (H1 : Hp) (us : List Value) (vs : List V) (Q : VK) (E : XK), FrzIn H H1 → Room k A → Env0 P w K mg base A outer s H1 → Vals vs us → τ vs H1 Q E →
    codeAny (model P w) A (.call (.ref f) ⟨us, []⟩) (CR CX0 outer P w H1 s Q E) s
theorem Callable.frz {P : Program} {w : World} {K : PySem.W.Frag} {mg : Str → Option Value} {base : Heap} {k : Nat} {f : Addr} {H H1 : Hp} {τ : Sp} (c : Callable P w K mg base k f H τ) (h : FrzIn H H1) : Callable P w K mg base k f H1 τ :=
  ⟨let ⟨o, fd, e, d⟩ := c.1; ⟨o, fd, h _ _ _ e, d⟩, fun A outer s H2 us vs Q E fz => c.2 A outer s H2 us vs Q E (h.trans fz)⟩
section
variable {P : Program} {w : World} {H H' : Hp} {h h' : Heap} {cs : List Addr}
theorem hide_ok (x : HOk P w H h) (hcs : ∀ c ∈ cs, ∃ o, H c = some (frzA o)) : HOk P w (hide cs H) h := fun a o e => by
  obtain ⟨_, e'⟩ := of_hide e
  refine (x a o e').stay (fun _ _ _ q => q) (fun d q => ?_) fun d xs q => ?_
  · by_cases m : d ∈ cs
    · obtain ⟨ob, z⟩ := hcs d m
      rw [q] at z; cases z
    · rw [hide_out m]; exact q
  · by_cases m : d ∈ cs
    · obtain ⟨ob, z⟩ := hcs d m
      rw [q] at z; cases z
    · rw [hide_out m]; exact q
theorem unhide_ok (x : HOk P w H' h') (hn : ∀ c ∈ cs, H' c = none) (hcs : ∀ c ∈ cs, ∃ o, H c = some (frzA o) ∧ h'.get? c = some o) : HOk P w (unhide cs H H') h' := fun a o e => by
  by_cases m : a ∈ cs
  · rw [unhide_in m] at e
    obtain ⟨ob, z, g⟩ := hcs a m
    rw [z] at e; cases e
    exact frzA_ok g
  · rw [unhide_out m] at e
    refine (x a o e).stay (fun _ _ _ q => q) (fun d q => ?_) fun d xs q => ?_
    · by_cases m : d ∈ cs
      · rw [hn d m] at q; cases q
      · rw [unhide_out m]; exact q
    · by_cases m : d ∈ cs
      · rw [hn d m] at q; cases q
      · rw [unhide_out m]; exact q
end
structure LamSc (scope : Scope) (ps ys : List Str) : Prop where
  kind : scope.kind = .function
  co : scope.isCoroutine = false
  gen : scope.isGenerator = false
  cell : ∀ y ∈ scope.names, y.2 ≠ .cell
  par : ∀ p ∈ ps, scope.names.lookup p = some .local
  free : ∀ y ∈ ys, scope.names.lookup y = some .free
  nd : (ps ++ ys).Nodup
noncomputable def cxL (P : Program) (w : World) (K : PySem.W.Frag) (mg : Str → Option Value) (base : Heap) (N : List Str) (qual : Str) (scope : Scope) (f : Addr) (cd : Value) (cl : List (Str × Addr)) (A : Around) (outer : List Env) (s : Shared) (H : Hp) : Cx where
  prog := P
  w := w
  K := K
  mg := mg
  base := base
  A := A.deeper (PySem.W.envX qual scope s.heap.objs.size f cd cl)
  N := N
  s₀ := s
  H₀ := H
  env := PySem.W.envX qual scope s.heap.objs.size f cd cl
  outer := outer
  stack := PySem.W.envX qual scope s.heap.objs.size f cd cl :: outer
  ex := []
  calm := true
  fn := fun _ => false
  pn := []
  xe := fun _ _ => False
noncomputable def lamSp (n : Nat) (te : TE) (cs : List Addr) (cv : List (Option V)) : Sp := fun vs H Q _ => vs.length = n ∧ te (vs.map some ++ cv) (hide cs H) fun v H' => (∀ c ∈ cs, H' c = none) → Q v (unhide cs H H')
theorem rev_lookup {ps : List Str} {us : List Value} (nd : ps.Nodup) {i : Nat} {x : Str} {u : Value} (h1 : ps[i]? = some x) (h2 : us[i]? = some u) (hl : ps.length = us.length) : (ps.zip us).reverse.lookup x = some u := by
  have hm : (x, u) ∈ ps.zip us := by
    obtain ⟨a1, e1⟩ := List.getElem?_eq_some_iff.mp h1
    obtain ⟨a2, e2⟩ := List.getElem?_eq_some_iff.mp h2
    rw [← e1, ← e2, ← List.getElem_zip (h := by rw [List.length_zip]; omega)]
    exact List.getElem_mem _
  have ndz : ((ps.zip us).map (·.1)).Nodup := by
    rw [List.map_fst_zip (by omega)]
    exact nd
  have ndr : ((ps.zip us).reverse.map (·.1)).Nodup := by
    rw [List.map_reverse]
    unfold List.Nodup at ndz ⊢
    rw [List.pairwise_reverse]
    exact ndz.imp fun h => h.symm
  have hr : (x, u) ∈ (ps.zip us).reverse := List.mem_reverse.mpr hm
  generalize (ps.zip us).reverse = l at ndr hr
  induction l with
  | nil => cases hr
  | cons p r ih =>
    obtain ⟨n, v⟩ := p
    rw [List.lookup_cons]
    rcases List.mem_cons.mp hr with e | hr'
    · injection e with e1 e2
      subst e1; subst e2
      simp
    · have hne : x ≠ n := fun e => by
        rw [List.map_cons, List.nodup_cons] at ndr
        exact ndr.1 (by rw [← e]; exact List.mem_map_of_mem (f := (·.1)) hr')
      have : (x == n) = false := by simpa using hne
      rw [this]
      rw [List.map_cons, List.nodup_cons] at ndr
      exact ih ndr.2 hr'
section
variable {P : Program} {w : World} {K : PySem.W.Frag} {mg : Str → Option Value} {base : Heap}
theorem lam_callable {k : Nat} {f c' : Addr} {name qual : Str} {params : Arguments} {body : Expr} {scope : Scope} {cl : List (Str × Addr)} {pm ctv : Value} {oc : Obj} {ps ys : List Str} {cv : List (Option V)} {te : TE} {H : Hp} {cs : List Addr}
    (S : LamSc scope ps ys) (hf : H f = some (frzA (PySem.W.kla_obj name qual params body scope cl pm c' ctv))) (hc : H c' = some (frzA oc)) (hoc : ∃ vs t, oc.data = .fields vs ∧ vs[1]? = some (.str qual t))
    (hcl : ∀ x c, cl.lookup x = some c → c ∈ cs) (hcs : ∀ c ∈ cs, ∃ o v, H c = some (frzA o) ∧ o.data = .cell v)
    (inj : ∀ x y c, cl.lookup x = some c → cl.lookup y = some c → x = y) (has : ∀ x, scope.names.lookup x = some .free → ∃ c, cl.lookup x = some c)
    (hcv : cv.length = ys.length) (hval : ∀ (i : Nat) (y : Str) (v : V), ys[i]? = some y → cv[i]? = some (some v) → ∃ c o u, cl.lookup y = some c ∧ H c = some (frzA o) ∧ o.data = .cell (some u) ∧ RelV v u)
    (hb : ∀ us : List Value, us.length = ps.length → bindArgs (PySem.W.kla_fn name qual params body scope cl pm (.ref c') ctv) ⟨us, []⟩ = pure (ps.zip us))
    (hbody : ∀ (A : Around) (outer : List Env) (s : Shared) (H1 : Hp), Room k (A.deeper (PySem.W.envX qual scope s.heap.objs.size f (.ref c') cl)) → PE (cxL P w K mg base (ps ++ ys) qual scope f (.ref c') cl A outer s H1) body te) :
    Callable P w K mg base (k + 1) f H (lamSp ps.length te cs cv) := by
  refine ⟨⟨_, _, hf, rfl⟩, ?_⟩
  intro A outer s H1 us vs Q E fz hr e0 r ht
  obtain ⟨hl, ht⟩ := ht
  have gf : s.heap.get? f = some (PySem.W.kla_obj name qual params body scope cl pm c' ctv) := (e0.hok f _ (fz _ _ _ hf)).1
  have hcs1 : ∀ c ∈ cs, ∃ o v, H1 c = some (frzA o) ∧ o.data = .cell v ∧ s.heap.get? c = some o := fun c m => by
    obtain ⟨o, v, e, d⟩ := hcs c m
    exact ⟨o, v, fz _ _ _ e, d, (e0.hok c _ (fz _ _ _ e)).1⟩
  have hcs2 : ∀ c ∈ cs, ∃ o, H1 c = some (frzA o) := fun c m => let ⟨o, _, e, _⟩ := hcs1 c m; ⟨o, e⟩
  obtain ⟨vs0, t0, hd0, hv0⟩ := hoc
  have lim : s.heap.NoLimit := e0.mod.nolimit.keeps fun b o e => (e0.bs b o e).1
  have lus : us.length = ps.length := by rw [← r.length]; exact hl
  refine PySem.W.kla_callFunE hr.depth gf rfl S.co S.gen rfl ⟨c', oc, vs0, t0, rfl, (e0.hok c' _ (fz _ _ _ hc)).1, hd0, hv0⟩ ?_
  rw [hb us lus]
  refine wpAny_pure (wpAny_newFunctionEnv S.cell (fun x hx => S.par _ (List.of_mem_zip hx).1) (fun h₁ hns hsb => ⟨lim.fresh _ hsb, ?_⟩) S.kind)
  have old : ∀ b o, s.heap.get? b = some o → h₁.get? b = some o := fun b o e => hsb.extBut b o (Nat.ne_of_lt (Heap.lt_size e)) (Heap.get?_push_of_some _ e)
  show codeAny _ _ (.expr body (PySem.W.envX qual scope s.heap.objs.size f (.ref c') cl)) _ _
  have ndp : ps.Nodup := (List.nodup_append.mp S.nd).1
  have I : Inv (cxL P w K mg base (ps ++ ys) qual scope f (.ref c') cl A outer s (hide cs H1)) [] (vs.map some ++ cv) (hide cs H1) { s with heap := h₁, toks := s.toks + (ps.zip us).length } := by
    have noA : ∀ b : Addr, b ∉ ([] : List Addr) := fun b z => nomatch z
    refine ⟨⟨e0.mod, S.kind, rfl, rfl, Nat.le_refl _, inj, fun y hy => ?_, (fun y c h => by cases h), fun _ => hr.hd, Around.frames_deeper e0.frames, .inr ⟨rfl, rfl⟩, fun b z => absurd z (noA b), fun b o e => ⟨(e0.bs b o e).1, ?_⟩, e0.bsz, fun b _ _ => noA b, fun b z => absurd z (noA b), e0.funs, fun b hb => ?_⟩,
      rfl, e0.bare, Un.kept old, ⟨_, hns, fun i y v h1 h2 h3 => ?_⟩, fun y c h => ?_, ?_, fun y c h => hide_in (hcl y c h), fun p hp => absurd (show p ∈ ([] : List (Addr × Obj)) from hp) (by simp), (hide_ok e0.hok hcs2).kept old, ?_⟩
    · have hy : scope.names.lookup y = some .cell ∨ scope.names.lookup y = some .free := hy
      rcases hy with hy | hy
      · exact absurd rfl (S.cell _ (PySem.mem_of_lookup hy))
      · exact has y hy
    · by_cases m : b ∈ cs
      · exact hide_in m
      · exact (hide_out m).trans (e0.bs b o e).2
    · by_cases m : b ∈ cs
      · exact hide_in m
      · exact (hide_out m).trans (e0.frf b hb)
    · by_cases hi : i < vs.length
      · rw [List.getElem?_append_left (by simpa using hi), List.getElem?_map] at h2
        have ha : vs[i]? = some v := by
          cases e : vs[i]? with
          | none => rw [e] at h2; cases h2
          | some a => rw [e] at h2; cases h2; rfl
        obtain ⟨u, hu, rv⟩ := r.get ha
        have h1' : (ps ++ ys)[i]? = some y := h1
        rw [List.getElem?_append_left (by omega)] at h1'
        exact ⟨u, rv, .inl ⟨S.par y (List.mem_of_getElem? h1'), rev_lookup ndp h1' hu lus.symm⟩⟩
      · rw [List.getElem?_append_right (by simpa using hi), List.length_map] at h2
        have h1' : (ps ++ ys)[i]? = some y := h1
        rw [List.getElem?_append_right (by omega), ← hl] at h1'
        obtain ⟨c, o, u, e1, e2, e3, rv⟩ := hval _ y v h1' h2
        refine ⟨u, rv, .inr ⟨.inr (S.free y (List.mem_of_getElem? h1')), c, e1, o, old _ _ (e0.hok c _ (fz _ _ _ e2)).1, e3⟩⟩
    · obtain ⟨o, v, _, d, g⟩ := hcs1 c (hcl y c h)
      exact ⟨v, o, old _ _ g, d⟩
    · show hide cs H1 s.heap.objs.size = none
      by_cases m : s.heap.objs.size ∈ cs
      · exact hide_in m
      · rw [hide_out m]; exact e0.hok.fresh (Nat.le_refl _)
    · show (vs.map some ++ cv).length = (ps ++ ys).length
      rw [List.length_append, List.length_append, List.length_map, hl, hcv]
  refine PySem.W.kla_codeExpr (wpAny_mono (hbody A outer s (hide cs H1) (hr.deeper _) [] _ _ _ _ I ht) (fun u s' hs => ?_) fun _ _ z => z.elim)
  obtain ⟨v, H', J, rv, q⟩ := hs
  have b : Un (frs outer) [] (hide cs H1) H' s.heap s'.heap := J.base
  have nfr : ∀ c ∈ cs, c ∉ frs outer := fun c m z => by
    obtain ⟨o, e⟩ := hcs2 c m
    rw [e0.frf c z] at e; cases e
  have Hn : ∀ c ∈ cs, H' c = none := fun c m => by
    obtain ⟨o, v, e, d, g⟩ := hcs1 c m
    exact b.free c o g (hide_in m) (fun z => nomatch z)
  have hh : ∀ d, H1 d = none → hide cs H1 d = none := fun d n => by
    by_cases m : d ∈ cs
    · exact hide_in m
    · rw [hide_out m]; exact n
  have nm : ∀ d o, H1 d = some o → (∀ ob, o ≠ frzA ob) → d ∉ cs := fun d o e ne m => by
    obtain ⟨ob, z⟩ := hcs2 d m
    rw [e] at z
    exact ne ob (Option.some.inj z)
  refine ⟨v, unhide cs H1 H', J.os, J.bare, ⟨fun d o e n hb hx => b.keep d o e (hh d n) hb hx, fun d o e n hb hx => b.slot d o e (hh d n) hb hx, fun d o e n hx => ?_, b.there, fun d xs e => ?_, fun d o u e => ?_, fun d pz e => ?_⟩, unhide_ok J.hok Hn fun c m => ?_, rv, q Hn⟩
  · by_cases m : d ∈ cs
    · rw [unhide_in m]; exact n
    · rw [unhide_out m]; exact b.free d o e (hh d n) hx
  · have m := nm d _ e (fun ob z => nomatch z)
    rw [unhide_out m]; exact b.tups d xs (by rw [hide_out m]; exact e)
  · by_cases m : d ∈ cs
    · rw [unhide_in m]; exact e
    · rw [unhide_out m]; exact b.frzs d o u (by rw [hide_out m]; exact e)
  · have m := nm d _ e (fun ob z => nomatch z)
    rw [unhide_out m]; exact b.tbls d pz (by rw [hide_out m]; exact e)
  · obtain ⟨o, v, e, d, g⟩ := hcs1 c m
    exact ⟨o, e, b.keep c o g (hide_in m) (nfr c m) (fun z => nomatch z)⟩
end
end L2
set_option Elab.async false
set_option linter.all false
set_option maxRecDepth 100000
set_option maxHeartbeats 3200000
namespace L2
open PySem PySem.Spec PyProof.Rows
noncomputable def CodeOk (oc : Obj) (qual : Str) : Prop := ∃ vs t, oc.data = .fields vs ∧ vs[1]? = some (.str qual t)
noncomputable def TabOk (H : Hp) (P : Addr) (pos : Pos) (qual : Str) : Prop :=
  H P = some (.tbl #[]) ∨ ∃ c' oc, H P = some (.tbl #[rawInt pos.line, rawInt pos.col, .ref c']) ∧ H c' = some (frzA oc) ∧ CodeOk oc qual
theorem TabOk.ex {H : Hp} {P : Addr} {pos : Pos} {qual : Str} (h : TabOk H P pos qual) : ∃ ps, H P = some (.tbl ps) := by
  rcases h with h | ⟨_, _, h, _⟩ <;> exact ⟨_, h⟩
structure BltAt (mg : Str → Option Value) (base : Heap) : Prop where
  ex : ∃ bm ob, mg "__builtins__" = some (.ref bm) ∧ bm ≠ builtinsNs ∧ base.get? bm = some ob ∧ ob.cls = .type "module" ∧ ob.dict = some builtinsNs ∧ ob.data = .plain
noncomputable def tLam (P : Addr) (lpos : Pos) (qual : Str) (obj : Addr → Value → Obj) : TE := fun _ H Q => TabOk H P lpos qual ∧
  ∀ (f c' : Addr) (oc : Obj) (ctv : Value) (H2 : Hp), H f = none → H2 f = some (frzA (obj c' ctv)) → H2 c' = some (frzA oc) → CodeOk oc qual → TabOk H2 P lpos qual → (∀ b o, H b = some o → b ≠ P → H2 b = some o) → Q (.ref f) H2
section
variable {X : Cx} {params : Arguments} {body : Expr} {scope : Scope} {lpos : Pos} {c P : Addr} {qual : Str}
noncomputable abbrev lamObj (X : Cx) (qual : Str) (params : Arguments) (body : Expr) (scope : Scope) : Addr → Value → Obj := fun c' ctv => PySem.W.kla_obj "<lambda>" qual params body scope (clOf X.env.cells scope.names []) ((X.mg "__name__").getD .none) c' ctv
theorem pe_lambda (hcode : X.env.code = .ref c) (C : PySem.W.CodeHd X.base c P) (B : BltAt X.mg X.base) (hdef : defaultsOf params X.env = ([], [])) (hq : X.env.qual ++ "<lambda>" = qual)
    (hfree : ∀ y ∈ scope.names, y.2 = .free → X.env.scope.names.lookup y.1 = some .cell) :
    PE X (.Lambda params body scope lpos) (tLam P lpos qual (lamObj X qual params body scope)) := by
  intro pins s σ H Q I hw
  obtain ⟨hT, hq2⟩ := hw
  refine PySem.W.kla_eval hdef ?_
  rw [hq]
  have hcl : closureFor scope X.env = pure (clOf X.env.cells scope.names []) := closure_of fun y hy h => I.ok.has y.1 (.inl (hfree y hy h))
  have hg : s.heap.Ns mainGlobals X.mg := I.mod.glob.keeps I.bk
  obtain ⟨pz, hPs⟩ := hT.ex
  have baseP : X.base.get? P = none := by
    cases e : X.base.get? P with
    | none => rfl
    | some o => rw [(I.bs P o e).2] at hPs; cases hPs
  have hgP : mainGlobals ≠ P := fun e => by
    obtain ⟨o, es, ep, g, _⟩ := I.mod.glob
    rw [e, baseP] at g; cases g
  have hb : s.heap.BuiltinsAt X.mg P := by
    obtain ⟨bm, ob, b1, b2, b3, b4, b5, b6⟩ := B.ex
    refine ⟨bm, ob, b1, b2, fun e => ?_, (fun e => by rw [e, baseP] at b3; cases b3), I.bk _ _ b3, b4, b5, b6⟩
    obtain ⟨o, es, ep, g, hd, _⟩ := I.mod.glob
    rw [← e, b3] at g; cases g
    rw [b6] at hd; cases hd
  rcases hT with hT | ⟨c', oc, hT, hc', hoc⟩
  · have hP : s.heap.get? P = some (PySem.W.tabObj #[]) := I.hok P _ hT
    refine PySem.W.kla_makeFunction (mg := X.mg) (ps := #[]) hcl I.ok.glob hg hcode (C.keeps I.bk) hP trivial rfl hgP hb fun c' ctv h' tk hx hge hlt hrec htb => ?_
    obtain ⟨c₂, oc, vs, t, e2, hoc, hd, hv⟩ := hrec
    cases e2
    have cn : H c' = none := I.hok.fresh hge
    have cP : c' ≠ P := fun e => by rw [e, hT] at cn; cases cn
    have hsz : s.heap.objs.size ≤ h'.objs.size := Nat.le_trans hge (Nat.le_of_lt hlt)
    have lo : ∀ {b : Addr} {o : Obj}, s.heap.get? b = some o → b ≠ c' := fun e z => absurd (Heap.lt_size e) (by rw [z]; exact Nat.not_lt.mpr hge)
    have I1 : Inv X pins σ (upd (upd H P (.tbl #[rawInt lpos.line, rawInt lpos.col, .ref c'])) c' (frzA oc)) { s with heap := h', toks := tk } := by
      refine I.un ⟨fun b o e n _ _ => hx b o (fun z => by rw [z, hT] at n; cases n) e, fun b o e n _ _ => ⟨o.slots, hx b o (fun z => by rw [z, hT] at n; cases n) e⟩, fun b o e n _ => ?_, fun b o e _ => ?_, fun b xs e => ?_, fun b o u e => ?_, fun b pz e => ?_⟩ fun b u e => ?_
      · rw [upd_ne (lo e), upd_ne (fun z => by rw [z, hT] at n; cases n)]; exact n
      · by_cases hbP : b = P
        · rw [hbP]; exact ⟨_, htb⟩
        · exact ⟨o, hx b o hbP e⟩
      · rw [upd_ne (ne_of_none e cn), upd_ne (ne_of e hT (fun z => nomatch z))]; exact e
      · rw [upd_ne (ne_of_none e cn), upd_ne (ne_of e hT (fun z => nomatch z))]; exact e
      · by_cases hbP : b = P
        · subst hbP
          rw [hT] at e
          cases e
          exact ⟨#[rawInt lpos.line, rawInt lpos.col, .ref c'], by rw [upd_ne cP.symm, upd_same]; rfl⟩
        · exact ⟨#[], by rw [upd_ne (ne_of_none e cn), upd_ne hbP, e]; simp⟩
      · by_cases hbc : b = c'
        · subst hbc
          rw [upd_same] at e; cases e
          exact frzA_ok hoc
        · rw [upd_ne hbc] at e
          by_cases hbP : b = P
          · subst hbP
            rw [upd_same] at e; cases e
            exact htb
          · rw [upd_ne hbP] at e
            refine (I.hok b u e).stay (fun d v hd q => hx d v ?_ q) (fun d q => ?_) fun d xs q => ?_
            · rcases hd with z | z
              · rw [z]; exact hbP
              · exact ne_of z hT (fun z => nomatch z)
            · rw [upd_ne (ne_of_none q cn), upd_ne (ne_of q hT (fun z => nomatch z))]; exact q
            · rw [upd_ne (ne_of_none q cn), upd_ne (ne_of q hT (fun z => nomatch z))]; exact q
    have I2 := I1.laid (h' := h'.push (lamObj X qual params body scope c' ctv)) (t' := tk) (a := h'.objs.size) (o := frzA (lamObj X qual params body scope c' ctv)) (fun b u e => Heap.get?_push_of_some _ e) (Nat.le_refl _) (frzA_ok (Heap.get?_push_size _ rfl))
    have fn : H h'.objs.size = none := I.hok.fresh hsz
    have fc : c' ≠ h'.objs.size := Nat.ne_of_lt hlt
    have fP : P ≠ h'.objs.size := ne_of_none hT fn
    refine ⟨.ref h'.objs.size, _, I2, rfl, hq2 _ c' oc ctv _ fn upd_same ?_ ⟨vs, t, hd, hv⟩ (.inr ⟨c', oc, ?_, ?_, ⟨vs, t, hd, hv⟩⟩) fun b o e hbP => ?_⟩
    · rw [upd_ne fc]; exact upd_same
    · rw [upd_ne fP, upd_ne cP.symm]; exact upd_same
    · rw [upd_ne fc]; exact upd_same
    · rw [upd_ne (ne_of_none e fn), upd_ne (ne_of_none e cn), upd_ne hbP]; exact e
  · have hP : s.heap.get? P = some (PySem.W.tabObj #[rawInt lpos.line, rawInt lpos.col, .ref c']) := I.hok P _ hT
    have hf : codeAmong lpos (#[rawInt lpos.line, rawInt lpos.col, .ref c'] : Array Value).toList = some (.ref c') := by
      show (if ((lpos.line : Int) == lpos.line && (lpos.col : Int) == lpos.col) = true then some (Value.ref c') else _) = _
      rw [beq_self_eq_true, beq_self_eq_true]
      rfl
    refine PySem.W.kla_makeFunctionHit (mg := X.mg) hcl I.ok.glob hg hcode (C.keeps I.bk) hP trivial hf hb fun ctv h' tk hk hsz => ?_
    have I2 := I.laid (h' := h'.push (lamObj X qual params body scope c' ctv)) (t' := tk) (a := h'.objs.size) (o := frzA (lamObj X qual params body scope c' ctv)) (fun b u e => Heap.get?_push_of_some _ (hk b u e)) hsz (frzA_ok (Heap.get?_push_size _ rfl))
    have fn : H h'.objs.size = none := I.hok.fresh hsz
    have sm : ∀ b o, H b = some o → upd H h'.objs.size (frzA (lamObj X qual params body scope c' ctv)) b = some o := fun b o e => by rw [upd_ne (ne_of_none e fn)]; exact e
    exact ⟨.ref h'.objs.size, _, I2, rfl, hq2 _ c' oc ctv _ fn upd_same (sm _ _ hc') hoc (.inr ⟨c', oc, sm _ _ hT, sm _ _ hc', hoc⟩) fun b o e _ => sm b o e⟩
end
end L2
set_option Elab.async false
set_option linter.all false
set_option maxRecDepth 100000
set_option maxHeartbeats 3200000
namespace L2
open PySem PySem.Spec PyProof.Rows
noncomputable def cellsOf (cells : List (Str × Addr)) : List Addr := (cells.map (·.1)).filterMap fun x => cells.lookup x
theorem mem_cellsOf {cells : List (Str × Addr)} {c : Addr} : c ∈ cellsOf cells ↔ ∃ x, cells.lookup x = some c := by
  unfold cellsOf
  rw [List.mem_filterMap]
  constructor
  · rintro ⟨x, _, h⟩
    exact ⟨x, h⟩
  · rintro ⟨x, h⟩
    exact ⟨x, List.mem_map.mpr ⟨(x, c), PySem.mem_of_lookup h, rfl⟩, h⟩
structure LamAt (S0 scope : Scope) (N0 ps ys : List Str) (is : List Nat) : Prop where
  sc : LamSc scope ps ys
  free : ∀ y ∈ scope.names, y.2 = .free → S0.names.lookup y.1 = some .cell
  vis : ∀ q ∈ ys.zip is, N0[q.2]? = some q.1
  len : ys.length = is.length
section
variable {X : Cx} {params : Arguments} {body a : Expr} {scope : Scope} {lpos p pos : Pos} {c P g : Addr} {qual x : Str} {k kl : Nat} {gd : FuncData} {pg ps ys : List Str} {is : List Nat} {sp : Sp} {ta te : TE}
theorem hide_keep {cs : List Addr} {H2 H1 : Hp} {b : Addr} {u : HO} (hcs : ∀ c ∈ cs, ∃ o, H2 c = some (frzA o)) (s : Same H2 H1) (h : H1 b = some u) (hu : ∀ o, u ≠ frzA o) : hide cs H1 b = some u := by
  rw [hide_out fun m => ?_]
  · exact h
  · obtain ⟨o, e⟩ := hcs b m
    rw [s _ _ e] at h
    exact hu o (Option.some.inj h).symm
theorem TabOk.same {H H' : Hp} {P : Addr} {pos : Pos} {qual : Str} (h : TabOk H P pos qual) (s : Same H H') : TabOk H' P pos qual := by
  rcases h with h | ⟨c, oc, h1, h2, h3⟩
  · exact .inl (s _ _ h)
  · exact .inr ⟨c, oc, s _ _ h1, s _ _ h2, h3⟩
noncomputable def tCallV (Pg : Program) (w : World) (K : PySem.W.Frag) (mg : Str → Option Value) (base : Heap) (k : Nat) (i : Nat) (t : TA) : TE := fun σ H Q => ∃ (f : Addr) (τ : Sp), σ[i]? = some (some (.ref f)) ∧ Callable Pg w K mg base k f H τ ∧
  t σ H fun vs H1 => FrzIn H H1 ∧ τ vs H1 Q E0
theorem fnAt_of {P : Program} {w : World} {K : PySem.W.Frag} {mg : Str → Option Value} {base : Heap} {k : Nat} {f : Addr} {H H1 : Hp} {τ : Sp} {h : Heap} (c : Callable P w K mg base k f H τ) (fz : FrzIn H H1) (hok : HOk P w H1 h) : PySem.W.FnAt f h := by
  obtain ⟨o, fd, e, d⟩ := c.1
  have g := (hok f _ (fz _ _ _ e)).1
  obtain ⟨oc, od, dt, sl⟩ := o
  cases d
  exact ⟨oc, od, fd, sl, g⟩
theorem qe_callV (i : Nat) {e : Expr} {es : List Expr} {t : TA} (hr : Room k X.A) (ha : QA X (e :: es) t) (hN : X.N[i]? = some x := by rfl) (hv : Vis X.env.scope x := by first | exact Or.inl rfl | exact Or.inr (Or.inl rfl) | exact Or.inr (Or.inr rfl))
    (hdb : (x == ("__debug__" : Str)) = false := by decide) (hcd : (x == ("__classdict__" : Str)) = false := by decide) (he : starEach (e :: es) X.env = (false, eval e X.env) :: starEach es X.env := by rfl) (hpl : (backTo pos (starEach es X.env)).any (·.1) = false := by rfl) :
    QE X (.Call (.Name x p) (e :: es) [] pos) (tCallV X.prog X.w X.K X.mg X.base k i t) := by
  refine ⟨?_⟩
  intro pins s σ H Q I hw
  obtain ⟨f, τ, hσ, hc, ht⟩ := hw
  refine wpAny_Call_Name_kw (thn (pe_var hN hv hdb hcd pins s σ H (fun v H' => v = .ref f ∧ H' = H) I ⟨.ref f, hσ, rfl, rfl⟩) fun u s1 ⟨v, H', I1, r, hv', hH⟩ => ?_)
  subst hv'
  subst hH
  cases r
  refine PySem.W.callWith_F (fnAt_of hc (FrzIn.refl _) I1.hok) (thn (ha.out pos pins s1 σ H' _ I1 ht) fun us s2 ⟨vs, H1, I2, rv, fz, hτ⟩ => ⟨fnAt_of hc fz I2.hok, ?_⟩) he hpl
  refine wpAny_call (codeAny_mono (hc.2 X.A X.stack s2 H1 us vs Q E0 fz hr I2.env0 rv hτ) fun r s' hq => ?_)
  cases r with
  | error e => exact hq.elim
  | ok fl =>
    cases fl with
    | ret u => exact I2.after hq
    | next => exact False.elim hq
    | brk => exact False.elim hq
    | cont => exact False.elim hq
end
end L2
set_option Elab.async false
set_option linter.all false
set_option maxRecDepth 100000
set_option maxHeartbeats 3200000
namespace L2
open PySem PySem.Spec PyProof.Rows
theorem law_callT {P : Program} {w : World} {K : PySem.W.Frag} {mg mb : Str → Option Value} {CX : CXT} {k : Nat} {fa a : Addr} {fd : FuncData} {x : Str} {sp : Sp} {s₁ : Shared} {vs : List Value} {ns : List Int} {tabs : List (Addr × Addr)}
    (KX : K.In s₁.heap) (hns : s₁.heap.Ns mainGlobals mg) (hb : s₁.heap.Ns builtinsNs mb) (hbb : ∀ x : Str, x ≠ "__name__" → mb x = bootBuiltins x) (hlim : s₁.heap.NoLimit) (hg : s₁.gens = #[])
    (ha : s₁.heap.get? a = some { cls := .type "list", data := .seq vs.toArray }) (hi : IntsAre vs ns) (hl : ns.length ≤ sizeLine) (hr : Room k callerA)
    (hT : PySem.W.TabsAt tabs s₁.heap) (hKt : PySem.W.noTabs K = true) (hbm : BltAt mg s₁.heap)
    (F : ∀ base : Heap, K.In base → base.Ns mainGlobals mg → (∀ q ∈ tabs, PySem.W.CodeHd base q.1 q.2) → BltAt mg base → FnOk P w K mg base CX k fa fd [x] sp) (hbind : ∀ (s : Shared) (u : Value), BindsTo s fd ⟨[u], []⟩ [(x, u)])
    (hsp : ∀ H : Hp, (∀ q ∈ tabs, H q.2 = some (.tbl #[])) → SqL K H a (ns.map V.int) → sp [.ref a] H (fun v _ => v = .bl true) fun _ _ _ => False)
    (hCX : ∀ H e s', CX [] H s₁ (fun _ _ _ => False) e s' → False) :
    codeAny (model P w) callerA (.call (.ref fa) ⟨[.ref a], []⟩) (fun r s' => r = .ok (.ret (.bool true)) ∧ OldK s₁.heap s'.heap ∧ s'.os = s₁.os ∧ AllBare s'.gens) s₁ := by
  have rv := vals_ints hi
  have lenV := hi.length
  have tabGet : ∀ b, b ∈ tabs.map (·.2) → s₁.heap.get? b = some (PySem.W.tabObj #[]) := fun b m => by
    obtain ⟨q, hq, rfl⟩ := List.mem_map.mp m
    exact (hT q hq).2
  have aT : a ∉ tabs.map (·.2) := fun m => by
    have e := tabGet a m
    rw [ha] at e
    cases e
  have core : ∀ H : Hp, (∀ q ∈ tabs, H q.2 = some (.tbl #[])) → (∀ b, H b = none ∨ (b = a ∧ ∃ o xs, H b = some (.frz o (.lst xs))) ∨ (b ∈ tabs.map (·.2) ∧ H b = some (.tbl #[]))) → SqL K H a (ns.map V.int) → HOk P w H s₁.heap → (H a ≠ none → K.lookup a = none) →
      codeAny (model P w) callerA (.call (.ref fa) ⟨[.ref a], []⟩) (fun r s' => r = .ok (.ret (.bool true)) ∧ OldK s₁.heap s'.heap ∧ s'.os = s₁.os ∧ AllBare s'.gens) s₁ := by
    intro H hTb hO hS hok hK
    have base_of : ∀ {b : Addr} {o : Obj}, s₁.heap.get? b = some o → H b = none → (hidT s₁.heap H).get? b = some o := fun e n => hidT_get e n
    have noA : ∀ {b : Addr} {o : Obj}, s₁.heap.get? b = some o → (∀ its n, o.data ≠ .seq its n) → o.cls ≠ .none → H b = none := fun {b o} e d1 d2 => by
      rcases hO b with z | ⟨rfl, _⟩ | ⟨m, _⟩
      · exact z
      · rw [ha] at e; cases e
        exact absurd rfl (d1 _ _)
      · rw [tabGet b m] at e; cases e
        exact absurd rfl d2
    have nsK : ∀ {b : Addr} {m : Str → Option Value}, s₁.heap.Ns b m → (hidT s₁.heap H).Ns b m := fun {b m} ⟨o, es, ep, e, d, r⟩ => ⟨o, es, ep, base_of e (by
      rcases hO b with z | ⟨rfl, _⟩ | ⟨m, _⟩
      · exact z
      · rw [ha] at e; cases e
        have d' : Data.seq vs.toArray _ = Data.dict es ep := d
        cases d'
      · rw [tabGet b m] at e; cases e
        have d' : Data.fields #[] = Data.dict es ep := d
        cases d'), d, r⟩
    have hKb : K.In (hidT s₁.heap H) := fun b o e => base_of (KX b o e) (by
      rcases hO b with z | ⟨rfl, ob, xs, z⟩ | ⟨m, _⟩
      · exact z
      · rw [hK (by rw [z]; simp)] at e; cases e
      · have g := KX b o e
        rw [tabGet b m] at g
        cases g
        have h2 := List.all_eq_true.mp hKt (b, _) (PySem.W.mem_of_lookupK e)
        exact absurd (show false = true from h2) Bool.false_ne_true)
    have hM : Mod K mg (hidT s₁.heap H) := ⟨hKb, nsK hns, ⟨mb, nsK hb, hbb⟩, let ⟨mc, h1, h2⟩ := hlim; ⟨mc, nsK h1, h2⟩⟩
    have hB : BltAt mg (hidT s₁.heap H) := by
      obtain ⟨bm, ob, b1, b2, b3, b4, b5, b6⟩ := hbm.ex
      exact ⟨bm, ob, b1, b2, base_of b3 (noA b3 (fun its n z => by rw [b6] at z; cases z) (fun z => by rw [b4] at z; cases z)), b4, b5, b6⟩
    have hC : ∀ q ∈ tabs, PySem.W.CodeHd (hidT s₁.heap H) q.1 q.2 := fun q hq => by
      obtain ⟨o, vs', file, tf, flags, tg, inF, text, tt, e1, r1, r2, r3⟩ := (hT q hq).1
      exact ⟨o, vs', file, tf, flags, tg, inF, text, tt, base_of e1 (noA e1 (fun its n z => by rw [r2] at z; cases z) (fun z => by rw [r1] at z; cases z)), r1, r2, r3⟩
    have e0 : Env0 P w K mg (hidT s₁.heap H) callerA [] s₁ H := ⟨rfl, hM, fun b o e => of_hidT e, Nat.le_of_eq (hidT_size _ _), trivial, fun b hb => absurd (show b ∈ ([] : List Addr) from hb) (by simp), hok, .of_eq hg⟩
    refine codeAny_mono ((F _ hKb (nsK hns) hC hB).run callerA [] s₁ H ⟨[.ref a], []⟩ [.ref a] [.ref a] _ _ hr e0 (hbind s₁ (.ref a)) (.cons rfl .nil) (hsp H hTb hS)) fun r s' h => ?_
    cases r with
    | error e => exact (hCX H e s' h).elim
    | ok fl =>
      cases fl with
      | next => exact False.elim h
      | brk => exact False.elim h
      | cont => exact False.elim h
      | ret u =>
        obtain ⟨v, H', os, bare, un, hok', r', q⟩ := h
        have q' : v = .bl true := q
        subst q'
        obtain rfl : u = Value.bool true := r'
        have all : ∀ b o, s₁.heap.get? b = some o → s'.heap.get? b = some o ∨ ∃ more, b ∈ tabs.map (·.2) ∧ o = PySem.W.tabObj #[] ∧ s'.heap.get? b = some (PySem.W.tabObj (#[] ++ more)) := fun b o e => by
          rcases hO b with z | ⟨_, ob, xs, z⟩ | ⟨m, z⟩
          · exact .inl (un.keep b o e z (by intro z; exact absurd (show b ∈ ([] : List Addr) from z) (by simp)) (by simp))
          · have z2 := un.frzs b ob _ z
            obtain ⟨e1, _⟩ := hok b _ z
            obtain ⟨e2, _⟩ := hok' b _ z2
            rw [e] at e1; cases e1
            exact .inl e2
          · obtain ⟨more, z2⟩ := un.tbls b _ z
            rw [tabGet b m] at e
            cases e
            exact .inr ⟨more, m, rfl, hok' b _ z2⟩
        refine ⟨rfl, ⟨fun b o e => ?_, fun b o e => ?_⟩, os, bare⟩
        · rcases all b o e with z | ⟨more, m, rfl, z⟩
          · exact .inl z
          · obtain ⟨q, hq, rfl⟩ := List.mem_map.mp m
            exact .inr (.inl ⟨((hT q hq).1.tab (hT q hq).2).isCodeTable, rfl, #[], more, rfl, z⟩)
        · rcases all b o e with z | ⟨more, _, _, z⟩
          · exact ⟨_, z⟩
          · exact ⟨_, z⟩
  have tm : ∀ q ∈ tabs, q.2 ∈ tabs.map (·.2) := fun q hq => List.mem_map_of_mem hq
  cases hk : K.lookup a with
  | some o =>
    have e := KX a o hk
    rw [ha] at e
    cases e
    refine core (fun b => if b ∈ tabs.map (·.2) then some (.tbl #[]) else none) (fun q hq => if_pos (tm q hq)) (fun b => ?_) (.inr ⟨_, vs.toArray, _, hk, rfl, rfl, rfl, by rw [List.size_toArray, lenV]; exact hl, by simpa using rv⟩) (fun b u z => ?_) (fun z => absurd (if_neg aT) z)
    · by_cases m : b ∈ tabs.map (·.2)
      · exact .inr (.inr ⟨m, if_pos m⟩)
      · exact .inl (if_neg m)
    · by_cases m : b ∈ tabs.map (·.2)
      · have z' := (if_pos m).symm.trans z
        cases z'
        exact tabGet b m
      · have z' := (if_neg m).symm.trans z
        cases z'
  | none =>
    refine core (fun b => if b ∈ tabs.map (·.2) then some (.tbl #[]) else if b = a then some (.frz { cls := .type "list", data := .seq vs.toArray } (.lst (ns.map V.int))) else none) (fun q hq => if_pos (tm q hq)) (fun b => ?_) (.inl (.inr ⟨{ cls := .type "list", data := .seq vs.toArray }, (if_neg aT).trans (if_pos rfl)⟩)) (fun b u z => ?_) fun _ => hk
    · by_cases m : b ∈ tabs.map (·.2)
      · exact .inr (.inr ⟨m, if_pos m⟩)
      · by_cases hb : b = a
        · exact .inr (.inl ⟨hb, _, _, (if_neg m).trans (if_pos hb)⟩)
        · exact .inl ((if_neg m).trans (if_neg hb))
    · by_cases m : b ∈ tabs.map (·.2)
      · have z' := (if_pos m).symm.trans z
        cases z'
        exact tabGet b m
      · by_cases hb : b = a
        · have z' := ((if_neg m).trans (if_pos hb)).symm.trans z
          cases z'
          subst hb
          exact ⟨ha, by rw [List.length_map]; exact hl, vs, _, rv, ha⟩
        · have z' := ((if_neg m).trans (if_neg hb)).symm.trans z
          cases z'
theorem walk_ofT {l : PySem.W.OpenLaw} {n k : Nat} {q : Program} {loose : List Str} {XP : (Str → Option Value) → Heap → Prop} {YP : World → Heap → Prop} {d : DefRec} {K : Params → PySem.W.Frag} {CX : World → CXT} {sp : World → Sp} {x : Str} {tabs : List (Addr × Addr)}
    (hn : l.most = some n) (hn2 : n ≤ sizeLine) (hdf : d.params.defaults = []) (hr : Room k callerA)
    (hY : ∀ (w : World) (h : Heap), YP w h → (K w.params).In h)
    (hTab : ∀ (w : World) (mean : ExcName → Option Value) (mg mb : Str → Option Value) (h : Heap), Top q (PySem.W.looseW q loose) mean mg mb h → (K w.params).In h → PySem.W.TabsAt tabs h) (hKt : ∀ w : World, PySem.W.noTabs (K w.params) = true)
    (F : ∀ (w : World) (mg : Str → Option Value) (fa : Addr) (h : Heap), (K w.params).In h → h.Ns mainGlobals mg → mg d.name = some (.ref fa) →
      ∃ fd : FuncData, (∀ (s : Shared) (u : Value), BindsTo s fd ⟨[u], []⟩ [(x, u)]) ∧
        ∀ base : Heap, (K w.params).In base → base.Ns mainGlobals mg → (∀ q ∈ tabs, PySem.W.CodeHd base q.1 q.2) → BltAt mg base → FnOk l.prog w (K w.params) mg base (CX w) k fa fd [x] (sp w))
    (hsp : ∀ (w : World) (H : Hp) (a : Addr) (ns : List Int), ns.length ≤ n → (∀ q ∈ tabs, H q.2 = some (.tbl #[])) → SqL (K w.params) H a (ns.map V.int) → sp w [.ref a] H (fun v _ => v = .bl true) fun _ _ _ => False)
    (hCX : ∀ (w : World) (H : Hp) (s : Shared) (e : Value) (s' : Shared), CX w [] H s (fun _ _ _ => False) e s' → False) :
    PySem.W.WalkO q loose XP YP l.row.toRowW d [] (fun f vs => PySem.call f vs) := by
  refine Att.attach_call hn hdf fun w s₀ s₁ mg mb fa o pm cd doc a vs ns G Y ho hd hcd hmg hobj hints hlen hg => ?_
  have KX := hY w _ Y
  obtain ⟨fd, hb, hF⟩ := F w mg fa _ KX G.T.g hmg
  exact law_callT KX G.T.g G.T.b G.T.builtins G.T.nolimit hg hobj hints (Nat.le_trans hlen hn2) hr (hTab w _ mg mb _ G.T KX) (hKt w) ⟨G.T.bmain⟩ hF hb (fun H hTb hS => hsp w H a ns hlen hTb hS) fun H e s' => hCX w H s₁ e s'
theorem Fun.okC {P : Program} {w : World} {K : PySem.W.Frag} {mg : Str → Option Value} {base : Heap} {x qual : Str} {st : Stmt} {f : Addr} {fd : FuncData} {N ps : List Str} {k : Nat} {sp : Sp} (F : Fun K x qual st f fd) (S : FnScope N ps (defScope st)) (len : ∀ vs H Q E, sp vs H Q E → vs.length = ps.length)
    (hbody : ∀ (A : Around) (outer : List Env) (s : Shared) (H : Hp) (vs : List V) (Q : VK) (E : XK), Room k (A.deeper (envOfC qual (defScope st) s.heap.objs.size f fd.code)) → sp vs H Q E →
      ∃ t, PSs (cxOf CX0 P w K mg base N qual (defScope st) f fd.code A outer s H E).nox (defBody st) t ∧ t { nx := fun _ H' => Q .non H', rt := Q } (start N vs) H) : FnOk P w K mg base CX0 (k + 1) f fd ps sp := by
  obtain ⟨oc, od, kV, doc, pm, an, cdv, ct, osl, rfl, lk, hcd⟩ := F.ex
  refine fn_of lk hcd S len fun A outer s H vs Q E hr hsp => ?_
  obtain ⟨t, h, q⟩ := hbody A outer s H vs Q E hr hsp
  exact ⟨t, h.nox, q⟩
end L2
set_option Elab.async false
set_option linter.all false
set_option maxRecDepth 100000
set_option maxHeartbeats 3200000
namespace L2
open PySem PySem.Spec PyProof.Rows
section
variable {X : Cx}
end
section
variable {prog : Program} {w : World} {A : Around} {E : Value → Shared → Prop} {s : Shared}
end
section
variable {X : Cx}
end
end L2
set_option Elab.async false
set_option linter.all false
set_option maxRecDepth 100000
set_option maxHeartbeats 3200000
namespace L2
open PySem PySem.Spec PyProof.Rows
end L2
set_option Elab.async false
set_option linter.all false
set_option maxRecDepth 100000
set_option maxHeartbeats 3200000
namespace L2
open PySem PySem.Spec PyProof.Rows
section
variable {prog : Program} {w : World} {K : Type} [DecidableEq K] {knd : KeyKind prog w K} {A : Around} {R : Result → Shared → Prop} {d l it : Addr} {items : List Value}
end
theorem two_vals {x y : V} {its : List Value} (r : Vals [x, y] its) : ∃ a b, its = [a, b] ∧ RelV x a ∧ RelV y b := by
  cases r with
  | cons h1 t =>
    cases t with
    | cons h2 t =>
      cases t
      exact ⟨_, _, rfl, h1, h2⟩
section
variable {X : Cx}
end
end L2
set_option Elab.async false
set_option linter.all false
set_option maxRecDepth 100000
set_option maxHeartbeats 1000000
namespace L2
open PySem PySem.Spec PyProof.Rows
structure QPs (X : Cx) (pos : Pos) (keys : List (Option Expr)) (values : List Expr) (trs : List (TE × TE)) : Prop where
  out : PPs X pos keys values trs
section
variable {X : Cx}
theorem qps_nil {pos : Pos} : QPs X pos [] [] [] := ⟨pps_nil⟩
theorem qps_cons {pos : Pos} {k v : Expr} {ks : List (Option Expr)} {vs : List Expr} {tk tv : TE} {trs : List (TE × TE)} (hk : QE X k tk) (hv : QE X v tv) (hr : QPs X pos ks vs trs) : QPs X pos (some k :: ks) (v :: vs) ((tk, tv) :: trs) := ⟨pps_cons hk.out hv.out hr.out⟩
theorem qe_disp {pos : Pos} {keys : List (Option Expr)} {values : List Expr} {trs : List (TE × TE)} (h : QPs X pos keys values trs) (hall : keys.all (·.isSome) = true) (hl : keys.length = values.length) (h0 : keys ≠ []) (h15 : keys.length ≤ 15) : QE X (.Dict keys values pos) (tDisp trs) := ⟨pe_disp h.out hall hl h0 h15⟩
end
end L2
set_option Elab.async false
set_option linter.all false
set_option maxRecDepth 100000
set_option maxHeartbeats 3200000
namespace ZpT
open PySem PySem.Spec PyProof.Rows
noncomputable def IterAt : Bool → Heap → Addr → Addr → Nat → Prop
  | true, h, it, l, k => h.IsTupleIter it l k
  | false, h, it, l, k => h.IsListIter it l k
noncomputable def SeqAt : Bool → Heap → Addr → Array Value → Prop
  | true, h, l, xs => h.IsTuple l xs
  | false, h, l, xs => h.IsList l xs
theorem IterAt.mv {b : Bool} {h h' : Heap} {it l : Addr} {k : Nat} (x : IterAt b h it l k) (f : ∀ o, h.get? it = some o → h'.get? it = some o) : IterAt b h' it l k := by
  cases b
  · exact Heap.IsListIter.at x f
  · exact Heap.IsTupleIter.at x f
theorem SeqAt.mv {b : Bool} {h h' : Heap} {l : Addr} {xs : Array Value} (x : SeqAt b h l xs) (f : ∀ o, h.get? l = some o → h'.get? l = some o) : SeqAt b h' l xs := by
  cases b
  · obtain ⟨o, ho, r⟩ := (show h.IsList l xs from x)
    exact (show h'.IsList l xs from ⟨o, f o ho, r⟩)
  · obtain ⟨o, ho, r⟩ := (show h.IsTuple l xs from x)
    exact (show h'.IsTuple l xs from ⟨o, f o ho, r⟩)
theorem IterAt.ob {b : Bool} {h : Heap} {it l : Addr} {k : Nat} (x : IterAt b h it l k) : ∃ o, h.get? it = some o ∧ ∀ v, o.data ≠ .cell v := by
  cases b
  · obtain ⟨o, ho, hc, hd⟩ := (show h.IsListIter it l k from x)
    exact ⟨o, ho, fun v z => by rw [hd] at z; cases z⟩
  · obtain ⟨o, ho, hc, hd⟩ := (show h.IsTupleIter it l k from x)
    exact ⟨o, ho, fun v z => by rw [hd] at z; cases z⟩
noncomputable def zO (f0 : Value) (b : Bool) (TI TO : Addr) : Obj := { cls := .type "zip", dict := none, data := .fields #[f0, .bool b, .bool false, .ref TI, .ref TO], slots := #[] }
noncomputable def F0 (f0 : Value) : Prop := f0 = .none ∨ ∃ T : Addr, f0 = rawInt T
structure Ap (z TI TO i1 i2 : Addr) : Prop where
  TIz : TI ≠ z
  TOz : TO ≠ z
  i1z : i1 ≠ z
  i2z : i2 ≠ z
  TITO : TI ≠ TO
  TIi1 : TI ≠ i1
  TIi2 : TI ≠ i2
  TOi1 : TO ≠ i1
  TOi2 : TO ≠ i2
  i12 : i1 ≠ i2
section
variable {prog : Program} {w : World} {A : Around} {E : Value → Shared → Prop} {s : Shared}
theorem nx_item {b : Bool} {it l : Addr} {k : Nat} {xs : Array Value} {x : Value} {Q : Value → Shared → Prop} (hit : IterAt b s.heap it l k) (hl : SeqAt b s.heap l xs) (hx : xs[k]? = some x)
    (hQ : ∀ h', IterAt b h' it l (k + 1) → Heap.SameBut it s.heap h' → Q x { s with heap := h' }) : wpAny (model prog w) A (Builtin.SmallTypes.nextOf (.ref it)) Q E s := by
  cases b
  · exact wpAny_nextOf_list_item hit hl hx hQ
  · exact EnT.next_of hit hl hx hQ
theorem nx_end {b : Bool} {it l : Addr} {k : Nat} {xs : Array Value} {Q : Value → Shared → Prop} (hh : A.handled = none) (hit : IterAt b s.heap it l k) (hl : SeqAt b s.heap l xs) (hx : xs[k]? = none)
    (hE : ∀ h' e, Heap.ExtBut it s.heap h' → (∃ o, h'.get? e = some o ∧ o.cls = .type "StopIteration") → E (.ref e) { s with heap := h' }) : wpAny (model prog w) A (Builtin.SmallTypes.nextOf (.ref it)) Q E s := by
  cases b
  · exact wpAny_nextOf_list_end hh hit hl hx hE
  · exact EnT.next_no hh hit hl hx hE
theorem alive {a : Addr} {Q : Option Obj → Shared → Prop} (h : Q (s.heap.get? a) s) : wpAny (model prog w) A (loadIfAlive a) Q E s := fun Γ p _ => h
theorem is_free {z TI TO : Addr} {f0 : Value} {fb : Bool} {Q : Bool → Shared → Prop} (hz : s.heap.get? z = some (zO f0 fb TI TO)) (hf : F0 f0)
    (h : ∀ r h' fb', h'.get? z = some (zO f0 fb' TI TO) → Heap.SameBut z s.heap h' → Q r { s with heap := h' }) : wpAny (model prog w) A (Builtin.SmallTypes.ownedTupleIsFree (.ref z)) Q E s := by
  unfold Builtin.SmallTypes.ownedTupleIsFree
  refine wpAny_bind (wpAny_field hz rfl (x := f0) rfl ?_)
  rcases hf with rfl | ⟨T, rfl⟩
  · exact wpAny_pure (h true s.heap fb hz ⟨rfl, fun _ _ => rfl⟩)
  · show wpAny _ _ (loadIfAlive (Int.toNat (T : Int)) >>= _) _ _ s
    refine wpAny_bind (alive ?_)
    cases hT : s.heap.get? (Int.toNat (T : Int)) with
    | none => exact wpAny_pure (h true s.heap fb hz ⟨rfl, fun _ _ => rfl⟩)
    | some o =>
      show wpAny _ _ (field (.ref z) 1 >>= _) _ _ s
      refine wpAny_bind (wpAny_field hz rfl (x := .bool fb) rfl ?_)
      cases fb
      · show wpAny _ _ (setField (.ref z) 1 (.bool true) >>= _) _ _ s
        refine wpAny_bind (wpAny_setField_rec hz (by simp) fun h₁ hz₁ hs₁ => wpAny_pure ?_)
        exact h false h₁ true hz₁ hs₁
      · exact wpAny_pure (h false s.heap true hz ⟨rfl, fun _ _ => rfl⟩)
end
end ZpT
set_option Elab.async false
set_option linter.all false
set_option maxRecDepth 100000
set_option maxHeartbeats 3200000
namespace ZpT
open PySem PySem.Spec PyProof.Rows
structure Of (z TO i1 i2 l : Addr) : Prop where
  z : l ≠ z
  o : l ≠ TO
  i : l ≠ i1
  j : l ≠ i2
structure St (b1 b2 : Bool) (z TI TO i1 i2 l1 l2 : Addr) (k1 k2 : Nat) (h : Heap) : Prop where
  z : ∃ f0 fb, h.get? z = some (zO f0 fb TI TO) ∧ F0 f0
  I : IsPair h TI (.ref i1) (.ref i2)
  O : ∃ a b, IsPair h TO a b
  n1 : IterAt b1 h i1 l1 k1
  n2 : IterAt b2 h i2 l2 k2
section
variable {prog : Program} {w : World} {A : Around} {E : Value → Shared → Prop} {s : Shared}
theorem item {b1 b2 : Bool} {z TI TO i1 i2 l1 l2 : Addr} {k1 k2 : Nat} {xs ys : Array Value} {x y : Value} {Q : Value → Shared → Prop} (D : Ap z TI TO i1 i2) (D1 : Of z TO i1 i2 l1) (D2 : Of z TO i1 i2 l2)
    (S : St b1 b2 z TI TO i1 i2 l1 l2 k1 k2 s.heap) (q1 : SeqAt b1 s.heap l1 xs) (q2 : SeqAt b2 s.heap l2 ys) (hx : xs[k1]? = some x) (hy : ys[k2]? = some y)
    (hQ : ∀ h', St b1 b2 z TI TO i1 i2 l1 l2 (k1 + 1) (k2 + 1) h' → IsPair h' s.heap.objs.size x y →
      (∀ c o, c ≠ z → c ≠ TO → c ≠ i1 → c ≠ i2 → s.heap.get? c = some o → h'.get? c = some o) → Q (.ref s.heap.objs.size) { s with heap := h' }) :
    wpAny (model prog w) A (Builtin.«zip.__next__» ⟨[.ref z], []⟩) (fun fin s' => ∃ v, fin = .done (.ret v) ∧ Q v s') E s := by
  obtain ⟨⟨f0, fb, hz, hf⟩, hTI, ⟨a, b, hTO⟩, n1, n2⟩ := S
  show wpAny _ _ (field (.ref z) 2 >>= _) _ _ _
  refine wpAny_bind (wpAny_field hz rfl (x := .bool false) rfl ?_)
  show wpAny _ _ (field (.ref z) 3 >>= _) _ _ _
  refine wpAny_bind (wpAny_field hz rfl (x := .ref TI) rfl ?_)
  refine wpAny_bind (wpAny_seqItems hTI rfl ?_)
  show wpAny _ _ (Builtin.SmallTypes.ownedTupleIsFree (.ref z) >>= _) _ _ _
  refine wpAny_bind (is_free hz hf fun r h0 fb' hz0 hs0 => ?_)
  have hz0' : h0.get? z = some (zO f0 fb' TI TO) := hz0
  have hTO0 : IsPair h0 TO a b := hs0.extBut _ _ D.TOz hTO
  have hTI0 : IsPair h0 TI (.ref i1) (.ref i2) := hs0.extBut _ _ D.TIz hTI
  have n10 : IterAt b1 h0 i1 l1 k1 := n1.mv fun o e => hs0.extBut _ _ D.i1z e
  have n20 : IterAt b2 h0 i2 l2 k2 := n2.mv fun o e => hs0.extBut _ _ D.i2z e
  have q10 : SeqAt b1 h0 l1 xs := q1.mv fun o e => hs0.extBut _ _ D1.z e
  have q20 : SeqAt b2 h0 l2 ys := q2.mv fun o e => hs0.extBut _ _ D2.z e
  cases r with
  | true =>
    simp only [if_true]
    refine wpAny_bind (wpAny_rule ?_)
    refine wpAny_bind (wpAny_field hz0 rfl (x := .ref TO) rfl ?_)
    refine wpAny_bind (wpAny_setField_rec hz0 (by simp) fun h₁ hz₁ hs₁ => ?_)
    replace hz₁ : h₁.get? z = some (zO .ellipsis fb' TI TO) := hz₁
    refine wpAny_bind ?_
    simp only [List.zipIdx_cons, List.zipIdx_nil, List.forIn_cons, List.forIn_nil]
    refine wpAny_bind (wpAny_bind (wpAny_onRaise ?_))
    show wpAny _ _ (Builtin.SmallTypes.nextOf (.ref i1) >>= _) _ _ _
    refine wpAny_bind (nx_item (n10.mv fun o e => hs₁.extBut _ _ D.i1z e) (q10.mv fun o e => hs₁.extBut _ _ D1.z e) hx fun h₂ h1₂ hs₂ => wpAny_pure ?_)
    have hTO₂ : IsPair h₂ TO a b := hs₂.extBut _ _ D.TOi1 (hs₁.extBut _ _ D.TOz hTO0)
    refine wpAny_bind (wpAny_seqItems hTO₂ rfl ?_)
    refine wpAny_bind (wpAny_updateSeq_pair hTO₂ fun h₃ hTO₃ hs₃ => ?_)
    replace hTO₃ : IsPair h₃ TO x b := hTO₃
    refine wpAny_bind (wpAny_letGo (wpAny_pure ?_))
    refine wpAny_bind (wpAny_bind (wpAny_onRaise ?_))
    show wpAny _ _ (Builtin.SmallTypes.nextOf (.ref i2) >>= _) _ _ _
    refine wpAny_bind (nx_item (n20.mv fun o e => hs₃.extBut _ _ D.TOi2.symm (hs₂.extBut _ _ D.i12.symm (hs₁.extBut _ _ D.i2z e)))
      (q20.mv fun o e => hs₃.extBut _ _ D2.o (hs₂.extBut _ _ D2.i (hs₁.extBut _ _ D2.z e))) hy fun h₄ h2₄ hs₄ => wpAny_pure ?_)
    have hTO₄ : IsPair h₄ TO x b := hs₄.extBut _ _ D.TOi2 hTO₃
    refine wpAny_bind (wpAny_seqItems hTO₄ rfl ?_)
    refine wpAny_bind (wpAny_updateSeq_pair hTO₄ fun h₅ hTO₅ hs₅ => ?_)
    replace hTO₅ : IsPair h₅ TO x y := hTO₅
    refine wpAny_bind (wpAny_letGo (wpAny_pure (wpAny_pure ?_)))
    refine wpAny_bind (wpAny_seqItems hTO₅ rfl ?_)
    refine wpAny_bind (wpAny_newTuple ?_)
    have hsz : h₅.objs.size = s.heap.objs.size := by rw [hs₅.1, hs₄.1, hs₃.1, hs₂.1, hs₁.1]; exact hs0.1
    have hz₅ : h₅.get? z = some (zO .ellipsis fb' TI TO) := hs₅.extBut _ _ D.TOz.symm (hs₄.extBut _ _ D.i2z.symm (hs₃.extBut _ _ D.TOz.symm (hs₂.extBut _ _ D.i1z.symm hz₁)))
    have hk₅ : ∀ c o, c ≠ z → c ≠ TO → c ≠ i1 → c ≠ i2 → s.heap.get? c = some o → h₅.get? c = some o := fun c o c1 c2 c3 c4 e =>
      hs₅.extBut _ _ c2 (hs₄.extBut _ _ c4 (hs₃.extBut _ _ c2 (hs₂.extBut _ _ c3 (hs₁.extBut _ _ c1 (hs0.extBut _ _ c1 e)))))
    have h1₅ : IterAt b1 h₅ i1 l1 (k1 + 1) := h1₂.mv fun o e => hs₅.extBut _ _ D.TOi1.symm (hs₄.extBut _ _ D.i12 (hs₃.extBut _ _ D.TOi1.symm e))
    have h2₅ : IterAt b2 h₅ i2 l2 (k2 + 1) := h2₄.mv fun o e => hs₅.extBut _ _ D.TOi2.symm e
    have hzlt : z < h₅.objs.size := Heap.lt_size hz₅
    show wpAny _ _ (Builtin.SmallTypes.ownedTupleHandOut (.ref z) (.ref h₅.objs.size) >>= _) _ _ _
    refine wpAny_bind ?_
    unfold Builtin.SmallTypes.ownedTupleHandOut
    have hz₆ : (h₅.push { cls := .type "tuple", data := .seq #[x, y] }).get? z = some (zO .ellipsis fb' TI TO) := Heap.get?_push_of_some _ hz₅
    refine wpAny_bind (wpAny_setField_rec hz₆ (by simp) fun h₇ hz₇ hs₇ => ?_)
    replace hz₇ : h₇.get? z = some (zO (rawInt h₅.objs.size) fb' TI TO) := hz₇
    refine wpAny_setField_rec hz₇ (by simp) fun h₈ hz₈ hs₈ => ?_
    replace hz₈ : h₈.get? z = some (zO (rawInt h₅.objs.size) false TI TO) := hz₈
    have up : ∀ c o, c ≠ z → h₅.get? c = some o → h₈.get? c = some o := fun c o c1 e => hs₈.extBut _ _ c1 (hs₇.extBut _ _ c1 (Heap.get?_push_of_some _ e))
    have hT₈ : IsPair h₈ h₅.objs.size x y := hs₈.extBut _ _ (Nat.ne_of_gt hzlt) (hs₇.extBut _ _ (Nat.ne_of_gt hzlt) (Heap.get?_push_size _ rfl))
    rw [hsz] at hz₈ hT₈
    refine wpAny_pure ⟨_, rfl, ?_⟩
    show Q (.ref h₅.objs.size) _
    rw [hsz]
    exact hQ h₈ ⟨⟨_, _, hz₈, .inr ⟨_, rfl⟩⟩, up _ _ D.TIz (hk₅ _ _ D.TIz D.TITO D.TIi1 D.TIi2 hTI), ⟨_, _, up _ _ D.TOz hTO₅⟩, h1₅.mv fun o e => up _ o D.i1z e, h2₅.mv fun o e => up _ o D.i2z e⟩ hT₈ fun c o c1 c2 c3 c4 e => up c o c1 (hk₅ c o c1 c2 c3 c4 e)
  | false =>
    simp only [Bool.false_eq_true, if_false]
    refine wpAny_bind ?_
    simp only [← Array.forIn_toList, List.forIn_cons, List.forIn_nil]
    refine wpAny_bind (wpAny_bind (wpAny_holding ?_))
    show wpAny _ _ (Builtin.SmallTypes.nextOf (.ref i1) >>= _) _ _ _
    refine wpAny_bind (nx_item n10 q10 hx fun h₂ h1₂ hs₂ => wpAny_pure (wpAny_pure ?_))
    refine wpAny_bind (wpAny_bind (wpAny_holding ?_))
    show wpAny _ _ (Builtin.SmallTypes.nextOf (.ref i2) >>= _) _ _ _
    refine wpAny_bind (nx_item (n20.mv fun o e => hs₂.extBut _ _ D.i12.symm e) (q20.mv fun o e => hs₂.extBut _ _ D2.i e) hy fun h₃ h2₃ hs₃ => wpAny_pure (wpAny_pure (wpAny_pure ?_)))
    refine wpAny_bind (wpAny_newTuple (hsz := (show 2 ≤ sizeLine by decide)) (wpAny_pure ⟨_, rfl, ?_⟩))
    have hsz : h₃.objs.size = s.heap.objs.size := by rw [hs₃.1, hs₂.1]; exact hs0.1
    have hk₃ : ∀ c o, c ≠ z → c ≠ i1 → c ≠ i2 → s.heap.get? c = some o → h₃.get? c = some o := fun c o c1 c3 c4 e => hs₃.extBut _ _ c4 (hs₂.extBut _ _ c3 (hs0.extBut _ _ c1 e))
    have zz : h₃.get? z = some (zO f0 fb' TI TO) := hs₃.extBut _ _ D.i2z.symm (hs₂.extBut _ _ D.i1z.symm hz0')
    have hT : IsPair (h₃.push { cls := .type "tuple", data := .seq #[x, y] }) h₃.objs.size x y := Heap.get?_push_size _ rfl
    show Q (.ref h₃.objs.size) { s with heap := h₃.push { cls := .type "tuple", data := .seq #[x, y] } }
    rw [hsz] at hT ⊢
    have up : ∀ c o, h₃.get? c = some o → (h₃.push { cls := .type "tuple", data := .seq #[x, y] }).get? c = some o := fun c o e => Heap.get?_push_of_some _ e
    exact hQ _ ⟨⟨_, _, up _ _ zz, hf⟩, up _ _ (hk₃ _ _ D.TIz D.TIi1 D.TIi2 hTI), ⟨_, _, up _ _ (hk₃ _ _ D.TOz D.TOi1 D.TOi2 hTO)⟩, h1₂.mv fun o e => up _ _ (hs₃.extBut _ _ D.i12 e), h2₃.mv fun o e => up _ _ e⟩ hT fun c o c1 c2 c3 c4 e => up c o (hk₃ c o c1 c3 c4 e)
end
end ZpT
set_option Elab.async false
set_option linter.all false
set_option maxRecDepth 100000
set_option maxHeartbeats 3200000
namespace ZpT
open PySem PySem.Spec PyProof.Rows
section
variable {prog : Program} {w : World} {A : Around} {E : Value → Shared → Prop} {s : Shared}
theorem fin {b1 b2 : Bool} {z TI TO i1 i2 l1 l2 : Addr} {k1 k2 : Nat} {xs ys : Array Value} {Q : Fin → Shared → Prop} (hh : A.handled = none) (D : Ap z TI TO i1 i2) (D1 : Of z TO i1 i2 l1) (D2 : Of z TO i1 i2 l2)
    (S : St b1 b2 z TI TO i1 i2 l1 l2 k1 k2 s.heap) (q1 : SeqAt b1 s.heap l1 xs) (q2 : SeqAt b2 s.heap l2 ys) (hend : xs[k1]? = none ∨ ys[k2]? = none)
    (hE : ∀ h' e, (∀ c o, c ≠ z → c ≠ TO → c ≠ i1 → c ≠ i2 → s.heap.get? c = some o → h'.get? c = some o) → (∃ o, h'.get? e = some o ∧ o.cls = .type "StopIteration") → E (.ref e) { s with heap := h' }) :
    wpAny (model prog w) A (Builtin.«zip.__next__» ⟨[.ref z], []⟩) Q E s := by
  obtain ⟨⟨f0, fb, hz, hf⟩, hTI, ⟨a, b, hTO⟩, n1, n2⟩ := S
  show wpAny _ _ (field (.ref z) 2 >>= _) _ _ _
  refine wpAny_bind (wpAny_field hz rfl (x := .bool false) rfl ?_)
  show wpAny _ _ (field (.ref z) 3 >>= _) _ _ _
  refine wpAny_bind (wpAny_field hz rfl (x := .ref TI) rfl ?_)
  refine wpAny_bind (wpAny_seqItems hTI rfl ?_)
  show wpAny _ _ (Builtin.SmallTypes.ownedTupleIsFree (.ref z) >>= _) _ _ _
  refine wpAny_bind (is_free hz hf fun r h0 fb' hz0 hs0 => ?_)
  have hz0' : h0.get? z = some (zO f0 fb' TI TO) := hz0
  have hTO0 : IsPair h0 TO a b := hs0.extBut _ _ D.TOz hTO
  have hTI0 : IsPair h0 TI (.ref i1) (.ref i2) := hs0.extBut _ _ D.TIz hTI
  have n10 : IterAt b1 h0 i1 l1 k1 := n1.mv fun o e => hs0.extBut _ _ D.i1z e
  have n20 : IterAt b2 h0 i2 l2 k2 := n2.mv fun o e => hs0.extBut _ _ D.i2z e
  have q10 : SeqAt b1 h0 l1 xs := q1.mv fun o e => hs0.extBut _ _ D1.z e
  have q20 : SeqAt b2 h0 l2 ys := q2.mv fun o e => hs0.extBut _ _ D2.z e
  cases r with
  | true =>
    simp only [if_true]
    refine wpAny_bind (wpAny_rule ?_)
    refine wpAny_bind (wpAny_field hz0 rfl (x := .ref TO) rfl ?_)
    refine wpAny_bind (wpAny_setField_rec hz0 (by simp) fun h₁ hz₁ hs₁ => ?_)
    replace hz₁ : h₁.get? z = some (zO .ellipsis fb' TI TO) := hz₁
    refine wpAny_bind ?_
    simp only [List.zipIdx_cons, List.zipIdx_nil, List.forIn_cons, List.forIn_nil]
    refine wpAny_bind (wpAny_bind (wpAny_onRaise ?_))
    show wpAny _ _ (Builtin.SmallTypes.nextOf (.ref i1) >>= _) _ _ _
    cases hx : xs[k1]? with
    | none =>
      refine wpAny_bind (nx_end hh (n10.mv fun o e => hs₁.extBut _ _ D.i1z e) (q10.mv fun o e => hs₁.extBut _ _ D1.z e) hx fun h₂ e hs₂ he => ?_)
      obtain ⟨oe, hoe, hce⟩ := he
      have hz₂ : h₂.get? z = some (zO .ellipsis fb' TI TO) := hs₂ _ _ D.i1z.symm hz₁
      have hez : e ≠ z := fun x => by subst x; rw [hz₂] at hoe; cases hoe; simp [zO] at hce
      refine wpAny_setField_rec hz₂ (by simp) fun h₃ _ hs₃ => hE h₃ e (fun c o c1 _ c3 _ x => hs₃.extBut _ _ c1 (hs₂ _ _ c3 (hs₁.extBut _ _ c1 (hs0.extBut _ _ c1 x)))) ⟨oe, hs₃.extBut _ _ hez hoe, hce⟩
    | some x =>
      have hy : ys[k2]? = none := by rcases hend with h | h; rw [hx] at h; cases h; exact h
      refine wpAny_bind (nx_item (n10.mv fun o e => hs₁.extBut _ _ D.i1z e) (q10.mv fun o e => hs₁.extBut _ _ D1.z e) hx fun h₂ h1₂ hs₂ => wpAny_pure ?_)
      have hTO₂ : IsPair h₂ TO a b := hs₂.extBut _ _ D.TOi1 (hs₁.extBut _ _ D.TOz hTO0)
      refine wpAny_bind (wpAny_seqItems hTO₂ rfl ?_)
      refine wpAny_bind (wpAny_updateSeq_pair hTO₂ fun h₃ hTO₃ hs₃ => ?_)
      refine wpAny_bind (wpAny_letGo (wpAny_pure ?_))
      refine wpAny_bind (wpAny_bind (wpAny_onRaise ?_))
      show wpAny _ _ (Builtin.SmallTypes.nextOf (.ref i2) >>= _) _ _ _
      refine wpAny_bind (nx_end hh (n20.mv fun o e => hs₃.extBut _ _ D.TOi2.symm (hs₂.extBut _ _ D.i12.symm (hs₁.extBut _ _ D.i2z e)))
        (q20.mv fun o e => hs₃.extBut _ _ D2.o (hs₂.extBut _ _ D2.i (hs₁.extBut _ _ D2.z e))) hy fun h₄ e hs₄ he => ?_)
      obtain ⟨oe, hoe, hce⟩ := he
      have hz₄ : h₄.get? z = some (zO .ellipsis fb' TI TO) := hs₄ _ _ D.i2z.symm (hs₃.extBut _ _ D.TOz.symm (hs₂.extBut _ _ D.i1z.symm hz₁))
      have hez : e ≠ z := fun x => by subst x; rw [hz₄] at hoe; cases hoe; simp [zO] at hce
      refine wpAny_setField_rec hz₄ (by simp) fun h₅ _ hs₅ => hE h₅ e (fun c o c1 c2 c3 c4 x => hs₅.extBut _ _ c1 (hs₄ _ _ c4 (hs₃.extBut _ _ c2 (hs₂.extBut _ _ c3 (hs₁.extBut _ _ c1 (hs0.extBut _ _ c1 x)))))) ⟨oe, hs₅.extBut _ _ hez hoe, hce⟩
  | false =>
    simp only [Bool.false_eq_true, if_false]
    refine wpAny_bind ?_
    simp only [← Array.forIn_toList, List.forIn_cons, List.forIn_nil]
    refine wpAny_bind (wpAny_bind (wpAny_holding ?_))
    show wpAny _ _ (Builtin.SmallTypes.nextOf (.ref i1) >>= _) _ _ _
    cases hx : xs[k1]? with
    | none => exact wpAny_bind (nx_end hh n10 q10 hx fun h₂ e hs₂ he => hE h₂ e (fun c o c1 _ c3 _ x => hs₂ _ _ c3 (hs0.extBut _ _ c1 x)) he)
    | some x =>
      have hy : ys[k2]? = none := by rcases hend with h | h; rw [hx] at h; cases h; exact h
      refine wpAny_bind (nx_item n10 q10 hx fun h₂ h1₂ hs₂ => wpAny_pure (wpAny_pure ?_))
      refine wpAny_bind (wpAny_bind (wpAny_holding ?_))
      show wpAny _ _ (Builtin.SmallTypes.nextOf (.ref i2) >>= _) _ _ _
      exact wpAny_bind (nx_end hh (n20.mv fun o e => hs₂.extBut _ _ D.i12.symm e) (q20.mv fun o e => hs₂.extBut _ _ D2.i e) hy fun h₃ e hs₃ he => hE h₃ e (fun c o c1 _ c3 c4 x => hs₃ _ _ c4 (hs₂.extBut _ _ c3 (hs0.extBut _ _ c1 x))) he)
theorem next_item {b1 b2 : Bool} {z TI TO i1 i2 l1 l2 : Addr} {k1 k2 : Nat} {xs ys : Array Value} {x y : Value} {Q : Option Value → Shared → Prop} (D : Ap z TI TO i1 i2) (D1 : Of z TO i1 i2 l1) (D2 : Of z TO i1 i2 l2)
    (S : St b1 b2 z TI TO i1 i2 l1 l2 k1 k2 s.heap) (q1 : SeqAt b1 s.heap l1 xs) (q2 : SeqAt b2 s.heap l2 ys) (hx : xs[k1]? = some x) (hy : ys[k2]? = some y)
    (hQ : ∀ h', St b1 b2 z TI TO i1 i2 l1 l2 (k1 + 1) (k2 + 1) h' → IsPair h' s.heap.objs.size x y →
      (∀ c o, c ≠ z → c ≠ TO → c ≠ i1 → c ≠ i2 → s.heap.get? c = some o → h'.get? c = some o) → Q (some (.ref s.heap.objs.size)) { s with heap := h' }) :
    wpAny (model prog w) A (pyNext (.ref z)) Q E s := by
  obtain ⟨f0, fb, hz, hf⟩ := S.z
  have hT : s.TypeIs (.ref z) "zip" := ⟨_, hz, rfl⟩
  unfold pyNext
  exact wpAny_bind (wpAny_attempt (wpAny_callSpecial?_slot (name := Str.ofString "__next__") hT F.slot_zip_next
    (wpAny_call_entry F.slot_zip_next hT F.entry_zip_next (item D D1 D2 S q1 q2 hx hy fun h' a1 a2 a3 => wpAny_pure (hQ h' a1 a2 a3)) (F.args_zip_next_1 _))))
theorem next_end {b1 b2 : Bool} {z TI TO i1 i2 l1 l2 : Addr} {k1 k2 : Nat} {xs ys : Array Value} {Q : Option Value → Shared → Prop} (hh : A.handled = none) (D : Ap z TI TO i1 i2) (D1 : Of z TO i1 i2 l1) (D2 : Of z TO i1 i2 l2)
    (S : St b1 b2 z TI TO i1 i2 l1 l2 k1 k2 s.heap) (q1 : SeqAt b1 s.heap l1 xs) (q2 : SeqAt b2 s.heap l2 ys) (hend : xs[k1]? = none ∨ ys[k2]? = none)
    (hQ : ∀ h', (∀ c o, c ≠ z → c ≠ TO → c ≠ i1 → c ≠ i2 → s.heap.get? c = some o → h'.get? c = some o) → Q none { s with heap := h' }) :
    wpAny (model prog w) A (pyNext (.ref z)) Q E s := by
  obtain ⟨f0, fb, hz, hf⟩ := id S.z
  have hT : s.TypeIs (.ref z) "zip" := ⟨_, hz, rfl⟩
  unfold pyNext
  refine wpAny_bind (wpAny_attempt (wpAny_callSpecial?_slot (name := Str.ofString "__next__") hT F.slot_zip_next (wpAny_call_entry F.slot_zip_next hT F.entry_zip_next ?_ (F.args_zip_next_1 _))))
  refine fin hh D D1 D2 S q1 q2 hend fun h' e hk he => ?_
  obtain ⟨o, ho, hc⟩ := he
  exact wpAny_bind (wpAny_isInstance (T := "StopIteration") (b := true) ⟨o, ho, hc⟩ isSubtype_stop (wpAny_pure (hQ _ hk)))
theorem iter_self {z TI TO : Addr} {f0 : Value} {fb : Bool} {Q : Value → Shared → Prop} (hz : s.heap.get? z = some (zO f0 fb TI TO)) (h : Q (.ref z) s) : wpAny (model prog w) A (pyIter (.ref z)) Q E s := by
  have hT : s.TypeIs (.ref z) "zip" := ⟨_, hz, rfl⟩
  refine wpAny_pyIter_slot hT F.slot_zip_iter (wpAny_call_entry F.slot_zip_iter hT F.entry_zip_iter ?_ (F.args_zip_iter_1 _))
  show wpAny _ _ (ret (.ref z)) _ _ s
  exact wpAny_pure ⟨_, rfl, "zip", _, hT, F.slot_zip_next.lookup, h⟩
end
end ZpT
set_option Elab.async false
set_option linter.all false
set_option maxRecDepth 100000
set_option maxHeartbeats 3200000
namespace ZpT
open PySem PySem.Spec PyProof.Rows
noncomputable def itO (b : Bool) (l : Addr) : Obj := { cls := .type (if b then "tuple_iterator" else "list_iterator"), data := .fields #[.ref l, .int 0 0] }
noncomputable def hz1 (b1 : Bool) (h : Heap) (l1 : Addr) : Heap := h.push (itO b1 l1)
noncomputable def hz2 (b1 b2 : Bool) (h : Heap) (l1 l2 : Addr) : Heap := (hz1 b1 h l1).push (itO b2 l2)
noncomputable def hz3 (b1 b2 : Bool) (h : Heap) (l1 l2 : Addr) : Heap := (hz2 b1 b2 h l1 l2).push { cls := .type "tuple", data := .seq #[.ref h.objs.size, .ref (hz1 b1 h l1).objs.size] }
noncomputable def hz4 (b1 b2 : Bool) (h : Heap) (l1 l2 : Addr) : Heap := (hz3 b1 b2 h l1 l2).push { cls := .type "tuple", data := .seq #[.none, .none] }
noncomputable def hz5 (b1 b2 : Bool) (h : Heap) (l1 l2 : Addr) : Heap := (hz4 b1 b2 h l1 l2).push (zO .none false (hz2 b1 b2 h l1 l2).objs.size (hz3 b1 b2 h l1 l2).objs.size)
section
variable {prog : Program} {w : World} {A : Around} {E : Value → Shared → Prop} {s : Shared}
theorem pyIter_at {b : Bool} {l : Addr} {xs : Array Value} {Q : Value → Shared → Prop} (hl : SeqAt b s.heap l xs) (h : Q (.ref s.heap.objs.size) { s with heap := s.heap.push (itO b l) }) : wpAny (model prog w) A (pyIter (.ref l)) Q E s := by
  cases b
  · exact wpAny_pyIter_list hl h
  · exact wpAny_pyIter_tuple hl h
end
theorem meets_new (b1 b2 : Bool) (l1 l2 : Addr) (xs ys : Array Value) :
    Meets (Builtin.«zip.__new__» ⟨[.type "zip", .ref l1, .ref l2], []⟩) (fun _ R s => SeqAt b1 s.heap l1 xs ∧ SeqAt b2 s.heap l2 ys ∧
      R (.ok (.ret (.ref (hz4 b1 b2 s.heap l1 l2).objs.size))) { s with heap := hz5 b1 b2 s.heap l1 l2 }) :=
  .of_wp fun prog w A R s h => by
    obtain ⟨hp, g, d, tk, os⟩ := s; obtain ⟨hl1, hl2, h⟩ := h
    have hsub := sub_zip
    have hL1 : SeqAt b1 (Shared.heap ⟨hp, g, d, tk, os⟩) l1 xs := hl1
    have hL2 : SeqAt b2 (Shared.heap ⟨hp.push (itO b1 l1), g, d, tk, os⟩) l2 ys := hl2.mv fun o e => Heap.get?_push_of_some _ e
    wp_walk using pyIter_at hL1, pyIter_at hL2
    exact ⟨_, rfl, h⟩
section
variable {prog : Program} {w : World} {A : Around} {E : Value → Shared → Prop} {s : Shared}
theorem iter_new {b : Bool} {h : Heap} {it l : Addr} (e : h.get? it = some (itO b l)) : IterAt b h it l 0 := by
  cases b
  · exact (show h.IsListIter it l 0 from ⟨_, e, rfl, rfl⟩)
  · exact (show h.IsTupleIter it l 0 from ⟨_, e, rfl, rfl⟩)
theorem call_new {b1 b2 : Bool} {l1 l2 : Addr} {xs ys : Array Value} {Q : Value → Shared → Prop} (hl1 : SeqAt b1 s.heap l1 xs) (hl2 : SeqAt b2 s.heap l2 ys)
    (h : ∀ h', St b1 b2 (s.heap.objs.size + 4) (s.heap.objs.size + 2) (s.heap.objs.size + 3) s.heap.objs.size (s.heap.objs.size + 1) l1 l2 0 0 h' → (∀ c o, s.heap.get? c = some o → h'.get? c = some o) → Q (.ref (s.heap.objs.size + 4)) { s with heap := h' }) :
    wpAny (model prog w) A (call (.type "zip") [.ref l1, .ref l2]) Q E s := by
  refine callType_new F.called_zip (by decide) (F.typeCall_zip_2 _ _) (F.newCall_zip_2 _ _) (fun obj => F.args_object_init_3 obj _ _) F.entry_zip_new (meets_new b1 b2 l1 l2 xs ys) ⟨hl1, hl2, ?_⟩
  have z1 : (hz1 b1 s.heap l1).objs.size = s.heap.objs.size + 1 := Heap.size_push ..
  have z2 : (hz2 b1 b2 s.heap l1 l2).objs.size = s.heap.objs.size + 2 := by unfold hz2; rw [Heap.size_push, z1]
  have z3 : (hz3 b1 b2 s.heap l1 l2).objs.size = s.heap.objs.size + 3 := by unfold hz3; rw [Heap.size_push, z2]
  have z4 : (hz4 b1 b2 s.heap l1 l2).objs.size = s.heap.objs.size + 4 := by unfold hz4; rw [Heap.size_push, z3]
  have g5 : (hz5 b1 b2 s.heap l1 l2).get? (hz4 b1 b2 s.heap l1 l2).objs.size = some (zO .none false (hz2 b1 b2 s.heap l1 l2).objs.size (hz3 b1 b2 s.heap l1 l2).objs.size) := Heap.get?_push_size _ rfl
  have g4 : (hz5 b1 b2 s.heap l1 l2).get? (hz3 b1 b2 s.heap l1 l2).objs.size = some { cls := .type "tuple", data := .seq #[.none, .none] } := Heap.get?_push_of_some _ (Heap.get?_push_size _ rfl)
  have g3 : (hz5 b1 b2 s.heap l1 l2).get? (hz2 b1 b2 s.heap l1 l2).objs.size = some { cls := .type "tuple", data := .seq #[.ref s.heap.objs.size, .ref (hz1 b1 s.heap l1).objs.size] } := Heap.get?_push_of_some _ (Heap.get?_push_of_some _ (Heap.get?_push_size _ rfl))
  have g2 : (hz5 b1 b2 s.heap l1 l2).get? (hz1 b1 s.heap l1).objs.size = some (itO b2 l2) := Heap.get?_push_of_some _ (Heap.get?_push_of_some _ (Heap.get?_push_of_some _ (Heap.get?_push_size _ rfl)))
  have g1 : (hz5 b1 b2 s.heap l1 l2).get? s.heap.objs.size = some (itO b1 l1) := Heap.get?_push_of_some _ (Heap.get?_push_of_some _ (Heap.get?_push_of_some _ (Heap.get?_push_of_some _ (Heap.get?_push_size _ rfl))))
  show _ ∧ _
  rw [z2, z3, z4] at g5
  rw [z1, z2] at g3
  rw [z3] at g4
  rw [z1] at g2
  rw [z4]
  exact ⟨⟨_, g5, rfl⟩, h _ ⟨⟨_, _, g5, .inl rfl⟩, g3, ⟨_, _, g4⟩, iter_new g1, iter_new g2⟩ fun c o x =>
    Heap.get?_push_of_some _ (Heap.get?_push_of_some _ (Heap.get?_push_of_some _ (Heap.get?_push_of_some _ (Heap.get?_push_of_some _ x))))⟩
theorem St.other {b1 b2 : Bool} {z TI TO i1 i2 l1 l2 : Addr} {k1 k2 : Nat} {h h' : Heap} (D : Ap z TI TO i1 i2) (S : St b1 b2 z TI TO i1 i2 l1 l2 k1 k2 h) {f0 : Value} {fb : Bool} (hz : h'.get? z = some (zO f0 fb TI TO)) (hf : F0 f0) (hs : Heap.SameBut z h h') : St b1 b2 z TI TO i1 i2 l1 l2 k1 k2 h' :=
  ⟨⟨f0, fb, hz, hf⟩, hs.extBut _ _ D.TIz S.I, (let ⟨a, b, e⟩ := S.O; ⟨a, b, hs.extBut _ _ D.TOz e⟩), S.n1.mv fun o e => hs.extBut _ _ D.i1z e, S.n2.mv fun o e => hs.extBut _ _ D.i2z e⟩
theorem go_any {b1 b2 : Bool} {z TI TO i1 i2 l1 l2 T : Addr} {k1 k2 : Nat} {tg : Expr} {Q : Unit → Shared → Prop} (D : Ap z TI TO i1 i2) (S : St b1 b2 z TI TO i1 i2 l1 l2 k1 k2 s.heap)
    (h : ∀ h', St b1 b2 z TI TO i1 i2 l1 l2 k1 k2 h' → Heap.SameBut z s.heap h' → Q () { s with heap := h' }) : wpAny (model prog w) A (letOwnedTupleGo tg (.ref z) (.ref T)) Q E s := by
  have q0 : Q () s := h s.heap S ⟨rfl, fun _ _ => rfl⟩
  obtain ⟨f0, fb, hz, hf⟩ := id S.z
  have tup : wpAny (model prog w) A (do
      let o ← load z
      match o.cls, o.data with
      | .type n, .fields vs =>
        if ["enumerate", "zip", "dict_itemiterator", "dict_reverseitemiterator", "odict_iterator", "itertools.zip_longest", "itertools.pairwise"].contains n && vs[0]? == some (rawInt T) then
          rule "for.unpacks-the-owned-tuple"
          updateField z 0 .none
      | _, _ => pure ()) Q E s := by
    refine wpAny_bind (wpAny_load hz ?_)
    show wpAny _ _ (if (["enumerate", "zip", "dict_itemiterator", "dict_reverseitemiterator", "odict_iterator", "itertools.zip_longest", "itertools.pairwise"].contains "zip" && (#[f0, .bool fb, .bool false, .ref TI, .ref TO] : Array Value)[0]? == some (rawInt T)) = true then _ else _) Q E s
    split
    · refine wpAny_bind (wpAny_rule ?_)
      show wpAny _ _ (setField (.ref z) 0 .none) Q E s
      exact wpAny_setField_rec hz (by simp) fun h' hz' hs' => h h' (S.other D (f0 := .none) hz' (.inl rfl) hs') hs'
    · exact wpAny_pure q0
  unfold letOwnedTupleGo
  cases tg <;> first
    | exact tup
    | exact wpAny_pure q0
end
end ZpT
set_option Elab.async false
set_option linter.all false
set_option maxRecDepth 100000
set_option maxHeartbeats 3200000
namespace L2
open PySem PySem.Spec PyProof.Rows
open ZpT (St Ap Of SeqAt IterAt)
noncomputable def SqB (K : PySem.W.Frag) : Bool → Hp → Addr → List V → Prop
  | true, H, a, xs => SqT K H a xs
  | false, H, a, xs => SqL K H a xs
theorem SqB.t {K : PySem.W.Frag} {H : Hp} {a : Addr} {xs : List V} (h : H a = some (.tup xs)) : SqB K true H a xs := (SqT.of h : SqT K H a xs)
theorem SqB.l {K : PySem.W.Frag} {H : Hp} {a : Addr} {xs : List V} (h : H a = some (.lst xs)) : SqB K false H a xs := (SqL.of h : SqL K H a xs)
theorem Inv.sqB {X : Cx} {pins : List (Addr × Obj)} {σ : L2.St} {H : Hp} {s : Shared} {a : Addr} {xs : List V} {b : Bool} (I : Inv X pins σ H s) (h : SqB X.K b H a xs) : ∃ its : List Value, Vals xs its ∧ SeqAt b s.heap a its.toArray ∧ xs.length ≤ sizeLine := by
  cases b
  · obtain ⟨its, rv, p, hz⟩ := I.list (show SqL X.K H a xs from h)
    obtain ⟨o, n, e, hc, _, hd⟩ := p
    exact ⟨its, rv, (show s.heap.IsList a its.toArray from ⟨o, e, hc, n, hd⟩), hz⟩
  · obtain ⟨its, rv, p, hz⟩ := I.tuple (show SqT X.K H a xs from h)
    exact ⟨its, rv, (show s.heap.IsTuple a its.toArray from p), hz⟩
theorem Inv.sqB_inj {X : Cx} {pins : List (Addr × Obj)} {σ : L2.St} {H : Hp} {s : Shared} {a : Addr} {xs ys : List V} {b : Bool} (I : Inv X pins σ H s) (h : SqB X.K b H a xs) (h' : SqB X.K b H a ys) : xs = ys := by
  cases b
  · exact I.list_inj h h'
  · exact I.tuple_inj h h'
noncomputable def Itz (K : PySem.W.Frag) (b1 b2 : Bool) (a1 a2 : Addr) : It :=
  ⟨fun i H => ∃ xs ys x y, SqB K b1 H a1 xs ∧ SqB K b2 H a2 ys ∧ xs[i]? = some x ∧ ys[i]? = some y,
   fun i H v H' => ∃ p, H p = none ∧ v = .ref p ∧ ∀ xs ys x y, SqB K b1 H a1 xs → SqB K b2 H a2 ys → xs[i]? = some x → ys[i]? = some y → H' = upd H p (.tup [x, y]),
   fun i H => ∃ xs ys, SqB K b1 H a1 xs ∧ SqB K b2 H a2 ys ∧ (xs.length ≤ i ∨ ys.length ≤ i)⟩
theorem turn_zip {P : Program} {w : World} {K : PySem.W.Frag} {tg : Expr} {b1 b2 : Bool} {z TI TO i1 i2 a1 a2 : Addr} (D : Ap z TI TO i1 i2) (D1 : Of z TO i1 i2 a1) (D2 : Of z TO i1 i2 a2) :
    Turn P w K tg (Itz K b1 b2 a1 a2) [z, TI, TO, i1, i2] z (fun i h => ZpT.St b1 b2 z TI TO i1 i2 a1 a2 i i h) where
  mem := by simp
  obj := fun i h st b hb => by
    obtain ⟨⟨f0, fb, hz, hf⟩, hTI, ⟨x, y, hTO⟩, n1, n2⟩ := st
    simp only [List.mem_cons, List.not_mem_nil, or_false] at hb
    rcases hb with rfl | rfl | rfl | rfl | rfl
    · exact ⟨_, hz, fun v q => by
        have q' : Data.fields _ = Data.cell v := q
        cases q'⟩
    · exact ⟨_, hTI, fun v q => by
        have q' : Data.seq _ _ = Data.cell v := q
        cases q'⟩
    · exact ⟨_, hTO, fun v q => by
        have q' : Data.seq _ _ = Data.cell v := q
        cases q'⟩
    · exact n1.ob
    · exact n2.ob
  keep := fun i h h' st k => by
    obtain ⟨⟨f0, fb, hz, hf⟩, hTI, ⟨x, y, hTO⟩, n1, n2⟩ := st
    exact ⟨⟨f0, fb, k z (by simp) _ hz, hf⟩, k TI (by simp) _ hTI, ⟨x, y, k TO (by simp) _ hTO⟩, n1.mv fun o e => k i1 (by simp) o e, n2.mv fun o e => k i2 (by simp) o e⟩
  item := by
    intro X hP hw hK hc i pins s σ H E I hf st hg
    subst hP hw hK
    obtain ⟨xs, ys, x, y, q1, q2, hx, hy⟩ := hg
    obtain ⟨its1, r1, p1, z1⟩ := I.sqB q1
    obtain ⟨its2, r2, p2, z2⟩ := I.sqB q2
    obtain ⟨u1, hu1, ru1⟩ := r1.get hx
    obtain ⟨u2, hu2, ru2⟩ := r2.get hy
    have olt : ∀ b ∈ [z, TI, TO, i1, i2], b < s.heap.objs.size := fun b hb => by
      obtain ⟨⟨f0, fb, hz, hf⟩, hTI, ⟨x, y, hTO⟩, n1, n2⟩ := st
      simp only [List.mem_cons, List.not_mem_nil, or_false] at hb
      rcases hb with rfl | rfl | rfl | rfl | rfl
      · exact Heap.lt_size hz
      · exact Heap.lt_size hTI
      · exact Heap.lt_size hTO
      · obtain ⟨o, ho, _⟩ := n1.ob
        exact Heap.lt_size ho
      · obtain ⟨o, ho, _⟩ := n2.ob
        exact Heap.lt_size ho
    refine ZpT.next_item D D1 D2 st p1 p2 (x := u1) (y := u2) (by simpa using hu1) (by simpa using hu2) fun h' st' hT hk => ?_
    refine ⟨_, rfl, ZpT.go_any (s := { s with heap := h' }) D st' fun h2 st2 hs2 => ?_⟩
    have hs2' : Heap.SameBut z h' h2 := hs2
    have I1 : Inv X pins σ (upd H s.heap.objs.size (.tup [x, y])) { s with heap := s.heap.push { cls := .type "tuple", data := .seq #[u1, u2] }, toks := s.toks } :=
      I.laid (fun b o y => Heap.get?_push_of_some _ y) (Nat.le_refl _) ⟨by show 2 ≤ sizeLine; decide, [u1, u2], .cons ru1 (.cons ru2 .nil), IsTup.new _ _⟩
    have fp' : ∀ b ∈ [z, TI, TO, i1, i2], FpOk X pins (upd H s.heap.objs.size (.tup [x, y])) b := fun b hb => by
      obtain ⟨a0, ar⟩ := hf b hb
      exact ⟨by rw [upd_ne (Nat.ne_of_lt (olt b hb))]; exact a0, ar⟩
    have I2 : Inv X pins σ (upd H s.heap.objs.size (.tup [x, y])) { s with heap := h2, toks := s.toks } := by
      refine turned_all (s := { s with heap := s.heap.push { cls := .type "tuple", data := .seq #[u1, u2] }, toks := s.toks }) I1 fp' fun b o hb q => ?_
      have hbz : b ≠ z := fun e => hb (by simp [e])
      rcases Heap.get?_push_cases q with ⟨rfl, rfl⟩ | q
      · exact (hs2'.2 _ hbz).trans hT
      · exact (hs2'.2 b hbz).trans (hk b o hbz (fun e => hb (by simp [e])) (fun e => hb (by simp [e])) (fun e => hb (by simp [e])) q)
    refine ⟨.ref s.heap.objs.size, _, I2, rfl, ⟨_, I.hok.fresh (Nat.le_refl _), rfl, fun xs' ys' x' y' q1' q2' hx' hy' => ?_⟩, st2, fun b hb => (fp' b hb).1⟩
    rw [I.sqB_inj q1' q1, hx] at hx'
    rw [I.sqB_inj q2' q2, hy] at hy'
    cases hx'
    cases hy'
    rfl
  done := by
    intro X hP hw hK hc i pins s σ H E I hf st hg
    subst hP hw hK
    obtain ⟨xs, ys, q1, q2, hx⟩ := hg
    obtain ⟨its1, r1, p1, z1⟩ := I.sqB q1
    obtain ⟨its2, r2, p2, z2⟩ := I.sqB q2
    have e1 := r1.length
    have e2 := r2.length
    refine ZpT.next_end (I.ok.hd hc) D D1 D2 st p1 p2 (by simp; omega) fun h' hk => ⟨rfl, ?_⟩
    exact turned_all (t' := s.toks) I hf fun b o hb q => hk b o (fun e => hb (by simp [e])) (fun e => hb (by simp [e])) (fun e => hb (by simp [e])) (fun e => hb (by simp [e])) q
  self := fun _ _ _ _ _ st h => let ⟨_, _, hz, _⟩ := st.z; ZpT.iter_self hz h
theorem bt_zip : bootBuiltins "zip" = some (.type "zip") := by decide +kernel
end L2
set_option Elab.async false
set_option linter.all false
set_option maxRecDepth 100000
set_option maxHeartbeats 3200000
namespace L2
open PySem PySem.Spec PyProof.Rows
open ZpT (Ap Of SeqAt IterAt)
section
variable {X : Cx} {A : Around} {b1 b2 : Bool} {z TI TO i1 i2 a1 a2 S : Addr} {xs ys : List V} {pins : List (Addr × Obj)} {σ : St} {R : Result → Shared → Prop}
end
end L2
set_option Elab.async false
set_option linter.all false
set_option maxRecDepth 100000
set_option maxHeartbeats 3200000
namespace L2
open PySem PySem.Spec PyProof.Rows
open ZpT (Ap Of SeqAt IterAt)
noncomputable def zfp (n : Nat) : List Addr := [n + 4, n + 2, n + 3, n, n + 1]
theorem zap (n : Nat) : Ap (n + 4) (n + 2) (n + 3) n (n + 1) := by constructor <;> (show @Ne Nat _ _; omega)
theorem zof {n l : Nat} (h : l < n) : Of (n + 4) (n + 3) n (n + 1) l := by constructor <;> (show @Ne Nat _ _; omega)
section
variable {X : Cx} {e1 e2 : Expr} {t : TA} {p pos : Pos} {b1 b2 : Bool}
theorem seq_lt {b : Bool} {h : Heap} {l : Addr} {xs : Array Value} (q : SeqAt b h l xs) : l < h.objs.size := by
  cases b
  · obtain ⟨o, ho, _⟩ := (show h.IsList l xs from q)
    exact Heap.lt_size ho
  · obtain ⟨o, ho, _⟩ := (show h.IsTuple l xs from q)
    exact Heap.lt_size ho
theorem zip_made {pins : List (Addr × Obj)} {σ : St} {H : Hp} {s : Shared} {RR : Addr → Addr → List V → List V → Hp → Prop} {QQ : Value → Shared → Prop} (hg : Gl X "zip") (hm : X.mg "zip" = none) (ha : QA X [e1, e2] t) (hp : [e1, e2].all plainE = true) (I : Inv X pins σ H s)
    (h : t σ H fun vs H1 => ∃ a1 a2 xs ys, vs = [.ref a1, .ref a2] ∧ SqB X.K b1 H1 a1 xs ∧ SqB X.K b2 H1 a2 ys ∧ RR a1 a2 xs ys H1)
    (fin : ∀ a1 a2 xs ys n H1 s1, Inv X pins σ H1 s1 → SqB X.K b1 H1 a1 xs → SqB X.K b2 H1 a2 ys → RR a1 a2 xs ys H1 → a1 < n → a2 < n → ZpT.St b1 b2 (n + 4) (n + 2) (n + 3) n (n + 1) a1 a2 0 0 s1.heap → (∀ b ∈ zfp n, FpOk X pins H1 b) → QQ (.ref (n + 4)) s1) :
    wpAny (model X.prog X.w) X.A (eval (.Call (.Name "zip" p) [e1, e2] [] pos) X.env) QQ X.xe s := by
  rw [List.all_cons, Bool.and_eq_true] at hp
  refine wpAny_Call_Name_kw (ld_blt I hg hm bt_zip ?_)
  refine PyProof.Rows.callWith_type1 (thn (ha.out pos pins s σ H _ I h) fun us s1 ⟨vs, H1, I1, r1, q1⟩ => ?_) (starEach_plain hp.1) (any_plain hp.2)
  obtain ⟨a1, a2, xs, ys, rfl, q1, q2, r⟩ := q1
  obtain ⟨u1, u2, rfl, ru1, ru2⟩ := two_vals r1
  cases ru1
  cases ru2
  obtain ⟨its1, v1, p1, z1⟩ := I1.sqB q1
  obtain ⟨its2, v2, p2, z2⟩ := I1.sqB q2
  refine ZpT.call_new p1 p2 fun h' st hk => ?_
  refine fin a1 a2 xs ys s1.heap.objs.size H1 _ (I1.kept (t' := s1.toks) hk) q1 q2 r (seq_lt p1) (seq_lt p2) st fun b hb => ?_
  have hle : s1.heap.objs.size ≤ b := by
    simp only [zfp, List.mem_cons, List.not_mem_nil, or_false] at hb
    rcases hb with rfl | rfl | rfl | rfl | rfl
    · exact Nat.le_add_right _ _
    · exact Nat.le_add_right _ _
    · exact Nat.le_add_right _ _
    · exact Nat.le_refl _
    · exact Nat.le_add_right _ _
  exact I1.fpOk hle (I1.hok.fresh hle)
noncomputable def iZip2 (K : PySem.W.Frag) (b1 b2 : Bool) (t : TA) : TI := fun σ H R => t σ H fun vs H1 => ∃ a1 a2 xs ys, vs = [.ref a1, .ref a2] ∧ SqB K b1 H1 a1 xs ∧ SqB K b2 H1 a2 ys ∧ R (Itz K b1 b2 a1 a2) H1
theorem qi_zip {tg : Expr} (hg : Gl X "zip") (hm : X.mg "zip" = none) (ha : QA X [e1, e2] t) (hp : [e1, e2].all plainE = true := by rfl) : QI X tg (.Call (.Name "zip" p) [e1, e2] [] pos) (iZip2 X.K b1 b2 t) := by
  refine ⟨fun pins s σ H R I h => ?_⟩
  refine zip_made (b1 := b1) (b2 := b2) (RR := fun a1 a2 _ _ H1 => R (Itz X.K b1 b2 a1 a2) H1) hg hm ha hp I h fun a1 a2 xs ys n H1 s1 I1 q1 q2 r l1 l2 st hf => ?_
  obtain ⟨f0, fb, hz, _⟩ := id st.z
  exact ZpT.iter_self hz ⟨n + 4, zfp n, _, _, H1, rfl, I1, turn_zip (zap n) (zof l1) (zof l2), st, hf, r⟩
end
end L2
set_option Elab.async false
set_option linter.all false
set_option maxRecDepth 100000
set_option maxHeartbeats 1000000
namespace L2
open PySem PySem.Spec PyProof.Rows
structure Two (scope : Scope) (x x2 : Str) (ys : List Str) : Prop where
  own : scope.names.lookup x2 = some .local
  nd : (x :: x2 :: ys).Nodup
noncomputable def sel2 (is : List Nat) (σ : St) (v w : Option V) : St := v :: w :: is.map fun i => (σ[i]?).getD none
noncomputable def CompW2 (K : PySem.W.Frag) (is : List Nat) (tc : TT) (te : TE) (σ : St) (Q : VK) (J : It) (H1 : Hp) : Prop := ∃ W : Nat → Nat → List V → Hp → Prop, (∃ m, W 0 m [] H1) ∧ ∀ i m zs H, W i m zs H →
  (J.stop i H ∧ zs.length ≤ sizeLine ∧ ∀ p, H p = none → Q (.ref p) (upd H p (.lst zs))) ∨
  (J.go i H ∧ zs.length ≤ sizeLine ∧ ∀ x H', J.yld i H x H' → ∃ a v1 v2, x = .ref a ∧ SqT K H' a [v1, v2] ∧ tc (sel2 is σ (some v1) (some v2)) H' fun b H2 => if b = true then te (sel2 is σ (some v1) (some v2)) H2 fun y H3 => ∃ m', m' < m ∧ W (i + 1) m' (zs ++ [y]) H3 else ∃ m', m' < m ∧ W (i + 1) m' zs H2)
noncomputable def tComp2 (K : PySem.W.Frag) (wi : TI) (is : List Nat) (tc : TT) (te : TE) : TE := fun σ H Q => wi σ H (CompW2 K is tc te σ Q)
section
variable {X : Cx} {S scope : Scope} {N : List Str} {x x2 : Str} {ys : List Str} {is : List Nat} {pins : List (Addr × Obj)} {σ : St} {H₂ : Hp} {s₂ : Shared} {fp : List Addr} {elt iter : Expr} {px px2 pp pos : Pos} {pq : Nat} {ifs : List Expr} {tc : TT} {te : TE} {wi : TI}
theorem cxC_ok2 (K : CompSc S scope N x ys is) (K2 : Two scope x x2 ys) (hX : X.env.scope = S) (I : Inv X pins σ H₂ s₂) {C : Addr} (hC : s₂.heap.objs.size ≤ C) (hfp : ∀ b ∈ fp, FpOk X pins H₂ b) (hlt : ∀ b ∈ fp, b < s₂.heap.objs.size) : (cxC X (x :: x2 :: ys) scope C s₂ H₂ fp).Ok where
  mod := I.ok.mod
  kind := K.kind
  glob := I.ok.glob
  blt := I.ok.blt
  above := hC
  inj := fun y z c h1 h2 => I.ok.inj y z c (K.cl hX I.ok y c h1) (K.cl hX I.ok z c h2)
  has := fun y hy => clOf_has (relabel_back (env := X.env) K.cell hy)
  cab := fun y c h => by cases h
  hd := I.ok.hd
  frames := I.ok.frames
  stk := .inl rfl
  exf := fun b hb => ⟨fun e => absurd (Nat.lt_of_lt_of_le (hlt b hb) (Nat.le_trans hC (Nat.le_of_eq (Eq.symm e)))) (Nat.lt_irrefl _), fun y c h => (hfp b hb).2.2.2.2.1 y c (K.cl hX I.ok y c h)⟩
  bs := I.bs
  bsz := Nat.le_trans I.ok.bsz I.sz
  noex := fun b o e hb => by
    rcases (hfp b hb).2.2.2.1 with z | z
    · exact I.ok.noex b o e z
    · exact absurd (Nat.lt_of_lt_of_le (Heap.lt_size e) (Nat.le_trans I.ok.bsz z)) (Nat.lt_irrefl _)
  exfs := fun b hb z => by
    rcases List.mem_cons.mp (I.stkSub b z) with e | e
    · exact (hfp b hb).2.1 e
    · exact (hfp b hb).2.2.1 e
  funs := I.stack
  frf := I.stkFree
theorem cxC_inv2 (K : CompSc S scope N x ys is) (K2 : Two scope x x2 ys) (hX : X.env.scope = S) (hN : X.N = N) (hk : S.kind = .function) (I : Inv X pins σ H₂ s₂) {C D : Addr} {h₁ : Heap} {tk : Nat} {oD : Obj} (hC : s₂.heap.objs.size ≤ C) (hD : s₂.heap.objs.size ≤ D) (hDC : D ≠ C)
    (hfp : ∀ b ∈ fp, FpOk X pins H₂ b) (hlt : ∀ b ∈ fp, b < s₂.heap.objs.size) (old : ∀ b o, s₂.heap.get? b = some o → h₁.get? b = some o) (hn : h₁.Ns C fun _ => none) (hacc : h₁.get? D = some oD) (hod : ∀ v, oD.data ≠ .cell v) :
    Inv (cxC X (x :: x2 :: ys) scope C s₂ H₂ fp) [(D, oD)] (sel2 is σ none none) H₂ { s₂ with heap := h₁, toks := tk } := by
  have ok := cxC_ok2 K K2 hX I hC hfp hlt
  refine ⟨ok, rfl, I.bare, Un.kept old, ⟨_, hn, fun i y v h1 h2 h3 => ?_⟩, fun y c h => ?_, I.hok.fresh hC, fun y c h => I.freeC y c (K.cl hX I.ok y c h), fun p hp => ?_, I.hok.kept old, ?_⟩
  · cases i with
    | zero =>
      have h2' : some (none : Option V) = some (some v) := h2
      cases h2'
    | succ i =>
     cases i with
     | zero =>
      have h2' : some (none : Option V) = some (some v) := h2
      cases h2'
     | succ i =>
      have h1' : ys[i]? = some y := h1
      have h2' : (is.map fun i => (σ[i]?).getD none)[i]? = some (some v) := h2
      rw [List.getElem?_map] at h2'
      cases hj : is[i]? with
      | none => rw [hj] at h2'; cases h2'
      | some j =>
        rw [hj] at h2'
        have h2'' : (σ[j]?).getD none = some v := Option.some.inj h2'
        have hσ : σ[j]? = some (some v) := by
          cases q : σ[j]? with
          | none => rw [q] at h2''; cases h2''
          | some z => rw [q] at h2''; exact congrArg some h2''
        have hz : (y, j) ∈ ys.zip is := by
          obtain ⟨a1, e1⟩ := List.getElem?_eq_some_iff.mp h1'
          obtain ⟨a2, e2⟩ := List.getElem?_eq_some_iff.mp hj
          rw [← e1, ← e2, ← List.getElem_zip (h := by rw [List.length_zip]; omega)]
          exact List.getElem_mem _
        obtain ⟨v1, v2⟩ := K.vis _ hz
        have kc : X.env.kindOf y = some .cell := by show X.env.scope.names.lookup y = _; rw [hX]; exact K.free _ (mem_free v2) rfl
        obtain ⟨m, hm, hl⟩ := I.loc
        obtain ⟨u, r, l⟩ := hl j y v (by rw [hN]; exact v1) hσ (.inr (.inl kc))
        refine ⟨u, r, .inr ?_⟩
        rcases l with ⟨l1, _⟩ | ⟨_, c, l2, l3⟩
        · rw [kc] at l1; cases l1
        · obtain ⟨c', hc'⟩ := clOf_has (cells := X.env.cells) (acc := []) v2
          have e : c' = c := by have := K.cl hX I.ok y c' hc'; rw [l2] at this; exact (Option.some.inj this).symm
          subst e
          refine ⟨.inl (relabel_free (scope := scope) (by rw [hX]; exact hk) v2 kc), c', hc', ?_⟩
          obtain ⟨o, ho, hd⟩ := l3
          exact ⟨o, old _ _ ho, hd⟩
  · obtain ⟨v, o, ho, hd⟩ := I.cell y c (K.cl hX I.ok y c h)
    exact ⟨v, o, old _ _ ho, hd⟩
  · have e : p = (D, oD) := by simpa [cxC] using hp
    subst e
    refine ⟨hacc, I.hok.fresh hD, hDC, fun z => ?_, hod⟩
    obtain ⟨_, o, ho, _⟩ := ok.funs.mem z
    exact absurd (Nat.lt_of_lt_of_le (Heap.lt_size ho) hD) (Nat.lt_irrefl _)
  · show (sel2 is σ none none).length = (x :: x2 :: ys).length
    unfold sel2
    rw [List.length_cons, List.length_cons, List.length_map, List.length_cons, List.length_cons, K.len]
theorem comp_block2 {J : It} {it : Addr} {tn : Nat → Heap → Prop} {Q : VK} {RR : Value → Addr → Result → Shared → Prop} {E : Value → Shared → Prop} (K : CompSc S scope N x ys is) (K2 : Two scope x x2 ys) (hX : X.env.scope = S) (hN : X.N = N) (hk : S.kind = .function) (hc : X.calm = true)
    (hf : ∀ C s₂ H₂ ex, QF (cxC X (x :: x2 :: ys) scope C s₂ H₂ ex) ifs tc) (he : ∀ C s₂ H₂ ex, QE (cxC X (x :: x2 :: ys) scope C s₂ H₂ ex) elt te)
    (I : Inv X pins σ H₂ s₂) (T : Turn X.prog X.w X.K (.Tuple [.Name x px, .Name x2 px2] pq pp) J fp it tn) (st : tn 0 s₂.heap) (hfp : ∀ b ∈ fp, FpOk X pins H₂ b)
    {W : Nat → Nat → List V → Hp → Prop} {m0 : Nat} (w0 : W 0 m0 [] H₂)
    (turn : ∀ i m zs H, W i m zs H → (J.stop i H ∧ zs.length ≤ sizeLine ∧ ∀ p, H p = none → Q (.ref p) (upd H p (.lst zs))) ∨
      (J.go i H ∧ zs.length ≤ sizeLine ∧ ∀ x H', J.yld i H x H' → ∃ a v1 v2, x = .ref a ∧ SqT X.K H' a [v1, v2] ∧ tc (sel2 is σ (some v1) (some v2)) H' fun b H2 => if b = true then te (sel2 is σ (some v1) (some v2)) H2 fun y H3 => ∃ m', m' < m ∧ W (i + 1) m' (zs ++ [y]) H3 else ∃ m', m' < m ∧ W (i + 1) m' zs H2))
    (fin : ∀ D C s' H' m', Inv X pins σ H' s' → FpOk X pins H' C → s'.heap.Ns C m' → Q (.ref D) H' → RR (.ref D) C (.ok .next) s') :
    wpAny (model X.prog X.w) X.A (newList []) (fun acc s₃ => wpAny (model X.prog X.w) X.A (newFunctionEnv scope X.env.globals (clOf X.env.cells scope.names []) [] X.env.qual none .none (some X.env)) (fun cenv s₄ =>
      codeAny (model X.prog X.w) X.A (.compStart (.ListComp elt [⟨(.Tuple [.Name x px, .Name x2 px2] pq pp), iter, ifs, 0⟩] scope pos) 0 (.ref it) acc { cenv with scope := relabel scope X.env }) (RR acc cenv.locals) s₄) E s₃) E s₂ := by
  refine wpAny_newObj_type (wpAny_newFunctionEnv K.cell (by intro y hy; simp at hy) (fun h₁ hns₁ hsb₁ => ?_) K.kind)
  dsimp only at hns₁ hsb₁ ⊢
  generalize hH2 : s₂.heap.push { cls := .type "list", dict := none, data := .seq ([] : List Value).toArray } = H2 at hns₁ hsb₁ ⊢
  have hCs : H2.objs.size = s₂.heap.objs.size + 1 := by rw [← hH2, Heap.size_push]
  have hDC : s₂.heap.objs.size ≠ H2.objs.size := by rw [hCs]; exact Nat.ne_of_lt (Nat.lt_succ_self _)
  have hC : s₂.heap.objs.size ≤ H2.objs.size := by rw [hCs]; exact Nat.le_succ _
  have hlt : ∀ b ∈ fp, b < s₂.heap.objs.size := fun b hb => by obtain ⟨o, e, _⟩ := T.obj 0 _ st b hb; exact Heap.lt_size e
  have old : ∀ b o, s₂.heap.get? b = some o → h₁.get? b = some o := fun b o e => hsb₁.extBut b o (by rw [hCs]; exact Nat.ne_of_lt (Nat.lt_succ_of_lt (Heap.lt_size e))) (Heap.get?_push_of_some _ (hH2 ▸ Heap.get?_push_of_some _ e))
  have hacc : h₁.get? s₂.heap.objs.size = some { cls := .type "list", data := .seq ([] : List Value).toArray 0 } := hsb₁.extBut _ _ hDC (Heap.get?_push_of_some _ (hH2 ▸ Heap.get?_push_size _ rfl))
  have st₁ : tn 0 h₁ := T.keep _ _ _ st fun b _ o e => old b o e
  -- the records of the iterator through the block
  have fpC : ∀ {H' : Hp} {pl : List (Addr × Obj)}, (∀ p ∈ pl, ∀ b ∈ fp, p.1 ≠ b) → (∀ b ∈ fp, H' b = none) → ∀ b ∈ fp, FpOk (cxC X (x :: x2 :: ys) scope H2.objs.size s₂ H₂ fp) pl H' b := fun {H' pl} hpl hn b hb => by
    have ok := cxC_ok2 K K2 hX I hC hfp hlt
    exact ⟨hn b hb, (ok.exf b hb).1, ok.exfs b hb, .inl hb, (ok.exf b hb).2, fun p hp => hpl p hp b hb⟩
  have Dfp : ∀ (o : Obj), ∀ p ∈ [(s₂.heap.objs.size, o)], ∀ b ∈ fp, p.1 ≠ b := fun o p hp b hb e => by
    have e1 : p = (s₂.heap.objs.size, o) := by simpa using hp
    subst e1
    exact absurd (hlt b hb) (by rw [← e]; exact Nat.lt_irrefl _)
  have loop : ∀ s₃ : Shared, s₃ = { s₂ with heap := h₁, toks := s₂.toks + ([] : List (Str × Value)).length } →
      codeAny (model X.prog X.w) X.A (.compLoop (.ListComp elt [⟨(.Tuple [.Name x px, .Name x2 px2] pq pp), iter, ifs, 0⟩] scope pos) 0 (.ref it) (.ref s₂.heap.objs.size) (compEnvC scope (clOf X.env.cells scope.names []) H2.objs.size X.env))
        (RR (.ref s₂.heap.objs.size) H2.objs.size) s₃ := by
    rintro s₃ rfl
    have I0 := cxC_inv2 K K2 hX hN hk I (tk := s₂.toks + ([] : List (Str × Value)).length) hC (Nat.le_refl _) hDC hfp hlt old hns₁ hacc (fun v z => by cases z)
    refine comp_loop (fun n s' => ∃ (i : Nat) (w1 w2 : Option V) (zs : List V) (its : List Value) (k : Nat) (H' : Hp), Inv (cxC X (x :: x2 :: ys) scope H2.objs.size s₂ H₂ fp) [(s₂.heap.objs.size, { cls := .type "list", data := .seq its.toArray k })] (sel2 is σ w1 w2) H' s' ∧
      Vals zs its ∧ tn i s'.heap ∧ (∀ b ∈ fp, H' b = none) ∧ W i n zs H') ?_ m0 ⟨0, none, none, [], [], 0, H₂, I0, .nil, st₁, fun b hb => (hfp b hb).1, w0⟩
    rintro n s3 ⟨i, w1, w2, zs, its, k, H3, I3, rv, st3, fr3, w3⟩
    have hD3 := I3.pin _ (List.mem_append_right _ (List.mem_singleton.mpr rfl))
    rcases turn i n zs H3 w3 with ⟨stop, hz, q⟩ | ⟨go, hz, step⟩
    · refine thn (T.done (cxC X (x :: x2 :: ys) scope H2.objs.size s₂ H₂ fp) rfl rfl rfl hc i _ s3 _ H3 _ I3 (fpC (Dfp _) fr3) st3 stop) fun r s4 ⟨hr, I4⟩ => ?_
      subst hr
      have hD4 := I4.pin _ (List.mem_append_right _ (List.mem_singleton.mpr rfl))
      have I5 := cxC_end I I4 (Nat.le_refl _) hD4.2.1 hfp hz rv hD4.1
      obtain ⟨m', hm', _⟩ := I4.loc
      refine fin _ _ s4 _ m' I5 ?_ hm' (q _ hD4.2.1)
      refine I.fpOk hC ?_
      rw [upd_ne (Ne.symm hDC)]
      exact I4.free
    · refine thn (T.item (cxC X (x :: x2 :: ys) scope H2.objs.size s₂ H₂ fp) rfl rfl rfl hc i _ s3 _ H3 _ I3 (fpC (Dfp _) fr3) st3 go) fun r s4 ⟨u, hr, h4⟩ => ?_
      subst hr
      refine thn h4 fun _ s5 ⟨xv, H5, I5, r5, y5, st5, fr5⟩ => ?_
      have I5' := I5.pinned (fpC (Dfp _) fr5) (T.obj _ _ st5)
      have pg : PG (cxC X (x :: x2 :: ys) scope H2.objs.size s₂ H₂ fp) (.Tuple [.Name x px, .Name x2 px2] pq pp) (gTup X.K 2 (gCons (gName 0) (gCons (gName 1) gNil))) := pg_tup hc (pgs_cons (pg_name K2.nd rfl (.inl (lookup_relabel_local K.own)) (.inr (lookup_relabel_local K.own))) (pgs_cons (pg_name K2.nd rfl (.inl (lookup_relabel_local K2.own)) (.inr (lookup_relabel_local K2.own))) pgs_nil))
      obtain ⟨av, v1, v2, exv, sq5, stp⟩ := step xv H5 y5
      subst exv
      refine thn (pg _ s5 _ H5 (.ref av) u (fun σ2 H2 => σ2 = sel2 is σ (some v1) (some v2) ∧ H2 = H5) I5' r5 ⟨av, [v1, v2], rfl, sq5, rfl, _, _, rfl, _, _, rfl, rfl, rfl, rfl⟩) fun _ s6 ⟨σ6, H6, I6, e6, e6'⟩ => ?_
      subst e6
      subst e6'
      -- what stays of the list and the iterator
      have back : ∀ {s7 : Shared} {H7 : Hp}, Inv (cxC X (x :: x2 :: ys) scope H2.objs.size s₂ H₂ fp) ([(s₂.heap.objs.size, { cls := .type "list", data := .seq its.toArray k })] ++ pinsAt fp s5.heap) (sel2 is σ (some v1) (some v2)) H7 s7 →
          tn (i + 1) s7.heap ∧ (∀ b ∈ fp, H7 b = none) ∧ s7.heap.get? s₂.heap.objs.size = some { cls := .type "list", data := .seq its.toArray k } ∧ H7 s₂.heap.objs.size = none := fun {s7 H7} I7 => by
        refine ⟨T.keep _ _ _ st5 fun b hb o e => (I7.pin (b, o) (List.mem_append_right _ (List.mem_append_right _ (mem_pinsAt hb e)))).1, fun b hb => ?_, ?_, ?_⟩
        · obtain ⟨o, e, d⟩ := T.obj _ _ st5 b hb
          exact (I7.pin (b, o) (List.mem_append_right _ (List.mem_append_right _ (mem_pinsAt hb e)))).2.1
        · exact (I7.pin (s₂.heap.objs.size, { cls := .type "list", data := .seq its.toArray k }) (List.mem_append_right _ (List.mem_append_left _ (List.mem_singleton.mpr rfl)))).1
        · exact (I7.pin (s₂.heap.objs.size, { cls := .type "list", data := .seq its.toArray k }) (List.mem_append_right _ (List.mem_append_left _ (List.mem_singleton.mpr rfl)))).2.1
      refine thn ((hf _ _ _ _).out _ s6 _ H6 _ I6 stp) fun b s7 ⟨H7, I7, q7⟩ => ?_
      cases b with
      | false =>
        have q7' : ∃ m', m' < n ∧ W (i + 1) m' zs H7 := by simpa using q7
        obtain ⟨m', hm', w7⟩ := q7'
        obtain ⟨b1, b2, b3, b4⟩ := back I7
        rw [if_neg Bool.false_ne_true]
        exact ⟨m', hm', i + 1, some v1, some v2, zs, its, k, H7, I7.unpinned, rv, b1, b2, w7⟩
      | true =>
        rw [if_pos rfl]
        have q7' := q7
        rw [if_pos rfl] at q7'
        refine thn ((he _ _ _ _).out _ s7 _ H7 _ I7 q7') fun yv s8 ⟨y, H8, I8, r8, m', hm', w8⟩ => ?_
        obtain ⟨b1, b2, b3, b4⟩ := back I8
        refine append_at b3 (fun h9 sb9 e9 => ?_) (by rw [List.size_toArray, ← rv.length]; exact hz)
        have ok := cxC_ok2 K K2 hX I hC hfp hlt
        have I8' : Inv (cxC X (x :: x2 :: ys) scope H2.objs.size s₂ H₂ fp) [] (sel2 is σ (some v1) (some v2)) H8 s8 := I8.pins_of fun p hp => by cases hp
        have I9 : Inv (cxC X (x :: x2 :: ys) scope H2.objs.size s₂ H₂ fp) [] (sel2 is σ (some v1) (some v2)) H8 { s8 with heap := h9 } := I8'.turned (t' := s8.toks) (it := s₂.heap.objs.size) (fun b o hb e => (sb9.2 b hb).trans e) b4 hDC (.inr (Nat.le_refl _))
          (fun y c h z => by
            obtain ⟨v, o, ho, _⟩ := I.cell y c (K.cl hX I.ok y c h)
            have := Heap.lt_size ho
            rw [z] at this
            exact Nat.lt_irrefl _ this) (fun p hp => by cases hp)
        refine ⟨m', hm', i + 1, some v1, some v2, zs ++ [y], its ++ [yv], k + 1, H8, ?_, rv.append (.cons r8 .nil), T.keep _ _ _ b1 fun b hb o e => (sb9.2 b fun z => absurd (hlt b hb) (by rw [z]; exact Nat.lt_irrefl _)).trans e, b2, w8⟩
        refine I9.pins_of fun p hp => ?_
        have e1 : p = (s₂.heap.objs.size, { cls := .type "list", data := .seq (its ++ [yv]).toArray (k + 1) }) := by simpa using hp
        subst e1
        refine ⟨by rw [e9, List.push_toArray], b4, hDC, fun z => ?_, fun v z => by cases z⟩
        obtain ⟨_, o, ho, _⟩ := ok.funs.mem z
        exact absurd (Heap.lt_size ho) (Nat.lt_irrefl _)
  exact codeAny_compStart_list (loop _ rfl) (T.self _ 0 _ _ _ st₁ (loop _ rfl))
theorem qe_comp2 (K : CompSc S scope N x ys is) (K2 : Two scope x x2 ys) (hi : QI X (.Tuple [.Name x px, .Name x2 px2] pq pp) iter wi) (hf : ∀ C s₂ H₂ ex, QF (cxC X (x :: x2 :: ys) scope C s₂ H₂ ex) ifs tc) (he : ∀ C s₂ H₂ ex, QE (cxC X (x :: x2 :: ys) scope C s₂ H₂ ex) elt te)
    (hc : X.calm = true := by rfl) (hX : X.env.scope = S := by rfl) (hN : X.N = N := by rfl) (hk : S.kind = .function := by rfl) (hs : ∀ v, foldedSetIterable iter X.env v = pure v := by intro _; rfl) :
    QE X (.ListComp elt [⟨(.Tuple [.Name x px, .Name x2 px2] pq pp), iter, ifs, 0⟩] scope pos) (tComp2 X.K wi is tc te) := by
  refine ⟨fun pins s σ H Q I h => ?_⟩
  rw [eval_ListComp]
  refine wpAny_comprehension_free (use := none) rfl hs (closure_of (K.cellOf' hX I.ok)) K.kind K.names (thn (hi.out pins s σ H _ I h) fun v s1 h1 => thn h1 fun itv s2 h2 => ?_)
  obtain ⟨it, fp, tn, J, H2, rfl, I2, T, st2, f2, W, ⟨m0, w0⟩, turn⟩ := h2
  refine comp_block2 (RR := fun acc C => compPost (model X.prog X.w) X.A X.xe none (EP X pins σ Q) acc C) K K2 hX hN hk hc hf he I2 T st2 f2 w0 turn ?_
  intro D C s' H' m' I' fC hm' q
  obtain ⟨f0, f1, f3, f4, f5, f6⟩ := fC
  exact ⟨m', hm', fun h' hs' => ⟨.ref D, H', I'.turned (t' := s'.toks) (fun b o hb e => (hs'.2 b hb).trans e) f0 f1 f4 f5 f6, rfl, q⟩⟩
theorem qs_setC2 {i : Nat} {y : Str} {py spos : Pos} (hNd : X.N.Nodup) (hy : X.N[i]? = some y) (hl : X.env.scope.names.lookup y = some .local) (K : CompSc S scope N x ys is) (K2 : Two scope x x2 ys) (hi : QI X (.Tuple [.Name x px, .Name x2 px2] pq pp) iter wi)
    (hf : ∀ C s₂ H₂ ex, QF (cxC X (x :: x2 :: ys) scope C s₂ H₂ ex) ifs tc) (he : ∀ C s₂ H₂ ex, QE (cxC X (x :: x2 :: ys) scope C s₂ H₂ ex) elt te)
    (hsw : swapsWith (.ListComp elt [⟨(.Tuple [.Name x px, .Name x2 px2] pq pp), iter, ifs, 0⟩] scope pos) (some (.Name y py)) spos.line X.env = pure true := by rfl)
    (hc : X.calm = true := by rfl) (hX : X.env.scope = S := by rfl) (hN : X.N = N := by rfl) (hk : S.kind = .function := by rfl) (hs : ∀ v, foldedSetIterable iter X.env v = pure v := by intro _; rfl) :
    QS X (.Assign [.Name y py] (.ListComp elt [⟨(.Tuple [.Name x px, .Name x2 px2] pq pp), iter, ifs, 0⟩] scope pos) spos) (tAsg (tComp2 X.K wi is tc te) (gName i)) := by
  refine ⟨fun pins s σ H D I h => ?_⟩
  rw [exec_Assign_Name_used _ _ _ _ hsw]
  refine wpAny_bind (wpAny_standAt (wpAny_bind ?_))
  show wpAny _ X.A (do let _ ← comprehension (.ListComp elt [⟨(.Tuple [.Name x px, .Name x2 px2] pq pp), iter, ifs, 0⟩] scope pos) scope X.env _ (newList []) false (eval iter X.env) (some (assign (.Name y py) X.env))) _ _ s
  refine wpAny_bind (thn (wpAny_comprehension_free (use := some (assign (.Name y py) X.env)) (Q := fun _ s' => SP X pins D .next s') rfl hs (closure_of (K.cellOf' hX I.ok)) K.kind K.names
    (thn (hi.out pins s σ H _ I h) fun v s1 h1 => thn h1 fun itv s2 h2 => ?_)) fun _ s' hq => wpAny_pure (wpAny_pure hq))
  obtain ⟨it, fp, tn, J, H2, rfl, I2, T, st2, f2, W, ⟨m0, w0⟩, turn⟩ := h2
  refine comp_block2 (RR := fun acc C => compPost (model X.prog X.w) X.A X.xe (some (assign (.Name y py) X.env)) (fun _ s' => SP X pins D .next s') acc C) (Q := fun v H => D.nx (σ.set i (some v)) H) K K2 hX hN hk hc hf he I2 T st2 f2 w0 turn ?_
  intro Dl C s' H' m' I' fC hm' q
  obtain ⟨f0, f1, f3, f4, f5, f6⟩ := fC
  show wpAny _ X.A (assign (.Name y py) X.env (.ref Dl)) _ _ _
  obtain ⟨oC, es, ep, hoC, hdC, hrC⟩ := hm'
  have Ip : Inv X (pins ++ [(C, oC)]) σ H' s' := I'.pins_of fun p hp => (List.mem_append.mp hp).elim (fun z => I'.pin p (List.mem_append_right _ z)) fun z => by
    have e : p = (C, oC) := by simpa using z
    subst e
    exact ⟨hoC, f0, f1, f3, fun v z => by rw [hdC] at z; cases z⟩
  refine wpAny_assign_Name (store_ok Ip hNd hy (.inl hl) (v := .ref Dl) rfl (fun s'' I'' => ?_) (.inr hl))
  have hC2 := (I''.pin (C, oC) (List.mem_append_right _ (List.mem_append_right _ (List.mem_singleton.mpr rfl)))).1
  refine ⟨m', ⟨oC, es, ep, hC2, hdC, hrC⟩, fun h' hs' => ⟨_, H', I''.unpinned.turned (t' := s''.toks) (fun b o hb e => (hs'.2 b hb).trans e) f0 f1 f4 f5 f6, q⟩⟩
end
end L2
set_option Elab.async false
set_option linter.all false
set_option maxRecDepth 100000
set_option maxHeartbeats 3200000
namespace L2
open PySem PySem.Spec PyProof.Rows PySem.W
noncomputable def KAll {α : Type} (n : Nat) (R : α → Prop) : KasT α → Prop
  | .ret a => R a
  | .ask i j k => i < n ∧ j < n ∧ ∀ b, KAll n R (k b)
theorem KAll.bind {α β : Type} {n : Nat} {R : α → Prop} {R' : β → Prop} {f : α → KasT β} : ∀ {t : KasT α}, KAll n R t → (∀ a, R a → KAll n R' (f a)) → KAll n R' (t.bind f)
  | .ret a, h, g => g a h
  | .ask i j k, h, g => ⟨h.1, h.2.1, fun b => KAll.bind (h.2.2 b) g⟩
theorem KAll.wp {α : Type} {n : Nat} {R : α → Prop} {cmp : Nat → Nat → (Bool → Shared → Prop) → Shared → Prop} {s : Shared} {G : α → Shared → Prop} (hc : ∀ i j C, i < n → j < n → (∀ b, C b s) → cmp i j C s) (hG : ∀ a, R a → G a s) : ∀ {t : KasT α}, KAll n R t → t.kasWp cmp G s
  | .ret a, h => hG a h
  | .ask i j k, h => hc i j _ h.1 h.2.1 fun b => KAll.wp hc hG (h.2.2 b)
noncomputable def PmN (n : Nat) (p : Array Nat) : Prop := p.Perm (List.toArray (List.range n))
theorem PmN.lt {n : Nat} (hn : 0 < n) {p : Array Nat} (h : PmN n p) (k : Nat) : p.getD k 0 < n := by
  unfold Array.getD
  split
  · rename_i hk
    have hm : p[k] ∈ p := Array.getElem_mem hk
    have := (Array.Perm.mem_iff h).mp hm
    simpa using this
  · exact hn
theorem PmN.rev {n : Nat} {p : Array Nat} (h : PmN n p) (i j : Nat) : PmN n (kas_rev p i j) := (mirror_perm p i j _).trans h
theorem all_asc {n : Nat} (hn : 0 < n) {p : Array Nat} (h : PmN n p) : ∀ f m, KAll n (fun _ => True) (kas_asc p f m)
  | 0, m => True.intro
  | f + 1, m => ⟨h.lt hn _, h.lt hn _, fun c => by
      cases c
      · exact all_asc hn h f (m + 1)
      · exact True.intro⟩
theorem all_desc {n : Nat} (hn : 0 < n) : ∀ f (p : Array Nat) m q, PmN n p → KAll n (fun r => PmN n r.1) (kas_desc f p m q)
  | 0, p, m, q, h => h
  | f + 1, p, m, q, h => ⟨h.lt hn _, h.lt hn _, fun c => by
      cases c
      · refine ⟨h.lt hn _, h.lt hn _, fun d => ?_⟩
        cases d
        · exact all_desc hn f p (m + 1) (q + 1) h
        · exact h
      · show KAll n _ (if q > 0 then kas_desc f (kas_rev p (m - (q + 1)) m) (m + 1) 0 else kas_desc f p (m + 1) 0)
        split
        · exact all_desc hn f _ (m + 1) 0 (h.rev _ _)
        · exact all_desc hn f p (m + 1) 0 h⟩
theorem all_tail3 {n : Nat} (hn : 0 < n) {p : Array Nat} (h : PmN n p) (m r : Nat) : KAll n (fun r => PmN n r.2) (kas_tail3 m r p) := (all_asc hn (h.rev 0 m) (r - m) m).bind fun _ _ => h.rev 0 m
theorem all_descPart {n : Nat} (hn : 0 < n) {p : Array Nat} (h : PmN n p) (m r : Nat) : KAll n (fun r => PmN n r.2) (kas_descPart m r p) := by
  refine (all_desc hn (r - (m + 1)) p (m + 1) 0 h).bind fun a ha => ?_
  split
  · exact all_tail3 hn (PmN.rev ha _ _) _ _
  · exact all_tail3 hn ha _ _
theorem all_count {n : Nat} (hn : 0 < n) {p : Array Nat} (h : PmN n p) (r : Nat) : KAll n (fun r => PmN n r.2) (kas_count r p) := by
  refine (all_asc hn h (r - 1) 1).bind fun a _ => ?_
  split
  · exact h
  · split
    · refine ⟨h.lt hn _, h.lt hn _, fun c => ?_⟩
      cases c
      · exact all_descPart hn (h.rev 0 a) _ _
      · exact h
    · exact all_descPart hn h _ _
theorem all_place {n : Nat} (hn : 0 < n) {p : Array Nat} (h : PmN n p) (k : Nat) : ∀ f l r, KAll n (fun _ => True) (kas_place p k f l r)
  | 0, l, r => True.intro
  | f + 1, l, r => by
    unfold kas_place
    split
    · exact True.intro
    · refine ⟨h.lt hn _, h.lt hn _, fun c => ?_⟩
      cases c
      · exact all_place hn h k f _ r
      · exact all_place hn h k f l _
theorem all_bin {n : Nat} (hn : 0 < n) : ∀ f (p : Array Nat) k, PmN n p → KAll n (fun q => PmN n q) (kas_bin f p k)
  | 0, p, k, h => h
  | f + 1, p, k, h => (all_place hn h k k 0 k).bind fun l _ => all_bin hn f _ (k + 1) ((bubble_perm p k (k - l)).trans h)
theorem all_sort {n : Nat} (hn : 0 < n) : KAll n (fun q => PmN n q) (kas_sort n) := by
  refine (all_count hn (Array.Perm.refl _) n).bind fun r hr => ?_
  split
  · exact all_bin hn _ _ _ hr
  · exact hr
theorem perm_vals {vs : List Value} {p : Array Nat} (h : PmN vs.length p) : (p.toList.map fun i => vs.getD i Value.none).Perm vs := by
  have e : ((List.range vs.length).map fun i => vs.getD i Value.none) = vs := by
    apply List.ext_getElem (by simp)
    intro i h1 h2
    simp at h1
    simp [h1]
  have := (Array.Perm.toList h).map fun i => vs.getD i Value.none
  rw [List.toList_toArray, e] at this
  exact this
end L2
set_option Elab.async false
set_option linter.all false
set_option maxRecDepth 100000
set_option maxHeartbeats 3200000
namespace L2
open PySem PySem.Spec PyProof.Rows PySem.W
section
variable {prog : Program} {w : World} {A : Around} {E : Value → Shared → Prop} {s : Shared}
structure Answers (prog : Program) (w : World) (h : Heap) (vs : List Value) (κ : SortKind) : Prop where
  kind : ∀ (A : Around) (E : Value → Shared → Prop) (Q : SortKind → Shared → Prop) (s : Shared), (∀ b o, h.get? b = some o → s.heap.get? b = some o) → Q κ s → wpAny (model prog w) A (keyKind' vs.toArray) Q E s
  ask : ∀ (A : Around) (C : Bool → Shared → Prop) (s : Shared) (i j : Nat), (∀ b o, h.get? b = some o → s.heap.get? b = some o) → i < vs.length → j < vs.length → (∀ b, C b s) → kas_ask prog w A κ vs i j C s
theorem list_sort_any {a : Addr} {n : Nat} {vs : List Value} {h : Heap} {κ : SortKind} {P : PySem.Fin → Shared → Prop} (ho : s.heap.get? a = some (seqObj "list" vs.toArray n)) (han : h.objs.size ≤ a) (hs : ∀ b o, h.get? b = some o → s.heap.get? b = some o) (h64 : vs.length < 64) (K : 2 ≤ vs.length → Answers prog w h vs κ)
    (q : ∀ out : List Value, out.Perm vs → P (.done (.ret .none)) { s with heap := sortedHeap s.heap a vs out.toArray }) :
    wpAny (model prog w) A (Builtin.«list.sort» ⟨[.ref a], []⟩) P E s := by
  rw [list_sort_plain]
  have ha : a < s.heap.objs.size := Heap.lt_size ho
  refine wpAny_bind (listItems_at ho rfl ?_)
  refine wpAny_bind (listUpdate_at ho rfl ?_ (by rw [List.size_toArray, sizeLine_eq]; omega) (Nat.zero_le _))
  obtain ⟨e1, ho1⟩ : ∃ e1, (s.heap.update a (Obj.mapSeq fun _ => #[])).get? a = some (seqObj "list" #[] e1) := ⟨_, get?_update_seq ho (fun _ => #[])⟩
  refine wpAny_bind (seqEpoch_at ho1 rfl ?_)
  refine wpAny_bind (wpAny_newTuple ?_ (by show vs.length ≤ _; rw [sizeLine_eq]; omega))
  refine wpAny_bind (wpAny_newList ?_ (Nat.zero_le _))
  refine wpAny_holding ?_
  have ho6 : (((s.heap.update a (Obj.mapSeq fun _ => #[])).push (seqObj "tuple" vs.toArray 0)).push (seqObj "list" #[] 0)).get? a = some (seqObj "list" #[] e1) := by
    rw [Heap.get?_push_ne _ _ _ (by rw [size_push', Heap.size_update]; exact Nat.ne_of_lt (Nat.lt_succ_of_lt ha)), Heap.get?_push_ne _ _ _ (by rw [Heap.size_update]; exact Nat.ne_of_lt ha)]
    exact ho1
  have old : ∀ b o, h.get? b = some o → (((s.heap.update a (Obj.mapSeq fun _ => #[])).push (seqObj "tuple" vs.toArray 0)).push (seqObj "list" #[] 0)).get? b = some o := fun b o e => by
    have hb : b < h.objs.size := Heap.lt_size e
    have hba : b ≠ a := Nat.ne_of_lt (Nat.lt_of_lt_of_le hb han)
    exact Heap.get?_push_of_some _ (Heap.get?_push_of_some _ ((Heap.get?_update_other _ _ (Ne.symm hba)).trans (hs b o e)))
  show wpAny (model prog w) A _ P E { s with heap := ((s.heap.update a (Obj.mapSeq fun _ => #[])).push (seqObj "tuple" vs.toArray 0)).push (seqObj "list" #[] 0) }
  dsimp only
  by_cases h2 : vs.toArray.size < 2
  · rw [if_pos h2, if_pos h2]
    refine wpAny_bind (wpAny_pure ?_)
    rw [StateT.run_pure]
    refine wpAny_bind (wpAny_pure ?_)
    dsimp only
    refine wpAny_bind (seqEpoch_at ho6 rfl ?_)
    refine wpAny_bind (listUpdate_at ho6 rfl ?_ (hsz2 := by rw [Array.size_map]; show (pairsOf vs).size ≤ _; rw [pairsOf_size, sizeLine_eq]; omega))
    simp only [bne_self_eq_false, Bool.false_eq_true, if_false]
    have e2 : (arrOf (SortSt.mk' general' (vs.toArray.zip vs.toArray) #[] 7 none)).map (·.2) = vs.toArray := by
      show (vs.toArray.zip vs.toArray).map (·.2) = vs.toArray
      rw [List.zip_toArray, List.map_toArray]
      congr 1
      rw [List.map_snd_zip]
      omega
    rw [e2]
    exact wpAny_pure (q vs (List.Perm.refl _))
  · rw [if_neg h2, if_neg h2]
    rw [List.size_toArray] at h2
    have K := K (by omega)
    refine wpAny_bind (K.kind _ _ _ _ old ?_)
    refine wpAny_bind (wpAny_mono (kat_run (Q := fun st' s' => ∃ p : Array Nat, p.size = vs.length ∧ arrOf st' = p.map (kas_item (vs.toArray.zip vs.toArray)) ∧ failedOf st' = none ∧ PmN vs.length p ∧ s' = { s with heap := ((s.heap.update a (Obj.mapSeq fun _ => #[])).push (seqObj "tuple" vs.toArray 0)).push (seqObj "list" #[] 0) })
      rfl (by omega) h64 (fun p' st' s' a1 a2 a3 a4 => ⟨p', a1, a2, a3, a4⟩) (KAll.wp (fun i j C hi hj hC => K.ask _ _ _ i j old hi hj hC) (fun p hp => ⟨hp, rfl⟩) (all_sort (by omega)))) ?_ fun _ _ e => e)
    rintro ⟨⟨⟩, st'⟩ s' ⟨p, hp, har, hf, pm, rfl⟩
    dsimp only
    have hout := kat_snds rfl har
    rw [hout]
    refine wpAny_bind (seqEpoch_at ho6 rfl ?_)
    refine wpAny_bind (listUpdate_at ho6 rfl ?_ (Nat.zero_le _) (by rw [List.size_toArray, List.length_map, Array.length_toList, hp, sizeLine_eq]; omega))
    rw [hf]
    simp only [bne_self_eq_false, Bool.false_eq_true, if_false]
    exact wpAny_pure (q _ (perm_vals pm))
theorem sorted_any {l : Addr} {vs : List Value} {κ : SortKind} {Q : Value → Shared → Prop} (hl : s.heap.IsList l vs.toArray) (h64 : vs.length < 64) (K : 2 ≤ vs.length → Answers prog w s.heap vs κ)
    (q : ∀ out : List Value, out.Perm vs → Q (.ref (s.heap.objs.size + 1)) { s with heap := sortedAll s.heap vs out.toArray }) :
    wpAny (model prog w) A (call (.builtin "sorted") [.ref l]) Q E s := by
  refine Calls.call_function_entry kind_sorted plain_sorted entry_sorted (args_sorted1 _) ?_
  unfold Builtin.«sorted»
  refine wpAny_bind (m := checkCount "sorted" 1 1 _) (wpAny_pure ?_)
  refine wpAny_bind (collect_list hl ?_ (by rw [sizeLine_eq]; omega))
  refine wpAny_bind (wpAny_newList ?_ (by rw [sizeLine_eq]; omega))
  have hsz : ((s.heap.push (seqObj "list" #[] 0)).update s.heap.objs.size (Obj.mapSeq (· ++ vs.toArray))).objs.size = s.heap.objs.size + 1 := by
    rw [Heap.size_update, size_push']
  have hoL : (((s.heap.push (seqObj "list" #[] 0)).update s.heap.objs.size (Obj.mapSeq (· ++ vs.toArray))).push (seqObj "list" vs.toArray 0)).get? (s.heap.objs.size + 1) = some (seqObj "list" vs.toArray 0) := by
    rw [← hsz]; exact Heap.get?_push_size _ rfl
  have keep : ∀ b o, s.heap.get? b = some o → (((s.heap.push (seqObj "list" #[] 0)).update s.heap.objs.size (Obj.mapSeq (· ++ vs.toArray))).push (seqObj "list" vs.toArray 0)).get? b = some o := fun b o q => by
    have hlt : b < s.heap.objs.size := Heap.lt_size q
    rw [Heap.get?_push_ne _ _ _ (by rw [hsz]; exact Nat.ne_of_lt (Nat.lt_succ_of_lt hlt)), Heap.get?_update_ne _ _ _ _ (Nat.ne_of_lt hlt), Heap.get?_push_ne _ _ _ (Nat.ne_of_lt hlt)]
    exact q
  show wpAny _ _ _ _ _ { s with heap := ((s.heap.push (seqObj "list" #[] 0)).update s.heap.objs.size (Obj.mapSeq (· ++ vs.toArray))).push (seqObj "list" vs.toArray 0) }
  rw [hsz]
  refine wpAny_bind (wpAny_holding (wpAny_call_entry slot_list_sort ⟨_, hoL, rfl⟩ entry_list_sort (list_sort_any (κ := κ) (h := s.heap) hoL (Nat.le_succ _) keep h64 K fun out hp => ⟨_, rfl, ?_⟩) (args_list_sort _)))
  exact wpAny_pure ⟨_, rfl, q out hp⟩
end
end L2
set_option Elab.async false
set_option linter.all false
set_option maxRecDepth 100000
set_option maxHeartbeats 3200000
namespace L2
open PySem PySem.Spec PyProof.Rows PySem.W
noncomputable def refV : Value → Addr
  | .ref a => a
  | _ => 0
theorem refs_of {as : List Addr} : ∀ {us : List Value}, Vals (as.map V.ref) us → us = as.map Value.ref := by
  induction as with
  | nil => intro us h; cases h; rfl
  | cons a r ih =>
    intro us h
    cases h with
    | cons h t =>
      rw [ih t, List.map_cons]
      congr 1
theorem refs_back (as : List Addr) : Vals (as.map V.ref) (as.map Value.ref) := by
  induction as with
  | nil => exact .nil
  | cons a r ih => exact .cons rfl ih
theorem refs_perm {as : List Addr} {out : List Value} (h : out.Perm (as.map Value.ref)) : ∃ as' : List Addr, out = as'.map Value.ref ∧ as'.Perm as := by
  refine ⟨out.map refV, ?_, ?_⟩
  · rw [List.map_map]
    have : ∀ v ∈ out, (Value.ref ∘ refV) v = v := fun v hv => by
      obtain ⟨a, _, rfl⟩ := List.mem_map.mp (h.mem_iff.mp hv)
      rfl
    rw [List.map_congr_left this, List.map_id']
  · have := h.map refV
    rw [List.map_map] at this
    have e : as.map (refV ∘ Value.ref) = as := by
      rw [show (refV ∘ Value.ref) = id from rfl, List.map_id]
    rw [e] at this
    exact this
section
variable {prog : Program} {w : World} {h : Heap}
noncomputable def TwoI (h : Heap) (a : Addr) : Prop := ∃ o n x y t u, h.get? a = some o ∧ o.cls = .type "tuple" ∧ o.data = .seq #[.int x t, .int y u] n
theorem oneLt_any {A : Around} {E : Value → Shared → Prop} {s : Shared} {fl : Bool} {x y : Int} {t u : Tok} {C : Bool → Shared → Prop} (hC : ∀ b, C b s) : wpAny (model prog w) A (oneLt' fl (.int x t) (.int y u)) C E s := by
  cases fl
  · exact kat_one _ _ (PyProof.Rows.lt_int (hC _))
  · exact oneLt_int (hC _)
theorem two_answers {as : List Addr} (H : ∀ a ∈ as, TwoI h a) (h0 : 0 < as.length) : Answers prog w h (as.map Value.ref) (tuples' (Value.type "int" != Value.type "tuple")) where
  kind := by
    intro A E Q s hs q
    have tups : ∀ l : List Addr, (∀ a ∈ l, TwoI h a) → ∃ fs : List Value, fs.length = l.length ∧ (∀ v ∈ fs, ∃ x t, v = .int x t) ∧ KatTups s.heap (l.map Value.ref) fs := by
      intro l
      induction l with
      | nil => exact fun _ => ⟨[], rfl, (fun _ h => nomatch h), .nil⟩
      | cons a r ih =>
        intro hl
        obtain ⟨fs, e1, e2, e3⟩ := ih fun b hb => hl b (List.mem_cons_of_mem _ hb)
        obtain ⟨o, n, x, y, t, u, ho, hc, hd⟩ := hl a List.mem_cons_self
        refine ⟨.int x t :: fs, by rw [List.length_cons, List.length_cons, e1], fun v hv => ?_, KatTups.cons (hs _ _ ho) hc hd rfl e3⟩
        rcases List.mem_cons.mp hv with rfl | hv
        · exact ⟨x, t, rfl⟩
        · exact e2 v hv
    obtain ⟨fs, e1, e2, e3⟩ := tups as H
    refine kat_kind e3 (by omega) (T := .type "int") (fun v hv => ?_) rfl q
    obtain ⟨x, t, rfl⟩ := e2 v hv
    exact Looks.of_pure rfl
  ask := by
    intro A C s i j hs hi hj hC
    rw [List.length_map] at hi hj
    unfold kas_ask
    have e1 : (as.map Value.ref).getD i Value.none = .ref as[i] := by simp [hi]
    have e2 : (as.map Value.ref).getD j Value.none = .ref as[j] := by simp [hj]
    rw [e1, e2]
    obtain ⟨o, n, x, y, t, u, ho, hc, hd⟩ := H _ (List.getElem_mem hi)
    obtain ⟨o', n', x', y', t', u', ho', hc', hd'⟩ := H _ (List.getElem_mem hj)
    refine kat_lt (hs _ _ ho) hd (hs _ _ ho') hd' ?_
    refine kat_cons (wpAny_eqBool_int (kat_go (fun _ => ?_) (fun _ => ?_)))
    · refine kat_yes (kat_cons (wpAny_eqBool_int (kat_go (fun _ => ?_) (fun _ => ?_))))
      · exact kat_yes (kat_nil (hC _))
      · exact kat_no (oneLt_any hC)
    · exact kat_no (oneLt_any hC)
end
section
variable {X : Cx}
theorem call_sortedP : CallR X (.builtin "sorted") (fun xs H Q => ∃ (p : Addr) (as : List Addr), xs = [.ref p] ∧ H p = some (.lst (as.map V.ref)) ∧ (∀ a ∈ as, ∃ x y : Int, H a = some (.tup [.int x, .int y])) ∧ as.length < 64 ∧
    ∀ (l : Addr) (bs : List Addr), H l = none → bs.Perm as → Q (.ref l) (upd H l (.lst (bs.map V.ref)))) := by
  intro pins s σ H xs us Q I r h
  obtain ⟨p, as, rfl, hp, ha, hn, q⟩ := h
  obtain ⟨u, rfl, rx⟩ := vals1 r
  cases rx
  obtain ⟨its, r', pl, hz⟩ := I.list (SqL.of hp)
  have e := refs_of r'
  subst e
  refine sorted_any pl.isList (by rw [List.length_map]; exact hn) (fun h2 => two_answers (fun a hm => ?_) (by rw [List.length_map] at h2; omega)) fun out hpm => ?_
  · obtain ⟨x, y, e⟩ := ha a hm
    obtain ⟨_, its2, rv, o, ho, hc, n, hd⟩ := I.hok a _ e
    obtain ⟨u1, u2, rfl, ⟨t, rfl⟩, ⟨t', rfl⟩⟩ := two_vals rv
    exact ⟨o, n, x, y, t, t', ho, hc, hd⟩
  obtain ⟨bs, rfl, hb⟩ := refs_perm hpm
  obtain ⟨e, he⟩ := sortedAll_at s.heap (as.map Value.ref) (bs.map Value.ref).toArray
  refine ⟨.ref (s.heap.objs.size + 1), _, I.laid (t' := s.toks) (o := .lst (bs.map V.ref)) (fun b o e => sortedAll_old e) (Nat.le_succ _) ?_, rfl, q _ bs (I.hok.fresh (Nat.le_succ _)) hb⟩
  have hm : bs.length = as.length := hb.length_eq
  exact ⟨by rw [List.length_map]; exact Nat.le_of_lt (small1000 (by omega)), bs.map Value.ref, e, refs_back bs, he⟩
end
end L2
set_option Elab.async false
set_option linter.all false
set_option maxRecDepth 100000
set_option maxHeartbeats 1000000
namespace L2
open PySem PySem.Spec PyProof.Rows
section
variable {prog : Program} {w : World} {A : Around} {E : Value → Shared → Prop} {s : Shared} {c it : Addr} {oc : Obj} {es : Array DictEntry} {ep i : Nat}
end
section
variable {X : Cx}
end
end L2
set_option Elab.async false
set_option linter.all false
set_option maxRecDepth 100000
set_option maxHeartbeats 1000000
namespace L2
open PySem PySem.Spec PyProof.Rows
section
variable {X : Cx}
end
theorem comp2_list {K : PySem.W.Frag} {a : Addr} {xs : List V} {is : List Nat} {tc : TT} {te : TE} {σ : St} {H : Hp} {Q : VK} (Pv : Nat → List V → Hp → Prop) (h0 : Pv 0 [] H) (hl : ∀ i zs H, Pv i zs H → zs.length ≤ sizeLine) (hq : ∀ i zs H, Pv i zs H → SqL K H a xs)
    (hs : ∀ i x zs H (R : List V → Hp → Prop), (∀ zs H, Pv (i + 1) zs H → R zs H) → xs[i]? = some x → Pv i zs H → ∃ a v1 v2, x = .ref a ∧ SqT K H a [v1, v2] ∧ tc (sel2 is σ (some v1) (some v2)) H fun b H2 => if b = true then te (sel2 is σ (some v1) (some v2)) H2 fun y H3 => R (zs ++ [y]) H3 else R zs H2)
    (hd : ∀ zs H, Pv xs.length zs H → ∀ p, H p = none → Q (.ref p) (upd H p (.lst zs))) :
    CompW2 K is tc te σ Q (Itl K a) H := by
  refine ⟨fun i m zs H => m = xs.length - i ∧ i ≤ xs.length ∧ Pv i zs H, ⟨xs.length, by simp, Nat.zero_le _, h0⟩, ?_⟩
  rintro i m zs H ⟨rfl, hi, p⟩
  have q := hq i zs H p
  by_cases hlt : i < xs.length
  · refine .inr ⟨⟨xs, xs[i], q, by simp [hlt]⟩, hl i zs H p, fun x H' y => ?_⟩
    obtain ⟨e, y⟩ := y
    subst e
    exact hs i x zs _ (fun zs H => ∃ m', m' < xs.length - i ∧ (fun i m zs H => m = xs.length - i ∧ i ≤ xs.length ∧ Pv i zs H) (i + 1) m' zs H) (fun zs H p' => ⟨xs.length - (i + 1), by omega, rfl, hlt, p'⟩) (y xs q) p
  · have e : i = xs.length := by omega
    subst e
    exact .inl ⟨⟨xs, q, Nat.le_refl _⟩, hl _ zs H p, hd zs H p⟩
end L2
set_option Elab.async false
set_option linter.all false
set_option maxRecDepth 100000
set_option maxHeartbeats 1000000
namespace L2
open PySem PySem.Spec PyProof.Rows
section
variable {X : Cx}
end
end L2
set_option Elab.async false
set_option linter.all false
set_option maxRecDepth 100000
set_option maxHeartbeats 1000000
namespace L2
open PySem PySem.Spec PyProof.Rows
open PySem.W (hideAll of_hideAll hideAll_get hideAll_none funFrames_hide)
theorem ObjOk.there {P : Program} {w : World} {H : Hp} {h : Heap} {a : Addr} {o : HO} (x : ObjOk P w H h a o) : ∃ q, h.get? a = some q := by
  induction o with
  | lst xs => obtain ⟨_, _, _, _, e⟩ := x; exact ⟨_, e⟩
  | tup xs => obtain ⟨_, _, _, q, e, _⟩ := x; exact ⟨q, e⟩
  | dK kvs => obtain ⟨_, _, _, _, q, _, _, e, _⟩ := x; exact ⟨q, e⟩
  | dT kvs => obtain ⟨_, _, _, _, q, _, _, e, _⟩ := x; exact ⟨q, e⟩
  | set S n => obtain ⟨q, _, _, _, e, _⟩ := x; exact ⟨q, e⟩
  | ins C dx fs => obtain ⟨_, _, _, e, _⟩ := x; exact ⟨_, e⟩
  | own y => exact x
  | xd fs => obtain ⟨_, ⟨q, _, _, e, _⟩, _⟩ := x; exact ⟨q, e⟩
  | rng lo hi => obtain ⟨_, _, _, e⟩ := x; exact ⟨_, e⟩
  | frz q u _ => obtain ⟨e, _⟩ := x; exact ⟨_, e⟩
  | tbl ps => exact ⟨_, x⟩
  | met f y => exact ⟨_, x⟩
  | ext φ => exact x.2.1
section
variable {P : Program} {w : World} {X : Cx} {pins : List (Addr × Obj)} {σ : St} {H : Hp} {s : Shared}
end
end L2
set_option Elab.async false
set_option linter.all false
set_option maxRecDepth 100000
set_option maxHeartbeats 1000000
namespace L2
open PySem PySem.Spec PyProof.Rows
open PySem.W (hideAll of_hideAll hideAll_get hideAll_none funFrames_hide)
section
variable {X : Cx} {E : XK}
end
end L2
set_option Elab.async false
set_option linter.all false
set_option maxRecDepth 100000
set_option maxHeartbeats 1000000
namespace L2
open PySem PySem.Spec PyProof.Rows
section
variable {X : Cx} {E : XK} {x : Str} {C : Addr} {np cpos pos : Pos} {e₀ : Expr} {rest : List Expr} {t : TA}
end
end L2
set_option Elab.async false
set_option linter.all false
set_option maxRecDepth 100000
set_option maxHeartbeats 1000000
namespace L2
open PySem PySem.Spec PyProof.Rows
section
variable {M : Model} {A : Around} {E : Value → Shared → Prop}
variable {nm q nm' q' : Str} {C N D N' : Addr} {bs bm bs' bm' : List Value} {hdct hdct' : Bool} {sn sn' : List Str} {sub sub' : List Value} {ab ab' : Bool} {col col' : Option Bool} {dd dd' : Option Addr} {k0 k1 k2 k3 k5 k0' k1' k2' k3' k5' : Option Value} {newId newId' : String}
end
end L2
set_option Elab.async false
set_option linter.all false
set_option maxRecDepth 100000
set_option maxHeartbeats 1000000
namespace L2
open PySem PySem.Spec PyProof.Rows
section
variable {X : Cx} {pins : List (Addr × Obj)} {σ : St} {H H' : Hp} {s s' : Shared}
end
end L2
set_option Elab.async false
set_option linter.all false
set_option maxRecDepth 100000
set_option maxHeartbeats 1000000
namespace L2
open PySem PySem.Spec PyProof.Rows
section
variable {X : Cx} {pins : List (Addr × Obj)} {σ : St} {H H' : Hp} {s s' : Shared}
end
section
variable {prog : Program} {w : World} {A : Around} {E : Value → Shared → Prop} {s : Shared} {env : Env}
end
end L2
set_option Elab.async false
set_option linter.all false
set_option maxRecDepth 100000
set_option maxHeartbeats 1000000
namespace L2
open PySem PySem.Spec PyProof.Rows
section
variable {X : Cx} {pins : List (Addr × Obj)} {σ : St} {H : Hp} {s : Shared}
variable {k : Nat} {f : Addr} {fd : FuncData} {ps : List Str} {sp : Sp} {g x y n : Str} {p np p0 cpos spos hpos pos : Pos} {e₀ : Expr} {es : List Expr} {t : TA} {b₀ : Stmt} {suite : List Stmt} {i j : Nat} {Dc : Addr} {ts : TS}
end
end L2
set_option Elab.async false
set_option linter.all false
set_option maxRecDepth 100000
set_option maxHeartbeats 1000000
namespace L2
open PySem PySem.Spec PyProof.Rows PySem.Calls
open PySem.W (Frag InstAt findObj plainGet plainGet_of kin_open kin_hooked class_get handed_on mroIn clsIn Looks subIn typeIn looks_typeIn looks_subIn isIn isi_call)
section
variable {prog : Program} {w : World} {A : Around} {E : Value → Shared → Prop} {s : Shared} {K : Frag} {e C D : Addr} {oe : Obj} {od : Option Obj}
end
end L2
set_option Elab.async false
set_option linter.all false
set_option maxRecDepth 100000
set_option maxHeartbeats 1000000
namespace L2
open PySem PySem.Spec PyProof.Rows PySem.Calls
open PySem.W Builtin Builtin.ObjectAttr Builtin.Getset_descriptor
section
variable {prog : Program} {w : World} {A : Around} {E : Value → Shared → Prop} {s : Shared} {K : Frag} {e C D : Addr}
end
end L2
set_option Elab.async false
set_option linter.all false
set_option maxRecDepth 100000
set_option maxHeartbeats 1000000
namespace L2
open PySem PySem.Spec PyProof.Rows PySem.Calls
end L2
set_option Elab.async false
set_option linter.all false
set_option maxRecDepth 100000
set_option maxHeartbeats 1000000
namespace L2
open PySem PySem.Spec PyProof.Rows PySem.Calls
open PySem.W Builtin Builtin.ObjectAttr
section
variable {prog : Program} {w : World} {A : Around} {E : Value → Shared → Prop} {s : Shared} {K : Frag} {x C : Addr} {name : Str} {v : Value}
end
section
variable {X : Cx} {pins : List (Addr × Obj)} {σ : St} {H : Hp} {s : Shared} {e C d : Addr} {f : Str} {v : V} {u : Value} {A : Around} {E : Value → Shared → Prop}
end
section
variable {X : Cx} {o value : Expr} {ta tv : TE} {f : Str} {pos pos' : Pos}
end
end L2
set_option Elab.async false
set_option linter.all false
set_option maxRecDepth 100000
set_option maxHeartbeats 1000000
namespace L2
open PySem PySem.Spec PyProof.Rows PySem.Calls
open PySem.W
section
variable {prog : Program} {w : World} {A : Around} {E : Value → Shared → Prop} {hh : Heap} {g : Array GenState} {dr : Drawn} {t : Nat} {os : OsState} {K : Frag}
variable {nm q : Str} {C N fI : Addr} {bs tl : List Value} {hdct : Bool} {sn : List Str} {sub : List Value} {ab : Bool} {col : Option Bool} {dd : Option Addr} {k0 k1 k2 k3 k5 : Option Value}
end
end L2
set_option Elab.async false
set_option linter.all false
set_option maxRecDepth 100000
set_option maxHeartbeats 1000000
namespace L2
open PySem PySem.Spec PyProof.Rows PySem.Calls
open PySem.W
section
variable {X : Cx} {x : Str} {C f : Addr} {k : Nat} {fd : FuncData} {ps : List Str} {sp : Sp} {p pos : Pos} {e₀ : Expr} {es : List Expr} {t : TA}
end
end L2
set_option Elab.async false
set_option linter.all false
set_option maxRecDepth 100000
set_option maxHeartbeats 1000000
namespace L2
open PySem PySem.Spec PyProof.Rows PySem.Calls
end L2
set_option Elab.async false
set_option linter.all false
set_option maxRecDepth 100000
set_option maxHeartbeats 1000000
namespace L2
open PySem PySem.Spec PyProof.Rows PySem.Calls
open Builtin Builtin.Str
section
variable {X : Cx} {e b : Expr} {es : List Expr} {te tb : TE} {t : TA}
end
section
variable {X : Cx} {o : Expr} {to : TE} {y z : Str} {j1 j2 j3 : Nat} {p1 p2 p3 apos cpos : Pos}
end
end L2
set_option Elab.async false
set_option linter.all false
set_option maxRecDepth 100000
set_option maxHeartbeats 1000000
namespace L2
open PySem PySem.Spec PyProof.Rows PySem.Calls
open Builtin Builtin.Str
section
variable {X : Cx} {e : Expr} {ta : TE} {c : Str} {j : Nat} {p1 p2 pos : Pos}
end
section
variable {X : Cx}
end
end L2
set_option Elab.async false
set_option linter.all false
set_option maxRecDepth 100000
set_option maxHeartbeats 1000000
namespace L2
open PySem PySem.Spec PyProof.Rows PySem.Calls
open PySem.W
end L2
set_option Elab.async false
set_option linter.all false
set_option maxRecDepth 100000
set_option maxHeartbeats 1000000
namespace L2
open PySem PySem.Spec PyProof.Rows PySem.Calls
open Builtin Builtin.Str
end L2
set_option Elab.async false
set_option linter.all false
set_option maxRecDepth 100000
set_option maxHeartbeats 1000000
namespace L2
open PySem PySem.Spec PyProof.Rows PySem.Calls
end L2
set_option Elab.async false
set_option linter.all false
set_option maxRecDepth 100000
set_option maxHeartbeats 1000000
namespace L2
open PySem PySem.Spec PyProof.Rows PySem.Calls
noncomputable def TrX (h B : Heap) (e : Addr) (φ : Obj → Prop) (fl : Value) : Prop :=
  ∃ oe vs T oT ts, h.get? e = some oe ∧ φ oe ∧ oe.data = .fields vs ∧ vs[1]? = some (.ref T) ∧ B.get? T = none ∧ T ≠ e ∧ h.get? T = some oT ∧ oT.data = .fields ts ∧ ts[3]? = some fl
noncomputable def FlyX (B : Heap) (l : List Env) (e : Addr) (φ : Obj → Prop) (h : Heap) : Prop := B.StaysIn h ∧ B.get? e = none ∧ h.FunFrames B l ∧ TrX h B e φ .none
theorem FlyX.there {B h : Heap} {l : List Env} {e : Addr} {φ : Obj → Prop} (x : FlyX B l e φ h) : ∃ o, h.get? e = some o ∧ φ o := by
  obtain ⟨_, _, _, o, _, _, _, _, h1, h2, _⟩ := x
  exact ⟨o, h1, h2⟩
theorem FlyX.old {B h : Heap} {l : List Env} {e : Addr} {φ : Obj → Prop} {cls a0 : Value} (hφ : ∀ o, φ o → o.cls = cls ∧ ∀ vs, o.data = .fields vs → vs[0]? = some a0) (x : FlyX B l e φ h) : Heap.FlyingW B l e cls a0 h := by
  obtain ⟨x1, x2, x3, o, vs, T, oT, ts, h1, h2, h3, h4⟩ := x
  exact ⟨x1, x2, x3, o, vs, T, oT, ts, h1, ⟨(hφ o h2).1, (hφ o h2).2 vs h3⟩, h3, h4⟩
section
variable {M : Model} {A : Around} {E : Value → Shared → Prop} {s : Shared} {B : Heap} {env : Env} {outer : List Env} {L e : Addr} {φ : Obj → Prop} {Q : Unit → Shared → Prop}
end
end L2
set_option Elab.async false
set_option linter.all false
set_option maxRecDepth 100000
set_option maxHeartbeats 1000000
namespace L2
open PySem PySem.Spec PyProof.Rows PySem.Calls
section
variable {prog : Program} {w : World} {A : Around} {E : Value → Shared → Prop} {s : Shared} {env : Env} {x : Sem Value} {Q : Flow → Shared → Prop} {C e1 : Addr} {j : Nat} {p pos : Pos}
end
end L2
set_option Elab.async false
set_option linter.all false
set_option maxRecDepth 100000
set_option maxHeartbeats 1000000
namespace L2
open PySem PySem.Spec PyProof.Rows PySem.Calls
open PySem.W (hideAll of_hideAll hideAll_get hideAll_none funFrames_hide)
noncomputable def ExP (C t : Addr) (o : Obj) : Prop := o.cls = .ref C ∧ ∃ vs, o.data = .fields vs ∧ vs[0]? = some (.ref t) ∧ vs[2]? = some .none
theorem ExP.old {C t : Addr} : ∀ o, ExP C t o → o.cls = .ref C ∧ ∀ vs, o.data = .fields vs → vs[0]? = some (.ref t) := fun o ⟨h1, vs, h2, h3, _⟩ => ⟨h1, fun ws z => by
  cases h2.symm.trans z
  exact h3⟩
noncomputable def ExA (C t : Addr) (o : Obj) : Prop := o.cls = .ref C ∧ ∃ vs, o.data = .fields vs ∧ vs[0]? = some (.ref t)
theorem ExA.old {C t : Addr} : ∀ o, ExA C t o → o.cls = .ref C ∧ ∀ vs, o.data = .fields vs → vs[0]? = some (.ref t) := fun o ⟨h1, vs, h2, h3⟩ => ⟨h1, fun ws z => by
  cases h2.symm.trans z
  exact h3⟩
section
variable {X : Cx} {E : XK}
end
end L2
set_option Elab.async false
set_option linter.all false
set_option maxRecDepth 100000
set_option maxHeartbeats 1000000
namespace L2
open PySem PySem.Spec PyProof.Rows PySem.Calls
section
variable {prog : Program} {w : World} {A : Around} {E : Value → Shared → Prop} {s : Shared} {env : Env}
end
section
variable {X : Cx} {E : XK}
end
end L2
set_option Elab.async false
set_option linter.all false
set_option maxRecDepth 100000
set_option maxHeartbeats 1000000
namespace L2
open PySem PySem.Spec PyProof.Rows PySem.Calls
section
variable {X : Cx} {E : XK} {k : Nat} {f : Addr} {fd : FuncData} {ps : List Str} {sp : Sp} {g y x2 : Str} {p np np2 cpos cpos2 spos hpos pos p9 rpos : Pos} {j : Nat} {e₀ a₀ : Expr} {es as : List Expr} {t t2 : TA} {Dc C2 : Addr}
end
end L2
set_option Elab.async false
set_option linter.all false
set_option maxRecDepth 100000
set_option maxHeartbeats 1000000
namespace L2
open PySem PySem.Spec PyProof.Rows PySem.Calls
section
variable {prog : Program} {w : World} {A : Around} {E : Value → Shared → Prop} {s : Shared} {a : Addr} {oa : Obj} {x : Value} {l : List Value} {na : Nat} {ts : List Str}
end
section
variable {X : Cx} {e : Expr} {ta : TE} {c : Str} {j : Nat} {p1 p2 pos : Pos}
end
end L2
set_option Elab.async false
set_option linter.all false
set_option maxRecDepth 100000
set_option maxHeartbeats 1000000
namespace L2
open PySem PySem.Spec PyProof.Rows PySem.Calls
open PySem.W
section
variable {X : Cx} {pins : List (Addr × Obj)} {σ : St} {H : Hp} {s : Shared} {e C d : Addr} {f : Str} {v : V} {u : Value} {A : Around} {E : Value → Shared → Prop} {arr : Array Value}
end
noncomputable def ExQ (C t d : Addr) (o : Obj) : Prop := ∃ vs sl, o = ⟨.ref C, some d, .fields vs, sl⟩ ∧ vs[0]? = some (.ref t)
theorem ExQ.old {C t d : Addr} : ∀ o, ExQ C t d o → o.cls = .ref C ∧ ∀ vs, o.data = .fields vs → vs[0]? = some (.ref t) := fun o ⟨vs, sl, h1, h2⟩ => by
  subst h1
  exact ⟨rfl, fun ws z => by cases z; exact h2⟩
section
variable {X : Cx} {E : XK}
end
end L2
set_option Elab.async false
set_option linter.all false
set_option maxRecDepth 100000
set_option maxHeartbeats 1000000
namespace L2
open PySem PySem.Spec PyProof.Rows PySem.Calls
open PySem.W (hideAll of_hideAll hideAll_get hideAll_none funFrames_hide)
section
variable {X : Cx} {E : XK}
end
section
variable {prog : Program} {w : World} {A : Around} {E : Value → Shared → Prop} {s : Shared} {env : Env} {x : Sem Value} {Q : Flow → Shared → Prop} {C : Addr}
end
section
variable {X : Cx} {E : XK} {x : Str} {C f : Addr} {k : Nat} {fd : FuncData} {ps : List Str} {sp : Sp} {np cpos pos : Pos} {e₀ : Expr} {es : List Expr} {t : TA}
end
end L2
set_option Elab.async false
set_option linter.all false
set_option maxRecDepth 100000
set_option maxHeartbeats 1000000
namespace L2
open PySem PySem.Spec PyProof.Rows PySem.Calls
section
variable {X : Cx} {k : Nat} {f : Addr} {fd : FuncData} {ps : List Str} {sp : Sp} {g y n : Str} {p np cpos spos hpos pos : Pos} {e₀ : Expr} {es : List Expr} {t : TA} {b₀ : Stmt} {suite : List Stmt} {j : Nat} {Dc : Addr} {ts : TS}
end
end L2
set_option Elab.async false
set_option linter.all false
set_option maxRecDepth 100000
set_option maxHeartbeats 1000000
namespace L2
open PySem PySem.Spec PyProof.Rows PySem.Calls
section
variable {X : Cx}
end
end L2
set_option Elab.async false
set_option linter.all false
namespace L2
open PySem
theorem hideG {G0 : Prop} (h : ∀ G : Prop, (G0 → G) → G) : G0 := h G0 fun z => z
theorem len1 {α : Type} {P : List α → Prop} (h : ∀ a, P [a]) : ∀ us : List α, us.length = 1 → P us
  | [a], _ => h a
theorem len2 {α : Type} {P : List α → Prop} (h : ∀ a b, P [a, b]) : ∀ us : List α, us.length = 2 → P us
  | [a, b], _ => h a b
theorem len3 {α : Type} {P : List α → Prop} (h : ∀ a b c, P [a, b, c]) : ∀ us : List α, us.length = 3 → P us
  | [a, b, c], _ => h a b c
theorem len5 {α : Type} {P : List α → Prop} (h : ∀ a b c d e, P [a, b, c, d, e]) : ∀ us : List α, us.length = 5 → P us
  | [a, b, c, d, e], _ => h a b c d e
theorem for_rangeA {lo : Int} {n : Nat} {g : TG} {tb : TS} {D : Ends} {σ : St} {H : Hp} (Pv : Nat → St → Hp → Prop) (h0 : Pv 0 σ H)
    (hs : ∀ i σ H, i < n → Pv i σ H → ∀ (N b : St → Hp → Prop) (r : VK), (∀ σ H, Pv (i + 1) σ H → N σ H) → g (.int (lo + i)) σ H fun σ2 H2 => tb { nx := N, rt := r, bk := b, ct := N } σ2 H2) (hd : ∀ σ H, Pv n σ H → D.nx σ H) :
    ∃ W : Nat → Nat → St → Hp → Prop, (∃ m, W 0 m σ H) ∧ ∀ i m σ H, W i m σ H →
      ((Itr lo n).stop i H ∧ D.nx σ H) ∨ ((Itr lo n).go i H ∧ ∃ N : St → Hp → Prop, (∀ σ' H', N σ' H' → ∃ m', m' < m ∧ W (i + 1) m' σ' H') ∧ ∀ x H', (Itr lo n).yld i H x H' → g x σ H' fun σ2 H2 => tb { D with nx := N, ct := N, bk := D.nx } σ2 H2) :=
  for_range Pv h0 (fun i σ H hi p => hs i σ H hi p _ _ _ fun _ _ z => z) hd
theorem walk_X {q : Program} {loose : List Str} {XP : (Str → Option Value) → Heap → Prop} {K : Params → PySem.W.Frag} {as : List Addr} {n t : Nat} {r : PySem.W.RowW} {d : DefRec} {kwd : List (Str × Expr)} {run : Value → List Value → Sem Value}
    (e : ∀ P, as = (K P).map (·.1)) (W : PySem.W.WalkO q loose XP (PySem.W.InK K) r d kwd run) : PySem.W.WalkX q loose XP (PySem.W.X.obsZ as) (PySem.W.X.valZ K n t) r d kwd run :=
  fun w s₀ s₁ mg mb G y a o pm cd doc dV kV e1 e2 e3 e4 e5 e6 args vals as L p l R W' nn =>
    W w s₀ s₁ mg mb G (PySem.W.InK.keeps w _ _ (PySem.W.X.z_facts e y).2.1 L.keeps) a o pm cd doc dV kV e1 e2 e3 e4 e5 e6 args vals as p l R W' nn
end L2
set_option Elab.async false
set_option linter.all false
namespace L2
open PySem
noncomputable def noT (K : PySem.W.Frag) : PySem.W.Frag := K.filter fun p => match p.2.cls, p.2.data with
  | .none, .fields _ => false
  | _, _ => true
theorem noT_ok (K : PySem.W.Frag) : PySem.W.noTabs (noT K) = true := by
  unfold PySem.W.noTabs noT
  rw [List.all_eq_true]
  intro p hp
  exact (List.mem_filter.mp hp).2
noncomputable def nodB : List Nat → Bool
  | [] => true
  | a :: r => r.all (fun b => !(Nat.beq a b)) && nodB r
theorem lookup_mem {a : Addr} {o : Obj} : ∀ {K : PySem.W.Frag}, K.lookup a = some o → (a, o) ∈ K
  | (b, u) :: r, h => by
    rw [List.lookup_cons] at h
    by_cases e : (a == b) = true
    · rw [e] at h
      cases h
      rw [eq_of_beq e]
      exact List.mem_cons_self
    · rw [Bool.eq_false_iff.mpr e] at h
      exact List.mem_cons_of_mem _ (lookup_mem h)
theorem mem_lookup {a : Addr} {o : Obj} : ∀ {K : PySem.W.Frag}, nodB (K.map (·.1)) = true → (a, o) ∈ K → K.lookup a = some o
  | (b, u) :: r, hn, h => by
    rw [List.lookup_cons]
    rw [List.map_cons] at hn
    have hn' := Bool.and_eq_true_iff.mp hn
    rcases List.mem_cons.mp h with e | e
    · cases e
      rw [beq_self_eq_true]
    · have hb : (a == b) = false := by
        rw [beq_eq_false_iff_ne]
        intro z
        have := List.all_eq_true.mp hn'.1 a (List.mem_map_of_mem e)
        rw [z, show Nat.beq b b = true from Nat.beq_refl b] at this
        cases this
      rw [hb]
      exact mem_lookup hn'.2 e
theorem in_noT {K : PySem.W.Frag} {h : Heap} (hn : nodB (K.map (·.1)) = true) (X : K.In h) : (noT K).In h := fun a o e =>
  X a o (mem_lookup hn (List.mem_filter.mp (lookup_mem e)).1)
theorem ns_tr {K : PySem.W.Frag} {m : Addr} {x : Str} {r : Option (Option Value)} (e : PySem.W.nsIn (noT K) m x = PySem.W.nsIn K m x) (h : PySem.W.nsIn K m x = r) : PySem.W.nsIn (noT K) m x = r := e.trans h
theorem fi_tr {K : PySem.W.Frag} {m : Value} {x : Str} {r : Option (Option Value)} (e : PySem.W.findIn (noT K) m x = PySem.W.findIn K m x) (h : PySem.W.findIn K m x = r) : PySem.W.findIn (noT K) m x = r := e.trans h
theorem lk_tr {K : PySem.W.Frag} {a : Addr} {r : Option Obj} (e : (noT K).lookup a = K.lookup a) (h : K.lookup a = r) : (noT K).lookup a = r := e.trans h
theorem cd_tr {K : PySem.W.Frag} {c : Value} {x : Str} (e : PySem.W.codeIn (noT K) c x = PySem.W.codeIn K c x) (h : PySem.W.codeIn K c x = true) : PySem.W.codeIn (noT K) c x = true := e.trans h
theorem kp_tr {K : PySem.W.Frag} {c : Value} (e : PySem.W.keepIn (noT K) c = PySem.W.keepIn K c) (h : PySem.W.keepIn K c = true) : PySem.W.keepIn (noT K) c = true := e.trans h
end L2
set_option Elab.async false
set_option linter.all false
namespace L2
open PySem
theorem cxK {CX : CXT} {P : Program} {w : World} {K : PySem.W.Frag} {mg : Str → Option Value} {base : Heap} {N : List Str} {qual : Str} {scope : Scope} {f : Addr} {cd : Value} {A : Around} {outer : List Env} {s : Shared} {H : Hp} {E : XK} : (cxOf CX P w K mg base N qual scope f cd A outer s H E).nox.K = K := rfl
theorem cxK2 {CX : CXT} {P : Program} {w : World} {K : PySem.W.Frag} {mg : Str → Option Value} {base : Heap} {N : List Str} {qual : Str} {scope : Scope} {f : Addr} {cd : Value} {A : Around} {outer : List Env} {s : Shared} {H : Hp} {E : XK} : (cxOf CX P w K mg base N qual scope f cd A outer s H E).K = K := rfl
theorem let2 {s1 s2 : TS} {D : Ends} {σ : St} {H : Hp} (h : let U1 := s2; tSeq s1 U1 D σ H) : tSeq s1 s2 D σ H := h
theorem let3 {s1 s2 s3 : TS} {D : Ends} {σ : St} {H : Hp} (h : let U2 := s3; let U1 := tSeq s2 U2; tSeq s1 U1 D σ H) : tSeq s1 (tSeq s2 s3) D σ H := h
theorem let4 {s1 s2 s3 s4 : TS} {D : Ends} {σ : St} {H : Hp} (h : let U3 := s4; let U2 := tSeq s3 U3; let U1 := tSeq s2 U2; tSeq s1 U1 D σ H) : tSeq s1 (tSeq s2 (tSeq s3 s4)) D σ H := h
theorem let5 {s1 s2 s3 s4 s5 : TS} {D : Ends} {σ : St} {H : Hp} (h : let U4 := s5; let U3 := tSeq s4 U4; let U2 := tSeq s3 U3; let U1 := tSeq s2 U2; tSeq s1 U1 D σ H) : tSeq s1 (tSeq s2 (tSeq s3 (tSeq s4 s5))) D σ H := h
theorem let6 {s1 s2 s3 s4 s5 s6 : TS} {D : Ends} {σ : St} {H : Hp} (h : let U5 := s6; let U4 := tSeq s5 U5; let U3 := tSeq s4 U4; let U2 := tSeq s3 U3; let U1 := tSeq s2 U2; tSeq s1 U1 D σ H) : tSeq s1 (tSeq s2 (tSeq s3 (tSeq s4 (tSeq s5 s6)))) D σ H := h
theorem let7 {s1 s2 s3 s4 s5 s6 s7 : TS} {D : Ends} {σ : St} {H : Hp} (h : let U6 := s7; let U5 := tSeq s6 U6; let U4 := tSeq s5 U5; let U3 := tSeq s4 U4; let U2 := tSeq s3 U3; let U1 := tSeq s2 U2; tSeq s1 U1 D σ H) : tSeq s1 (tSeq s2 (tSeq s3 (tSeq s4 (tSeq s5 (tSeq s6 s7))))) D σ H := h
theorem let8 {s1 s2 s3 s4 s5 s6 s7 s8 : TS} {D : Ends} {σ : St} {H : Hp} (h : let U7 := s8; let U6 := tSeq s7 U7; let U5 := tSeq s6 U6; let U4 := tSeq s5 U5; let U3 := tSeq s4 U4; let U2 := tSeq s3 U3; let U1 := tSeq s2 U2; tSeq s1 U1 D σ H) : tSeq s1 (tSeq s2 (tSeq s3 (tSeq s4 (tSeq s5 (tSeq s6 (tSeq s7 s8)))))) D σ H := h
theorem let9 {s1 s2 s3 s4 s5 s6 s7 s8 s9 : TS} {D : Ends} {σ : St} {H : Hp} (h : let U8 := s9; let U7 := tSeq s8 U8; let U6 := tSeq s7 U7; let U5 := tSeq s6 U6; let U4 := tSeq s5 U5; let U3 := tSeq s4 U4; let U2 := tSeq s3 U3; let U1 := tSeq s2 U2; tSeq s1 U1 D σ H) : tSeq s1 (tSeq s2 (tSeq s3 (tSeq s4 (tSeq s5 (tSeq s6 (tSeq s7 (tSeq s8 s9))))))) D σ H := h
theorem let11 {s1 s2 s3 s4 s5 s6 s7 s8 s9 s10 s11 : TS} {D : Ends} {σ : St} {H : Hp} (h : let U10 := s11; let U9 := tSeq s10 U10; let U8 := tSeq s9 U9; let U7 := tSeq s8 U8; let U6 := tSeq s7 U7; let U5 := tSeq s6 U6; let U4 := tSeq s5 U5; let U3 := tSeq s4 U4; let U2 := tSeq s3 U3; let U1 := tSeq s2 U2; tSeq s1 U1 D σ H) : tSeq s1 (tSeq s2 (tSeq s3 (tSeq s4 (tSeq s5 (tSeq s6 (tSeq s7 (tSeq s8 (tSeq s9 (tSeq s10 s11))))))))) D σ H := h
end L2
set_option Elab.async false
set_option linter.all false
set_option maxRecDepth 100000
set_option maxHeartbeats 3200000
namespace ZpT
open PySem PySem.Spec PyProof.Rows
noncomputable abbrev IsTrip (h : Heap) (T : Addr) (a b c : Value) : Prop := h.get? T = some { cls := .type "tuple", data := .seq #[a, b, c] }
structure Ap3 (z TI TO i1 i2 i3 : Addr) : Prop where
  TIz : TI ≠ z
  TOz : TO ≠ z
  i1z : i1 ≠ z
  i2z : i2 ≠ z
  i3z : i3 ≠ z
  TITO : TI ≠ TO
  TIi1 : TI ≠ i1
  TIi2 : TI ≠ i2
  TIi3 : TI ≠ i3
  TOi1 : TO ≠ i1
  TOi2 : TO ≠ i2
  TOi3 : TO ≠ i3
  i12 : i1 ≠ i2
  i13 : i1 ≠ i3
  i23 : i2 ≠ i3
structure Of3 (z TO i1 i2 i3 l : Addr) : Prop where
  z : l ≠ z
  o : l ≠ TO
  i : l ≠ i1
  j : l ≠ i2
  m : l ≠ i3
structure St3 (z TI TO i1 i2 i3 l1 l2 l3 : Addr) (k : Nat) (h : Heap) : Prop where
  z : ∃ f0 fb, h.get? z = some (zO f0 fb TI TO) ∧ F0 f0
  I : IsTrip h TI (.ref i1) (.ref i2) (.ref i3)
  O : ∃ a b c, IsTrip h TO a b c
  n1 : IterAt false h i1 l1 k
  n2 : IterAt false h i2 l2 k
  n3 : IterAt false h i3 l3 k
section
variable {prog : Program} {w : World} {A : Around} {E : Value → Shared → Prop} {s : Shared}
end
end ZpT
set_option Elab.async false
set_option linter.all false
set_option maxRecDepth 100000
set_option maxHeartbeats 1000000
namespace L2
open PySem PySem.Spec PyProof.Rows
section
variable {X : Cx} {S scope : Scope} {N : List Str} {x x2 x3 : Str} {ys : List Str} {is : List Nat} {pins : List (Addr × Obj)} {σ : St} {H₂ : Hp} {s₂ : Shared} {fp : List Addr} {elt iter : Expr} {px px2 px3 pp pos : Pos} {pq : Nat} {ifs : List Expr} {tc : TT} {te : TE} {wi : TI}
end
end L2
set_option Elab.async false
set_option linter.all false
set_option maxRecDepth 100000
set_option maxHeartbeats 3200000
namespace ZpT
open PySem PySem.Spec PyProof.Rows
section
variable {prog : Program} {w : World} {A : Around} {E : Value → Shared → Prop} {s : Shared}
end
end ZpT
set_option Elab.async false
set_option linter.all false
set_option maxRecDepth 100000
set_option maxHeartbeats 3200000
namespace L2
open PySem PySem.Spec PyProof.Rows
open ZpT (St3 Ap3 Of3 SeqAt IterAt)
section
variable {X : Cx} {e1 e2 e3 : Expr} {t : TA} {p pos : Pos}
end
end L2
set_option Elab.async false
set_option linter.all false
set_option maxRecDepth 100000
namespace L2
open PySem PySem.Spec PyProof.Rows
end L2
set_option Elab.async false
set_option linter.all false
set_option maxRecDepth 100000
set_option maxHeartbeats 1000000
namespace L2
open PySem PySem.Spec PyProof.Rows
end L2
set_option Elab.async false
set_option linter.all false
set_option maxRecDepth 100000
set_option maxHeartbeats 1000000
namespace L2
open PySem PySem.Spec PyProof.Rows
section
variable {prog : Program} {w : World} {A : Around} {s : Shared}
end
section
variable {X : Cx}
theorem ints_at {xs : List Int} {its : List Value} (r : Vals (xs.map V.int) its) : ∀ (j : Nat) (x : Int), xs[j]? = some x → ∃ t, its.toArray[j]? = some (Value.int x t) := by
  intro j x hx
  obtain ⟨u, hu, ru⟩ := r.get (i := j) (x := .int x) (by rw [List.getElem?_map, hx]; rfl)
  obtain ⟨t, rfl⟩ := ru
  exact ⟨t, by rw [List.getElem?_toArray]; exact hu⟩
end
end L2
set_option Elab.async false
set_option linter.all false
set_option maxRecDepth 100000
set_option maxHeartbeats 1000000
namespace L2
open PySem PySem.Spec PyProof.Rows
noncomputable def b2i (b : Bool) : Int := if b = true then 1 else 0
noncomputable def bitIs (k : Int) : Value → Bool
  | .int i _ => i == k
  | .bool b => b2i b == k
  | _ => false
theorem bitIs_shape {k : Int} {v : Value} (h : bitIs k v = true) : (∃ t, v = .int k t) ∨ ∃ b, v = .bool b ∧ k = b2i b := by
  cases v with
  | int i t => exact .inl ⟨t, by rw [show i = k from eq_of_beq h]⟩
  | bool b => exact .inr ⟨b, rfl, (eq_of_beq h).symm⟩
  | _ => cases h
section
variable {prog : Program} {w : World}
theorem pyHash_bool {A : Around} {E : Value → Shared → Prop} {s : Shared} {b : Bool} {Q : Int → Shared → Prop} (h : Q (hashInt (b2i b)) { s with toks := s.toks + 1 }) : wpAny (model prog w) A (pyHash (.bool b)) Q E s := by
  show wpAny _ _ (pyHashByItsType (.bool b)) _ _ s
  refine PySem.W.pyHash_slot (T := "bool") (id := "int.__hash__") (B := Builtin.«int.__hash__») rfl F.slot_bool_hash F.entry_int_hash (F.args_int_hash_1 _) (by decide +kernel) (.inl rfl) ?_
  cases b
  · exact wpAny_bind (wpAny_of_eq (a := (Value.bool false, (0 : Int))) rfl (wpAny_bind (wpAny_mkInt (wpAny_pure ⟨0, _, rfl, h⟩))))
  · exact wpAny_bind (wpAny_of_eq (a := (Value.bool true, (1 : Int))) rfl (wpAny_bind (wpAny_mkInt (wpAny_pure ⟨1, _, rfl, h⟩))))
end
theorem dec_eq (a b : Int) : decide (a = b) = (a == b) := by
  by_cases e : a = b
  · rw [decide_eq_true e, e, beq_self_eq_true]
  · rw [decide_eq_false e, beq_eq_false_iff_ne.mpr e]
noncomputable def bitKind (prog : Program) (w : World) : KeyKind prog w Int where
  is := bitIs
  hash := hashInt
  inj := fun v a b ha hb => by
    rcases bitIs_shape ha with ⟨t, rfl⟩ | ⟨x, rfl, rfl⟩
    · exact (eq_of_beq (show (a == b) = true from hb))
    · exact (eq_of_beq (show (b2i x == b) = true from hb))
  byValue := fun k v h => by
    rcases bitIs_shape h with ⟨t, rfl⟩ | ⟨x, rfl, rfl⟩ <;> rfl
  pyHash := fun hv h => by
    rcases bitIs_shape hv with ⟨t, rfl⟩ | ⟨x, rfl, rfl⟩
    · exact wpAny_pyHash_int h
    · exact pyHash_bool h
  eqBool := fun hu hv h => by
    rw [dec_eq] at h
    rcases bitIs_shape hu with ⟨t, rfl⟩ | ⟨x, rfl, rfl⟩
    · rcases bitIs_shape hv with ⟨u, rfl⟩ | ⟨y, rfl, rfl⟩
      · exact wpAny_eqBool_int h
      · exact SeqAt.EqAt.int_bool _ t y _ _ _ _ h
    · rcases bitIs_shape hv with ⟨u, rfl⟩ | ⟨y, rfl, rfl⟩
      · exact SeqAt.EqAt.bool_int x _ u _ _ _ _ h
      · refine SeqAt.EqAt.bool_bool x y _ _ _ _ ?_
        have e : (b2i x == b2i y) = (x == y) := by cases x <;> cases y <;> rfl
        rw [e] at h
        exact h
  «strs» := fun k x t v h => by cases h
end L2
set_option Elab.async false
set_option linter.all false
set_option maxRecDepth 100000
set_option maxHeartbeats 1000000
namespace L2
open PySem PySem.Spec PyProof.Rows
section
variable {prog : Program} {w : World}
noncomputable def IsPair (prog : Program) (w : World) (h : Heap) (k : Int × List Int) (a : Addr) : Prop :=
  ∃ o n t tk, h.get? a = some o ∧ o.cls = .type "tuple" ∧ o.data = .seq #[.int k.1 tk, .ref t] n ∧ IsTupleKey (bitKind prog w) h k.2 t
noncomputable def pairHash (prog : Program) (w : World) (k : Int × List Int) : Int := reduceHash (Builtin.Tuple.tupleHashOf [hashInt k.1, tupleKeyHash (bitKind prog w) k.2])
theorem IsPair.inj {h : Heap} {a : Addr} {x y : Int × List Int} (p : IsPair prog w h x a) (q : IsPair prog w h y a) : x = y := by
  obtain ⟨o, n, t, tk, e, c, d, k⟩ := p
  obtain ⟨o', n', t', tk', e', c', d', k'⟩ := q
  rw [e] at e'
  cases e'
  rw [d] at d'
  injection d' with d1 d2
  have d3 := congrArg Array.toList d1
  injection d3 with d4 d5
  injection d4 with d6 _
  injection d5 with d7 _
  injection d7 with d8
  subst d8
  have := (tupleKind (bitKind prog w)).inj k k'
  exact Prod.ext d6 this
theorem IsPair.keeps {h h' : Heap} {k : Int × List Int} {a d : Addr} {o : Obj} {es : Array DictEntry} {ep : Nat} (p : IsPair prog w h k a) (e : h.get? d = some o) (hd : o.data = .dict es ep) (s : Heap.SameBut d h h') : IsPair prog w h' k a := by
  obtain ⟨o1, n, t, tk, e1, c1, d1, k1⟩ := p
  have hne : a ≠ d := fun z => by
    rw [z, e] at e1
    cases e1
    rw [hd] at d1
    cases d1
  exact ⟨o1, n, t, tk, (s.2 a hne).trans e1, c1, d1, (tupleKind (bitKind prog w)).keeps k1 e hd s⟩
theorem IsPair.pyHash {A : Around} {E : Value → Shared → Prop} {s : Shared} {k : Int × List Int} {a : Addr} {Q : Int → Shared → Prop} (hu : A.units + 1 < cLine) (p : IsPair prog w s.heap k a)
    (h : Q (pairHash prog w k) { s with toks := s.toks + (k.2.length + 3) }) : wpAny (model prog w) A (PySem.pyHash (.ref a)) Q E s := by
  obtain ⟨o, n, t, tk, e, c, d, kt⟩ := p
  show wpAny _ _ (pyHashByItsType (.ref a)) _ _ s
  refine PySem.W.pyHash_slot (T := "tuple") (id := "tuple.__hash__") (B := Builtin.«tuple.__hash__») ⟨o, e, c⟩ F.slot_tuple_hash F.entry_tuple_hash (F.args_tuple_hash_1 _) (by decide +kernel) (.inr (by omega)) ?_
  unfold Builtin.«tuple.__hash__»
  refine wpAny_bind (wpAny_of_eq (a := (Value.ref a, [])) rfl ?_)
  try dsimp only
  refine wpAny_bind (wpAny_tupleItemsOf e d ?_)
  refine wpAny_bind (wpAny_forIn_array' _ (fun rest hs s' => (rest = [.int k.1 tk, .ref t] ∧ hs = #[] ∧ s' = s) ∨ (rest = [.ref t] ∧ hs = #[hashInt k.1] ∧ s' = { s with toks := s.toks + 1 }) ∨ (rest = [] ∧ hs = #[hashInt k.1, tupleKeyHash (bitKind prog w) k.2] ∧ s' = { s with toks := s.toks + 1 + (k.2.length + 1) })) _ ?_ ?_ _ _ (.inl ⟨rfl, rfl, rfl⟩))
  · rintro x rest b s' (⟨e1, rfl, rfl⟩ | ⟨e1, rfl, rfl⟩ | ⟨e1, _, _⟩)
    · cases e1
      exact wpAny_bind (wpAny_pyHash_int (wpAny_pure (.inr (.inl ⟨rfl, rfl, rfl⟩))))
    · cases e1
      refine wpAny_bind (wpAny_pyHash_tuple (knd := bitKind prog w) (ks := k.2) (s := { s with toks := s.toks + 1 }) (by show A.units + 1 < cLine; exact hu) kt (wpAny_pure (.inr (.inr ⟨rfl, rfl, rfl⟩))))
    · cases e1
  · rintro b s' (⟨e1, _, _⟩ | ⟨e1, _, _⟩ | ⟨_, rfl, rfl⟩)
    · cases e1
    · cases e1
    · refine wpAny_bind (wpAny_mkInt (wpAny_pure ⟨_, _, rfl, ?_⟩))
      have e5 : s.toks + 1 + (k.2.length + 1) + 1 = s.toks + (k.2.length + 3) := by omega
      show Q (pairHash prog w k) { s with toks := s.toks + 1 + (k.2.length + 1) + 1 }
      rw [e5]
      exact h
theorem _root_.PySem.IsTupleKey.any {h : Heap} {ks : List Int} {a : Addr} (k : IsTupleKey (bitKind prog w) h ks a) (prog' : Program) (w' : World) : IsTupleKey (bitKind prog' w') h ks a := by
  obtain ⟨o, items, n, e, c, d, it⟩ := k
  have go : ∀ {ks : List Int} {vs : List Value}, ItemsAre (bitKind prog w) ks vs → ItemsAre (bitKind prog' w') ks vs := by
    intro ks vs hh
    induction hh with
    | nil => exact .nil
    | cons h1 _ ih => exact .cons h1 ih
  exact ⟨o, items, n, e, c, d, go it⟩
theorem IsPair.eqBool {A : Around} {E : Value → Shared → Prop} {s : Shared} {x y : Int × List Int} {a b : Addr} {Q : Bool → Shared → Prop} (hu : A.units + 1 < cLine) (p : IsPair prog w s.heap x a) (q : IsPair prog w s.heap y b)
    (h : Q (decide (x = y)) s) : wpAny (model prog w) A (PySem.eqBool (.ref a) (.ref b)) Q E s := by
  by_cases hab : a = b
  · subst hab
    have := p.inj q
    rw [decide_eq_true this] at h
    exact SeqAt.EqAt.same (.ref a) prog w E Q h
  · obtain ⟨o, n, t, tk, e, c, d, kt⟩ := p
    obtain ⟨o', n', t', tk', e', c', d', kt'⟩ := q
    have it : ∀ j (h1 : j < (#[Value.int x.1 tk, .ref t]).size) (h2 : j < (#[Value.int y.1 tk', .ref t']).size), SeqAt.EqAt A.in1 s (#[Value.int x.1 tk, .ref t])[j] (#[Value.int y.1 tk', .ref t'])[j] (if j = 0 then x.1 == y.1 else decide (x.2 = y.2)) := by
      intro j h1 h2
      match j, h1, h2 with
      | 0, _, _ => exact SeqAt.EqAt.int_int x.1 tk y.1 tk'
      | 1, _, _ => exact fun prog' w' E' Q' h' => wpAny_eqBool_tuple (knd := bitKind prog' w') (by show A.units + 1 < cLine; exact hu) (kt.any prog' w') (kt'.any prog' w') h'
    have r := SeqAt.RcAt.tuples (A := A) (s := s) (e := fun j => if j = 0 then x.1 == y.1 else decide (x.2 = y.2)) ⟨o, e, c, n, d⟩ ⟨o', e', c', n', d'⟩ (by omega) it
    have ee : ((List.range (min (#[Value.int x.1 tk, .ref t]).size (#[Value.int y.1 tk', .ref t']).size)).all (fun j => if j = 0 then x.1 == y.1 else decide (x.2 = y.2)) && (#[Value.int x.1 tk, .ref t]).size == (#[Value.int y.1 tk', .ref t']).size) = decide (x = y) := by
      show ((x.1 == y.1) && (decide (x.2 = y.2) && true) && true) = decide (x = y)
      rw [Bool.and_true, Bool.and_true, ← dec_eq]
      by_cases h1 : x.1 = y.1
      · by_cases h2 : x.2 = y.2
        · rw [decide_eq_true h1, decide_eq_true h2, decide_eq_true (Prod.ext h1 h2)]
          rfl
        · rw [decide_eq_false h2, Bool.and_false, decide_eq_false fun z => h2 (by rw [z])]
      · rw [decide_eq_false h1, Bool.false_and, decide_eq_false fun z => h1 (by rw [z])]
    rw [ee] at r
    exact SeqAt.EqAt.of_refs hab r prog w E Q h
theorem quiet_bits {A : Around} {E : Value → Shared → Prop} {s : Shared} {ks : List Int} {a : Addr} {Q : Bool → Shared → Prop} (m : Nat) (k : IsTupleKey (bitKind prog w) s.heap ks a) (h : Q true s) : wpAny (model prog w) A (eqIsQuiet (m + 1) (.ref a)) Q E s := by
  obtain ⟨o, items, n, e, c, d, it⟩ := k
  rw [eqIsQuiet.eq_2]
  have hT : s.TypeIs (.ref a) "tuple" := ⟨o, e, c⟩
  refine wpAny_bind (wpAny_specialOf hT F.slot_tuple_eq.lookup ?_)
  refine wpAny_bind (wpAny_isInstance (T := "tuple") (b := true) hT (by rw [isSubtype_type]; kernel_rfl) ?_)
  rw [if_neg (by decide)]
  refine wpAny_bind (wpAny_seqItems e d ?_)
  refine wpAny_bind (wpAny_forIn_array' _ (fun rest b s' => (∀ v ∈ rest, carriedByValue v = true) ∧ b = (none, ()) ∧ s' = s) _ ?_ ?_ _ _ ⟨fun v hv => ?_, rfl, rfl⟩)
  · rintro x rest b s' ⟨hv, rfl, rfl⟩
    refine wpAny_bind ?_
    rw [eqIsQuiet_byValue m (hv x List.mem_cons_self)]
    exact wpAny_pure (wpAny_pure ⟨fun v hm => hv v (List.mem_cons_of_mem _ hm), rfl, rfl⟩)
  · rintro b s' ⟨_, rfl, rfl⟩
    exact wpAny_pure h
  · have go : ∀ {ks : List Int} {vs : List Value}, ItemsAre (bitKind prog w) ks vs → ∀ v ∈ vs, carriedByValue v = true := by
      intro ks vs hh
      induction hh with
      | nil => exact fun v hv => nomatch hv
      | cons h1 _ ih =>
        intro v hv
        rcases List.mem_cons.mp hv with rfl | hv
        · exact (bitKind prog w).byValue _ _ h1
        · exact ih v hv
    exact go it v hv
theorem IsPair.quiet {A : Around} {E : Value → Shared → Prop} {s : Shared} {k : Int × List Int} {a : Addr} {Q : Bool → Shared → Prop} (p : IsPair prog w s.heap k a) (h : Q true s) : wpAny (model prog w) A (eqIsQuiet 8 (.ref a)) Q E s := by
  obtain ⟨o, n, t, tk, e, c, d, kt⟩ := p
  rw [eqIsQuiet.eq_2]
  have hT : s.TypeIs (.ref a) "tuple" := ⟨o, e, c⟩
  refine wpAny_bind (wpAny_specialOf hT F.slot_tuple_eq.lookup ?_)
  refine wpAny_bind (wpAny_isInstance (T := "tuple") (b := true) hT (by rw [isSubtype_type]; kernel_rfl) ?_)
  rw [if_neg (by decide)]
  refine wpAny_bind (wpAny_seqItems e d ?_)
  refine wpAny_bind (wpAny_forIn_array' _ (fun rest b s' => (rest = [.int k.1 tk, .ref t] ∨ rest = [.ref t] ∨ rest = []) ∧ b = (none, ()) ∧ s' = s) _ ?_ ?_ _ _ ⟨.inl rfl, rfl, rfl⟩)
  · rintro x rest b s' ⟨hr, rfl, rfl⟩
    rcases hr with e1 | e1 | e1
    · cases e1
      refine wpAny_bind ?_
      rw [eqIsQuiet_byValue 7 rfl]
      exact wpAny_pure (wpAny_pure ⟨.inr (.inl rfl), rfl, rfl⟩)
    · cases e1
      exact wpAny_bind (quiet_bits 6 kt (wpAny_pure ⟨.inr (.inr rfl), rfl, rfl⟩))
    · cases e1
  · rintro b s' ⟨_, rfl, rfl⟩
    exact wpAny_pure h
end
noncomputable def pairKind (prog : Program) (w : World) : HeapKind prog w (Int × List Int) where
  is := IsPair prog w
  hash := pairHash prog w
  draws := fun k => k.2.length + 3
  room := fun A => A.units + 1 < cLine
  inj := fun p q => p.inj q
  keeps := fun p e hd s => p.keeps e hd s
  pyHash := fun hu p h => p.pyHash hu h
  eqBool := fun hu p q h => p.eqBool hu q h
  quiet := fun p h => p.quiet h
end L2
set_option Elab.async false
set_option linter.all false
set_option maxRecDepth 100000
set_option maxHeartbeats 1000000
namespace L2
open PySem PySem.Spec PyProof.Rows
section
variable {prog : Program} {w : World} {K : Type} [DecidableEq K]
theorem atKey_at {xs : List (K × Addr × Value)} {k : K} {j : Nat} {p : Addr × Value} (hn : (xs.map (·.1)).Nodup) (h : xs[j]? = some (k, p)) : atKey xs k = some p := by
  unfold atKey
  induction xs generalizing j with
  | nil => cases h
  | cons x r ih =>
    rw [List.map_cons, List.nodup_cons] at hn
    rw [List.find?_cons]
    cases j with
    | zero =>
      rw [List.getElem?_cons_zero] at h
      cases h
      rw [decide_eq_true rfl]
      rfl
    | succ j =>
      rw [List.getElem?_cons_succ] at h
      have hm : k ∈ r.map (·.1) := List.mem_map.mpr ⟨_, List.mem_of_getElem? h, rfl⟩
      rw [decide_eq_false fun z => hn.1 (by rw [z]; exact hm)]
      exact ih hn.2 h
theorem atKey_none {xs : List (K × Addr × Value)} {k : K} (h : ∀ (j : Nat) (p : Addr × Value), xs[j]? ≠ some (k, p)) : atKey xs k = none := by
  unfold atKey
  rw [Option.map_eq_none_iff, List.find?_eq_none]
  intro x hx z
  obtain ⟨j, hj⟩ := List.getElem?_of_mem hx
  refine h j x.2 ?_
  rw [hj, ← of_decide_eq_true z]
theorem meetsH_setdefault (knd : HeapKind prog w K) (d a : Addr) (hd : (d == sysModules) = false) (dflt : Value) :
    MeetsIn prog w (Builtin.«dict.setdefault» ⟨[.ref d, .ref a, dflt], []⟩) fun A R s => knd.room A.in1 ∧ ∃ k xs, knd.is s.heap k a ∧ Heap.DictOfH knd s.heap d xs ∧ xs.length ≤ sizeLine ∧
      (∀ p, atKey xs k = some p → R (.ok (.ret p.2)) { s with toks := s.toks + knd.draws k }) ∧
      (atKey xs k = none → ∀ h', Heap.DictOfH knd h' d (xs ++ [(k, a, dflt)]) → Heap.SameBut d s.heap h' → R (.ok (.ret dflt)) { s with heap := h', toks := s.toks + knd.draws k }) := by
  intro A R s ⟨hr, k, xs, hk, dd, hz, h1, h2⟩
  obtain ⟨o, es, ep, e, ex, hd2, hes, hall, hnd⟩ := id dd
  unfold Builtin.«dict.setdefault»
  refine wpAny_bind ?_
  unfold Builtin.Dict.keyAndDefault
  refine wpAny_bind (wpAny_notOrdered_dict dd.typeIs ?_)
  refine wpAny_bind (wpAny_of_eq (a := ()) rfl ?_)
  refine wpAny_bind (wpAny_of_eq (a := (Value.ref d, [Value.ref a, dflt])) rfl ?_)
  try dsimp only
  refine wpAny_bind (wpAny_of_eq (a := d) rfl (wpAny_pure ?_))
  try dsimp only
  rw [hd, if_neg (by decide)]
  refine wpAny_bind ?_
  unfold dictSetDefault
  refine wpAny_holding (wpAny_bind (knd.pyHash hr hk ?_))
  refine wpAny_bind (wpAny_dictFind_heap (s := { s with toks := s.toks + knd.draws k }) hr hk e hd2 hes hall hnd (fun hno => ?_) (fun j p hj => ?_))
  · refine wpAny_bind (wpAny_rule (wpAny_bind (wpAny_updateDictKeys (s := { s with toks := s.toks + knd.draws k }) e hd2 (wpAny_pure (wpAny_pure ?_)) ?_ ?_)))
    · refine h2 (atKey_none hno) _ ?_ (Heap.SameBut.update ..)
      obtain ⟨oc, od, odt, osl⟩ := o
      obtain ⟨x1, x2, x3⟩ := ex
      subst hd2
      have sb : Heap.SameBut d s.heap (s.heap.update d (Obj.mapDictKeys fun x => x.push { hash := knd.hash k, key := .ref a, val := dflt })) := Heap.SameBut.update ..
      refine ⟨_, _, _, Heap.get?_update_self _ e rfl, ⟨x1, x2, x3⟩, rfl, ?_, fun x hx => ?_, ?_⟩
      · rw [Array.toList_push, hes, List.map_append]
        rfl
      · rcases List.mem_append.mp hx with z | z
        · exact knd.keeps (hall x z) e rfl sb
        · rw [List.mem_singleton.mp z]
          exact knd.keeps hk e rfl sb
      · rw [List.map_append, List.nodup_append]
        refine ⟨hnd, List.nodup_cons.mpr ⟨List.not_mem_nil, List.nodup_nil⟩, fun y hy z hz q => ?_⟩
        rw [List.map_cons, List.map_nil, List.mem_singleton] at hz
        rw [q, hz] at hy
        obtain ⟨x, hx, ex⟩ := List.mem_map.mp hy
        obtain ⟨j, hj⟩ := List.getElem?_of_mem hx
        have ex2 : x.1 = k := ex
        exact hno j x.2 (by rw [hj, ← ex2])
    · rw [← Array.length_toList, hes, List.length_map]
      exact hz
    · rw [Array.size_push]
      exact Nat.le_refl _
  · refine wpAny_bind (wpAny_dictEntries (s := { s with toks := s.toks + knd.draws k }) e hd2 ?_)
    have hj2 : es[j]? = some (entryOfKey knd (k, p)) := by
      rw [← Array.getElem?_toList, hes, List.getElem?_map, hj]
      rfl
    rw [hj2]
    exact wpAny_bind (wpAny_rule (wpAny_pure (wpAny_pure (h1 p (atKey_at hnd hj)))))
end
end L2
set_option Elab.async false
set_option linter.all false
set_option maxRecDepth 100000
set_option maxHeartbeats 1000000
namespace L2
open PySem PySem.Spec PyProof.Rows
theorem len_raw {prog : Program} {w : World} {A : Around} {E : Value → Shared → Prop} {s : Shared} {d : Addr} {o : Obj} {es : Array DictEntry} {ep : Nat} {Q : Value → Shared → Prop} (hd : (d == sysModules) = false) (e : s.heap.get? d = some o) (ex : o.ExactDict) (hdt : o.data = .dict es ep) (hz : es.size ≤ sizeLine)
    (h : Q (.int (es.size : Int) (s.toks + 1)) { s with toks := s.toks + 1 + 1 }) : wpAny (model prog w) A (call (.builtin "len") [.ref d]) Q E s := by
  have hT : s.TypeIs (.ref d) "dict" := ⟨o, e, ex.1⟩
  have hz2 := hz
  rw [sizeLine_eq] at hz2
  refine call_len_slot hT F.slot_dict_len (n := (es.size : Int)) (fun Q' h' => ?_) (by omega) (by omega) h
  refine wpAny_call_entry F.slot_dict_len hT F.entry_dict_len ?_ (F.args_dict_len_1 _)
  unfold Builtin.«dict.__len__»
  refine wpAny_bind ?_
  unfold Builtin.Dict.dictSlotNone
  refine wpAny_bind (wpAny_notOrdered_dict hT (wpAny_bind (wpAny_of_eq (a := (Value.ref d, [])) rfl (wpAny_pure ?_))))
  refine wpAny_bind (wpAny_of_eq (a := d) rfl ?_)
  refine wpAny_bind ?_
  unfold dictSize
  refine wpAny_bind (wpAny_dictEntries e hdt (wpAny_pure ?_))
  refine wpAny_bind ?_
  unfold Builtin.Dict.pendingCount
  rw [hd, if_neg (by decide)]
  refine wpAny_pure (wpAny_bind (wpAny_mkInt (wpAny_pure ⟨_, rfl, ?_⟩)))
  show Q' (.int ((es.size : Int) + ((0 : Nat) : Int)) s.toks) _
  rw [show ((es.size : Int) + ((0 : Nat) : Int)) = (es.size : Int) by omega]
  exact h'
structure KN (Kk : Type) [DecidableEq Kk] where
  knd : ∀ (P : Program) (w : World), HeapKind P w Kk
  hsh : Kk → Int
  at_ : Hp → Kk → Addr → Prop
  hash_eq : ∀ P w k, (knd P w).hash k = hsh k
  ok : ∀ (P : Program) (w : World) (H : Hp) (h : Heap) (k : Kk) (a : Addr), HOk P w H h → at_ H k a → (knd P w).is h k a
  room : ∀ (P : Program) (w : World) (A : Around), A.units + 2 < cLine → (knd P w).room A.in1
  keep : ∀ (H H' : Hp) (k : Kk) (a : Addr), (∀ b xs, H b = some (.tup xs) → H' b = some (.tup xs)) → at_ H k a → at_ H' k a
section
variable {Kk : Type} [DecidableEq Kk] (kn : KN Kk)
noncomputable def entN (x : Kk × Addr × Value) : DictEntry := { hash := kn.hsh x.1, key := .ref x.2.1, val := x.2.2 }
noncomputable def DicF (d : Addr) (xs : List (Kk × Addr × Value)) (h : Heap) : Prop := (d == sysModules) = false ∧ ∃ o es ep, h.get? d = some o ∧ o.ExactDict ∧ o.data = .dict es ep ∧ es.toList = xs.map (entN kn)
noncomputable def NumD (H : Hp) (d : Addr) (kvs : List (Kk × V)) : Prop := (kvs.map (·.1)).Nodup ∧ kvs.length < sizeLine ∧
  ((kvs = [] ∧ H d = some (.dK [])) ∨ ∃ xs, H d = some (.ext (DicF kn d xs)) ∧ Paired (fun (p : Kk × V) (q : Kk × Addr × Value) => p.1 = q.1 ∧ kn.at_ H q.1 q.2.1 ∧ RelV p.2 q.2.2) kvs xs)
variable {kn}
theorem ent_eq {P : Program} {w : World} (xs : List (Kk × Addr × Value)) : xs.map (entryOfKey (kn.knd P w)) = xs.map (entN kn) := by
  refine List.map_congr_left fun x _ => ?_
  show DictEntry.mk _ _ _ = DictEntry.mk _ _ _
  rw [kn.hash_eq]
theorem dicF_ok {P : Program} {w : World} {H : Hp} {h : Heap} {d : Addr} {xs : List (Kk × Addr × Value)} (x : DicF kn d xs h) : ObjOk P w H h d (.ext (DicF kn d xs)) := by
  obtain ⟨hm, o, es, ep, e, r⟩ := id x
  refine ⟨x, ⟨o, e⟩, fun h1 h2 y k => ?_⟩
  obtain ⟨hm', o', es', ep', e', r'⟩ := y
  exact ⟨hm', o', es', ep', k _ e', r'⟩
theorem NumD.dict {X : Cx} {pins : List (Addr × Obj)} {σ : St} {H : Hp} {s : Shared} {d : Addr} {kvs : List (Kk × V)} (n : NumD kn H d kvs) (I : Inv X pins σ H s) :
    ∃ xs, Heap.DictOfH (kn.knd X.prog X.w) s.heap d xs ∧ Paired (fun (p : Kk × V) (q : Kk × Addr × Value) => p.1 = q.1 ∧ kn.at_ H q.1 q.2.1 ∧ RelV p.2 q.2.2) kvs xs ∧ Mut (H d) ∧ (d == sysModules) = false := by
  obtain ⟨hn, hl, h | h⟩ := n
  · obtain ⟨rfl, e⟩ := h
    obtain ⟨z, hd, vs, rel, dd⟩ := dk_of I.hok e
    cases rel
    obtain ⟨o, es, ep, e1, ex, e2, _, pr, _⟩ := dd
    have hes : es.toList = [] := by
      generalize es.toList = l at pr
      cases pr
      rfl
    exact ⟨[], ⟨o, es, ep, e1, ex, e2, hes, (fun x hx => nomatch hx), List.nodup_nil⟩, .nil, by rw [e]; exact True.intro, hd⟩
  · obtain ⟨xs, e, pr⟩ := h
    obtain ⟨⟨hm, o, es, ep, e1, ex, e2, hes⟩, _, _⟩ := (show ObjOk X.prog X.w H s.heap d (.ext (DicF kn d xs)) from I.hok d _ e)
    refine ⟨xs, ⟨o, es, ep, e1, ex, e2, by rw [hes, ent_eq], fun x hx => ?_, ?_⟩, pr, by rw [e]; exact True.intro, hm⟩
    · have go : ∀ {l : List (Kk × V)} {m : List (Kk × Addr × Value)}, Paired (fun (p : Kk × V) (q : Kk × Addr × Value) => p.1 = q.1 ∧ kn.at_ H q.1 q.2.1 ∧ RelV p.2 q.2.2) l m → ∀ x ∈ m, kn.at_ H x.1 x.2.1 := by
        intro l m pr
        induction pr with
        | nil => exact fun x hx => nomatch hx
        | cons h _ ih =>
          intro x hx
          rcases List.mem_cons.mp hx with rfl | hx
          · exact h.2.1
          · exact ih x hx
      exact kn.ok _ _ _ _ _ _ I.hok (go pr x hx)
    · have go : ∀ {l : List (Kk × V)} {m : List (Kk × Addr × Value)}, Paired (fun (p : Kk × V) (q : Kk × Addr × Value) => p.1 = q.1 ∧ kn.at_ H q.1 q.2.1 ∧ RelV p.2 q.2.2) l m → m.map (·.1) = l.map (·.1) := by
        intro l m pr
        induction pr with
        | nil => rfl
        | cons h _ ih => rw [List.map_cons, List.map_cons, ih, h.1]
      rw [go pr]
      exact hn
theorem paired_at {P : Kk × V → Kk × Addr × Value → Prop} (hP : ∀ p q, P p q → p.1 = q.1) : ∀ {l : List (Kk × V)} {m : List (Kk × Addr × Value)}, Paired P l m → ∀ k, (∀ v, valV l k = some v → ∃ q, atKey m k = some q ∧ ∃ p, P p (k, q) ∧ p.2 = v) ∧ (valV l k = none → atKey m k = none)
  | [], [], _, k => ⟨fun v h => (by cases h), fun _ => rfl⟩
  | p :: l, q :: m, .cons h t, k => by
    have ih := paired_at hP t k
    have e := hP p q h
    by_cases hk : p.1 = k
    · have hq : q.1 = k := e.symm.trans hk
      have a1 : atKey (q :: m) k = some q.2 := by
        unfold atKey
        rw [List.find?_cons, decide_eq_true hq]
        rfl
      have v1 : valV (p :: l) k = some p.2 := valV_pos hk
      refine ⟨fun v hv => ?_, fun hv => ?_⟩
      · rw [v1] at hv
        cases hv
        exact ⟨q.2, a1, p, by rw [← hq]; exact h, rfl⟩
      · rw [v1] at hv
        cases hv
    · have hq : ¬ q.1 = k := fun z => hk (e.trans z)
      have a1 : atKey (q :: m) k = atKey m k := by
        unfold atKey
        rw [List.find?_cons, decide_eq_false hq]
      have v1 : valV (p :: l) k = valV l k := valV_neg hk
      rw [a1, v1]
      exact ih
theorem num_len {X : Cx} {pins : List (Addr × Obj)} {σ : St} {H : Hp} {s : Shared} {d : Addr} {kvs : List (Kk × V)} {A : Around} {E : Value → Shared → Prop} {Q : Value → Shared → Prop} (I : Inv X pins σ H s) (n : NumD kn H d kvs) (h : ∀ t s', Inv X pins σ H s' → Q (.int (kvs.length : Int) t) s') :
    wpAny (model X.prog X.w) A (call (.builtin "len") [.ref d]) Q E s := by
  obtain ⟨xs, ⟨o, es, ep, e1, ex, e2, hes, _, _⟩, pr, _, hm⟩ := n.dict I
  have hl : es.size = kvs.length := by rw [← Array.length_toList, hes, List.length_map]; exact (Paired.length pr).symm
  refine len_raw hm e1 ex e2 (by rw [hl]; exact Nat.le_of_lt n.2.1) ?_
  rw [hl]
  exact h _ _ (I.tok _)
theorem num_more {X : Cx} {pins : List (Addr × Obj)} {σ : St} {H : Hp} {s : Shared} {d a : Addr} {k : Kk} {v : V} {u : Value} {kvs : List (Kk × V)} {xs : List (Kk × Addr × Value)} {h' : Heap} {tk : Nat} (I : Inv X pins σ H s) (n : NumD kn H d kvs) (hk : kn.at_ H k a) (rv : RelV v u) (hz : kvs.length + 1 < sizeLine)
    (pr : Paired (fun (p : Kk × V) (q : Kk × Addr × Value) => p.1 = q.1 ∧ kn.at_ H q.1 q.2.1 ∧ RelV p.2 q.2.2) kvs xs) (mu : Mut (H d)) (hm : (d == sysModules) = false) (hv : valV kvs k = none) (dd' : Heap.DictOfH (kn.knd X.prog X.w) h' d (xs ++ [(k, a, u)])) (sb : Heap.SameBut d s.heap h') :
    ∃ H', NumD kn H' d (kvs ++ [(k, v)]) ∧ (∀ b o, H b = some o → b ≠ d → H' b = some o) ∧ (∃ o, H' = upd H d o) ∧ Inv X pins σ H' { s with heap := h', toks := tk } := by
  obtain ⟨o, es, ep, e1, ex, e2, hes, _, _⟩ := dd'
  have df : DicF kn d (xs ++ [(k, a, u)]) h' := ⟨hm, o, es, ep, e1, ex, e2, by rw [hes, ent_eq]⟩
  have tp : ∀ b ys, H b = some (.tup ys) → upd H d (.ext (DicF kn d (xs ++ [(k, a, u)]))) b = some (.tup ys) := fun b ys e => by
    rw [upd_ne fun z => by rw [← z, e] at mu; exact mu]
    exact e
  refine ⟨_, ⟨?_, ?_, .inr ⟨_, upd_same, ?_⟩⟩, fun b o e hb => by rw [upd_ne hb]; exact e, ⟨_, rfl⟩, d_write I mu sb ⟨o, e1⟩ (dicF_ok df)⟩
  · rw [List.map_append, List.nodup_append]
    refine ⟨n.1, List.nodup_cons.mpr ⟨List.not_mem_nil, List.nodup_nil⟩, fun y hy z hz q => ?_⟩
    rw [List.map_cons, List.map_nil, List.mem_singleton] at hz
    rw [q, hz] at hy
    obtain ⟨x, hx, ex⟩ := List.mem_map.mp hy
    have ex2 : x.1 = k := ex
    have := valV_mem n.1 x hx
    rw [ex2, hv] at this
    cases this
  · rw [List.length_append]
    exact hz
  · have go : ∀ {l : List (Kk × V)} {m : List (Kk × Addr × Value)}, Paired (fun (p : Kk × V) (q : Kk × Addr × Value) => p.1 = q.1 ∧ kn.at_ H q.1 q.2.1 ∧ RelV p.2 q.2.2) l m → Paired (fun (p : Kk × V) (q : Kk × Addr × Value) => p.1 = q.1 ∧ kn.at_ (upd H d (.ext (DicF kn d (xs ++ [(k, a, u)])))) q.1 q.2.1 ∧ RelV p.2 q.2.2) (l ++ [(k, v)]) (m ++ [(k, a, u)]) := by
      intro l m pr
      induction pr with
      | nil => exact .cons ⟨rfl, kn.keep _ _ _ _ tp hk, rv⟩ .nil
      | cons h _ ih => exact .cons ⟨h.1, kn.keep _ _ _ _ tp h.2.1, h.2.2⟩ ih
    exact go pr
theorem num_setdefault {X : Cx} {pins : List (Addr × Obj)} {σ : St} {H : Hp} {s : Shared} {d a : Addr} {k : Kk} {v : V} {u : Value} {kvs : List (Kk × V)} {A : Around} {E : Value → Shared → Prop} {Q : Value → Shared → Prop} (I : Inv X pins σ H s) (n : NumD kn H d kvs) (hk : kn.at_ H k a) (hu : A.units + 2 < cLine) (rv : RelV v u) (hz : kvs.length + 1 < sizeLine)
    (h1 : ∀ x, valV kvs k = some x → ∀ u' s', RelV x u' → Inv X pins σ H s' → Q u' s')
    (h2 : valV kvs k = none → ∀ H' s', NumD kn H' d (kvs ++ [(k, v)]) → (∀ b o, H b = some o → b ≠ d → H' b = some o) → (∃ o, H' = upd H d o) → Inv X pins σ H' s' → Q u s') :
    wpAny (model X.prog X.w) A (call (.builtin "dict.setdefault") [.ref d, .ref a, u]) Q E s := by
  obtain ⟨xs, dd, pr, mu, hm⟩ := n.dict I
  have pa := paired_at (fun p q h => h.1) pr k
  refine call_meetsIn F.slot_dict_setdefault dd.typeIs F.entry_dict_setdefault (F.args_dict_setdefault_3 _ _ _) (meetsH_setdefault (kn.knd X.prog X.w) d a hm u) ⟨kn.room _ _ _ hu, k, xs, kn.ok _ _ _ _ _ _ I.hok hk, dd, ?_, ?_, ?_⟩
  · rw [← Paired.length pr]
    exact Nat.le_of_lt n.2.1
  · intro p hp
    cases hv : valV kvs k with
    | none => rw [pa.2 hv] at hp; cases hp
    | some x =>
      obtain ⟨q, hq, p', hp', e⟩ := pa.1 x hv
      rw [hp] at hq
      cases hq
      exact h1 x hv p.2 _ (e ▸ hp'.2.2) (I.tok _)
  · intro hno h' dd' sb
    have hv : valV kvs k = none := by
      cases hv : valV kvs k with
      | none => rfl
      | some x =>
        obtain ⟨q, hq, _⟩ := pa.1 x hv
        rw [hno] at hq
        cases hq
    obtain ⟨H', n', k', o', I'⟩ := num_more I n hk rv hz pr mu hm hv dd' sb
    exact h2 hv H' _ n' k' o' I'
end
end L2
set_option Elab.async false
set_option linter.all false
set_option maxRecDepth 100000
set_option maxHeartbeats 1000000
namespace L2
open PySem PySem.Spec PyProof.Rows
noncomputable def vB : V → Option Int
  | .int i => some i
  | .bl b => some (b2i b)
  | _ => none
theorem bits_are {P : Program} {w : World} : ∀ {vs : List V} {us : List Value} {ks : List Int}, Vals vs us → vs.map vB = ks.map some → ItemsAre (bitKind P w) ks us
  | [], _, [], r, _ => by cases r; exact .nil
  | v :: vs, _, k :: ks, .cons h t, e => by
    rw [List.map_cons, List.map_cons] at e
    injection e with e1 e2
    refine .cons ?_ (bits_are t e2)
    cases v with
    | int i =>
      obtain ⟨t, rfl⟩ := h
      cases e1
      exact beq_self_eq_true _
    | bl b =>
      cases (show _ = Value.bool b from h)
      cases e1
      exact beq_self_eq_true _
    | _ => cases e1
noncomputable def BitsAt (H : Hp) (ks : List Int) (a : Addr) : Prop := ∃ vs, H a = some (.tup vs) ∧ vs.map vB = ks.map some
theorem BitsAt.is {P : Program} {w : World} {H : Hp} {h : Heap} {ks : List Int} {a : Addr} (ok : HOk P w H h) (b : BitsAt H ks a) : IsTupleKey (bitKind P w) h ks a := by
  obtain ⟨vs, e, hv⟩ := b
  obtain ⟨_, its, r, o, h1, h2, n, h3⟩ := (show ObjOk P w H h a (.tup vs) from ok a _ e)
  exact ⟨o, its.toArray, n, h1, h2, h3, by simpa using bits_are r hv⟩
noncomputable def knT : KN (List Int) where
  knd := fun P w => tupleKind (bitKind P w)
  hsh := fun ks => reduceHash (Builtin.Tuple.tupleHashOf (ks.map hashInt))
  at_ := BitsAt
  hash_eq := fun P w k => rfl
  ok := fun P w H h k a ok b => b.is ok
  room := fun P w A hu => by show A.units + 1 < cLine; omega
  keep := fun H H' k a hk ⟨vs, e, hv⟩ => ⟨vs, hk _ _ e, hv⟩
noncomputable def PairAt (H : Hp) (k : Int × List Int) (a : Addr) : Prop := ∃ t, H a = some (.tup [.int k.1, .ref t]) ∧ BitsAt H k.2 t
noncomputable def knP : KN (Int × List Int) where
  knd := pairKind
  hsh := fun k => reduceHash (Builtin.Tuple.tupleHashOf [hashInt k.1, reduceHash (Builtin.Tuple.tupleHashOf (k.2.map hashInt))])
  at_ := PairAt
  hash_eq := fun P w k => rfl
  ok := fun P w H h k a ok ⟨t, e, b⟩ => by
    obtain ⟨_, its, r, o, h1, h2, n, h3⟩ := (show ObjOk P w H h a (.tup [.int k.1, .ref t]) from ok a _ e)
    cases r with
    | cons r1 r2 =>
    cases r2 with
    | cons r2 r3 =>
    cases r3
    obtain ⟨tk, rfl⟩ := r1
    cases (show _ = Value.ref t from r2)
    exact ⟨o, n, t, tk, h1, h2, h3, b.is ok⟩
  room := fun P w A hu => by show A.units + 1 + 1 < cLine; omega
  keep := fun H H' k a hk ⟨t, e, vs, e2, hv⟩ => ⟨t, hk _ _ e, vs, hk _ _ e2, hv⟩
section
variable {X : Cx}
noncomputable def rLenN : List V → Hp → VK → Prop := fun xs H Q => ∃ (Kk : Type) (_ : DecidableEq Kk) (kn : KN Kk) (d : Addr) (kvs : List (Kk × V)), xs = [V.ref d] ∧ NumD kn H d kvs ∧ Q (.int kvs.length) H
theorem call_lenN : CallR X (.builtin "len") rLenN := by
  intro pins s σ H xs us Q I r h
  obtain ⟨Kk, _, kn, d, kvs, rfl, n, q⟩ := h
  obtain ⟨u, rfl, ru⟩ := vals1 r
  cases ru
  exact num_len I n fun t s' I' => ⟨.int kvs.length, H, I', ⟨t, rfl⟩, q⟩
noncomputable def rSetN : V → List V → Hp → VK → Prop := fun x vs H Q => ∃ (Kk : Type) (_ : DecidableEq Kk) (kn : KN Kk) (d a : Addr) (k : Kk) (v : V) (kvs : List (Kk × V)), x = .ref d ∧ vs = [.ref a, v] ∧ NumD kn H d kvs ∧ kn.at_ H k a ∧ kvs.length + 1 < sizeLine ∧
  (∀ y, valV kvs k = some y → Q y H) ∧ (valV kvs k = none → ∀ H', NumD kn H' d (kvs ++ [(k, v)]) → (∀ b o, H b = some o → b ≠ d → H' b = some o) → (∃ o, H' = upd H d o) → Q v H')
theorem mt_setN (hu : X.A.units + 2 < cLine) : MtM X "dict.setdefault" rSetN := by
  intro pins s σ H x vs v us Q I rx rv h
  obtain ⟨Kk, _, kn, d, a, k, y, kvs, rfl, rfl, n, hk, hz, h1, h2⟩ := h
  cases rx
  cases rv with
  | cons r1 r2 =>
  cases r2 with
  | cons r2 r3 =>
  cases r3
  cases (show _ = Value.ref a from r1)
  exact num_setdefault I n hk hu r2 hz (fun z hz u' s' ru I' => ⟨z, H, I', ru, h1 z hz⟩) fun hn H' s' n' o' e' I' => ⟨y, H', I', r2, h2 hn H' n' o' e'⟩
noncomputable def tyN (x : V) (H : Hp) : Prop := ∃ (Kk : Type) (_ : DecidableEq Kk) (kn : KN Kk) (d : Addr) (kvs : List (Kk × V)), x = .ref d ∧ NumD kn H d kvs
theorem tyN_is {pins : List (Addr × Obj)} {σ : St} {H : Hp} {s : Shared} {x : V} {v : Value} (I : Inv X pins σ H s) (r : RelV x v) (ty : tyN x H) : s.TypeIs v "dict" ∧ ∀ a, v = .ref a → ∃ ob, s.heap.get? a = some ob ∧ ob.dict = none := by
  obtain ⟨Kk, _, kn, d, kvs, rfl, n⟩ := ty
  cases r
  obtain ⟨xs, ⟨o, es, ep, e, ex, _⟩, _, _, _⟩ := n.dict I
  refine ⟨⟨o, e, ex.1⟩, fun a ea => ?_⟩
  cases ea
  exact ⟨o, e, ex.2.1⟩
noncomputable def tBMN (to : TE) (t : TA) : TE := fun σ H Q => to σ H fun x H1 => tyN x H1 ∧ t σ H1 fun xs H2 => rSetN x xs H2 Q
variable {o e : Expr} {es : List Expr} {to : TE} {t : TA} {name : Str} {apos cpos : Pos}
theorem qe_setN (hu : X.A.units + 2 < cLine) (ho : QE X o to) (ha : QA X (e :: es) t) (hbase : attributeBase o "setdefault" X.env (eval o X.env) = eval o X.env := by rfl) (hline : (apos.endLine == cpos.line) = true := by rfl) (hp : (e :: es).all plainE = true := by rfl) (hl : (e :: es).length < 30 := by decide) :
    QE X (.Call (.Attribute o "setdefault" apos) (e :: es) [] cpos) (tBMN to t) := by
  refine ⟨fun pins s σ H Q I h => ?_⟩
  have hp' := hp
  rw [List.all_cons, Bool.and_eq_true] at hp'
  have hfew : ((backTo cpos (starEach (e :: es) X.env)).all (fun x => !x.1) && (backToKw cpos (keywordEach [] X.env)).all (fun x => x.1.isSome) && decide ((e :: es).length + ([] : List Keyword).length + (if ([] : List Keyword).isEmpty then 0 else 1) < 30)) = true := by
    rw [all_plain hp]
    show decide ((e :: es).length + 0 + 0 < 30) = true
    exact decide_eq_true hl
  refine wpAny_Call_method_late hbase hfew hline rfl (thn (ho.out pins s σ H _ I h) fun v s1 ⟨x, H1, I1, r1, ty, q1⟩ => ?_)
  obtain ⟨h1, h2⟩ := tyN_is I1 r1 ty
  refine ⟨"dict", "dict.setdefault", F.plainAttrs_dict, F.slot_dict_setdefault, F.type_dict_setdefault, h1, h2, ?_⟩
  have hA := ha.out cpos pins s1 σ H1 _ I1 q1
  have hs : starEach (e :: es) X.env = (false, eval e X.env) :: starEach es X.env := starEach_plain hp'.1
  rw [hs] at hA ⊢
  refine Calls.callWith_builtin (by show (false || (backTo cpos (starEach es X.env)).any (·.1)) = false; rw [any_plain hp'.2] <;> rfl) (Calls.evalArgs_plain ?_)
  exact thn hA fun us s2 ⟨vs, H2, I2, r2, q2⟩ => mt_setN hu pins s2 σ H2 x vs v us Q I2 r1 r2 q2
end
end L2
set_option Elab.async false
set_option linter.all false
set_option maxRecDepth 100000
set_option maxHeartbeats 1000000
namespace L2
open PySem PySem.Spec PyProof.Rows
section
variable {X : Cx}
noncomputable def rMaxL (K : PySem.W.Frag) : List V → Hp → VK → Prop := fun xs H Q => ∃ (p : Addr) (ns : List Int), xs = [.ref p] ∧ SqL K H p (ns.map V.int) ∧ ns ≠ [] ∧ ∀ m ∈ ns, (∀ n ∈ ns, n ≤ m) → Q (.int m) H
theorem call_maxL (hc : X.calm = true) : CallR X (.builtin "max") (rMaxL X.K) := by
  intro pins s σ H xs us Q I r h
  obtain ⟨p, ns, rfl, hq, hne, q⟩ := h
  obtain ⟨u, rfl, rx⟩ := vals1 r
  cases rx
  obtain ⟨its, r', pl, hz⟩ := I.list hq
  have hi : IntsAre its ns := intsAre_of r'
  obtain ⟨xs, hx⟩ := hi.allInts.items
  have hl' : s.heap.IsList p (intItems xs) := hx ▸ pl.isList
  have e1 : ns = xs.toList.map (·.1) := by
    rw [← nums_intItems, ← hx]
    exact (show numsOf its.toArray.toList = ns from hi.numsOf).symm
  have hsz : 0 < xs.size := by
    cases hs : xs.size with
    | zero => exact absurd (by rw [e1, show xs.toList = [] from List.eq_nil_of_length_eq_zero (by rw [Array.length_toList]; exact hs)]; rfl) hne
    | succ n => exact Nat.succ_pos n
  refine max_intList (I.ok.hd hc) hl' hsz fun v h' tk hv hk => ?_
  have hb := argBest_gt (numAt xs) (xs.size - 1)
  generalize argBest (fun i j => decide (numAt xs i > numAt xs j)) (xs.size - 1) = b at hv hb
  have hbl : b < xs.size := by omega
  have at_ : ∀ j (hj : j < xs.size), numAt xs j = xs[j].1 ∧ (intItems xs)[j]? = some (.int xs[j].1 xs[j].2) := by
    intro j hj
    exact ⟨by simp [numAt, hj], by simp [intItems, hj]⟩
  obtain ⟨n1, n2⟩ := at_ b hbl
  rw [n2] at hv
  cases hv
  refine ⟨.int xs[b].1, H, I.kept hk, ⟨_, rfl⟩, q _ ?_ fun n hn => ?_⟩
  · rw [e1]
    exact List.mem_map.mpr ⟨xs[b], by simp, rfl⟩
  · rw [e1] at hn
    obtain ⟨y, hy, rfl⟩ := List.mem_map.mp hn
    obtain ⟨j, hj⟩ := List.getElem?_of_mem hy
    have hj2 : j < xs.size := by
      have := (List.getElem?_eq_some_iff.mp hj).1
      rwa [Array.length_toList] at this
    have := hb.2 j (by omega)
    rw [(at_ j hj2).1, n1] at this
    have ej : xs[j] = y := by
      have := (List.getElem?_eq_some_iff.mp hj).2
      simpa using this
    rw [ej] at this
    exact this
end
end L2
set_option Elab.async false
set_option linter.all false
set_option maxRecDepth 100000
set_option maxHeartbeats 1000000
namespace L2
theorem hu2_of {A : PySem.Around} {k : Nat} (hr : Room k A) : A.units + 2 < PySem.cLine := Nat.lt_of_le_of_lt (Nat.add_le_add_left (by decide : 2 ≤ 64) _) hr.units
open PySem PySem.Spec PyProof.Rows
noncomputable def tCallL3 (Pg : Program) (w : World) (K : PySem.W.Frag) (mg : Str → Option Value) (base : Heap) (k : Nat) (sp : Sp) (P : Addr) (lpos : Pos) (qual : Str) (ta tb : TE) (n : Nat) (is : List Nat) (te : TE) : TE := fun σ H Q => ta σ H fun z H0 => tb σ H0 fun x H1 => TabOk H1 P lpos qual ∧
  ∀ (cs : List Addr) (f : Addr) (H2 : Hp), (∀ c ∈ cs, H1 c = none) → (∀ c ∈ cs, ∃ o, H2 c = some (frzA o)) → H1 f = none → (∀ H3, Same H2 H3 → TabOk (hide cs H3) P lpos qual) → (∀ b o, H1 b = some o → b ≠ P → H2 b = some o) →
    Callable Pg w K mg base k f H2 (lamSp n te cs (is.map fun i => (σ[i]?).getD none)) → sp [z, x, .ref f] H2 (fun v H3 => Q v (hide cs H3)) E0
section
variable {X : Cx} {params : Arguments} {body a : Expr} {scope : Scope} {lpos p pos : Pos} {c P g : Addr} {qual x : Str} {k kl : Nat} {gd : FuncData} {pg ps ys : List Str} {is : List Nat} {sp : Sp} {ta te : TE} {b : Expr} {tb : TE}
theorem qe_callL3 (F : FnOk X.prog X.w X.K X.mg X.base CX0 k g gd pg sp) (hr : Room k X.A) (hg : Gl X x) (hm : X.mg x = some (.ref g)) (hk : PySem.W.keepIn X.K (.ref g) = true) (hb : Binds X.K gd pg []) (hfn : X.fn = fun _ => true)
    (ha : QE X a ta) (hb2 : QE X b tb) (hcode : X.env.code = .ref c) (C : PySem.W.CodeHd X.base c P) (B : BltAt X.mg X.base) (hdef : defaultsOf params X.env = ([], [])) (hq : X.env.qual ++ "<lambda>" = qual)
    {S0 : Scope} {N0 : List Str} (hX : X.env.scope = S0) (hXN : X.N = N0) (LL : LamAt S0 scope N0 ps ys is)
    (hbind : ∀ (cl : List (Str × Addr)) (pm cv ctv : Value) (us : List Value), us.length = ps.length → bindArgs (PySem.W.kla_fn "<lambda>" qual params body scope cl pm cv ctv) ⟨us, []⟩ = pure (ps.zip us))
    (hbody : ∀ (f c' : Addr) (cl : List (Str × Addr)) (A : Around) (outer : List Env) (s : Shared) (H1 : Hp), Room kl (A.deeper (PySem.W.envX qual scope s.heap.objs.size f (.ref c') cl)) → QE (cxL X.prog X.w X.K X.mg X.base (ps ++ ys) qual scope f (.ref c') cl A outer s H1) body te)
    (hdb : (x == ("__debug__" : Str)) = false := by decide) (he : starEach [a, b, .Lambda params body scope lpos] X.env = (false, eval a X.env) :: starEach [b, .Lambda params body scope lpos] X.env := by rfl) (he2 : starEach [b, .Lambda params body scope lpos] X.env = (false, eval b X.env) :: starEach [.Lambda params body scope lpos] X.env := by rfl)
    (hs2 : starEach [.Lambda params body scope lpos] X.env = (false, eval (.Lambda params body scope lpos) X.env) :: starEach [] X.env := by rfl) (hpl : (backTo pos (starEach [b, .Lambda params body scope lpos] X.env)).any (·.1) = false := by rfl) :
    QE X (.Call (.Name x p) [a, b, .Lambda params body scope lpos] [] pos) (tCallL3 X.prog X.w X.K X.mg X.base (kl + 1) sp P lpos qual ta tb ps.length is te) := by
  have S := LL.sc
  have hfree : ∀ y ∈ scope.names, y.2 = .free → X.env.scope.names.lookup y.1 = some .cell := fun y hy h => by rw [hX]; exact LL.free y hy h
  have hN : ∀ q ∈ ys.zip is, X.N[q.2]? = some q.1 := fun q hq => by rw [hXN]; exact LL.vis q hq
  have hlen := LL.len
  refine ⟨?_⟩
  intro pins s σ H Q I hw
  refine wpAny_Call_Name_kw (ld_glob I hg hm ?_ hdb)
  have hlam := pe_lambda (X := X) (lpos := lpos) (params := params) (body := body) (scope := scope) hcode C B hdef hq hfree
  refine PySem.W.callWith_K (h₀ := X.base) I.ok.mod.kin hk ?_ he hpl
  rw [he]
  show wpAny _ _ (spliced ((false, eval a X.env) :: backTo pos (starEach [b, .Lambda params body scope lpos] X.env))) _ _ s
  refine Calls.spliced_cons (thn (ha.out pins s σ H _ I hw) fun u s0 ⟨x00, H0, I0, r0, hw0⟩ => ?_)
  rw [he2]
  show wpAny _ _ (spliced ((false, eval b X.env) :: backTo pos (starEach [.Lambda params body scope lpos] X.env))) _ _ s0
  refine Calls.spliced_cons (thn (hb2.out pins s0 σ H0 _ I0 hw0) fun u1 s1 ⟨x0, H1, I1, r1, hT, q1⟩ => ?_)
  rw [hs2]
  show wpAny _ _ (spliced ((false, eval (.Lambda params body scope lpos) X.env) :: backTo pos (starEach [] X.env))) _ _ s1
  refine Calls.spliced_cons (thn (hlam pins s1 σ H1 (fun v H2 => ∃ (f c' : Addr) (oc : Obj) (ctv : Value), v = .ref f ∧ H1 f = none ∧ H2 f = some (frzA (lamObj X qual params body scope c' ctv)) ∧ H2 c' = some (frzA oc) ∧ CodeOk oc qual ∧ TabOk H2 P lpos qual ∧ ∀ b o, H1 b = some o → b ≠ P → H2 b = some o) I1 ⟨hT, fun f c' oc ctv H2 a1 a2 a3 a4 a5 a6 => ⟨f, c', oc, ctv, rfl, a1, a2, a3, a4, a5, a6⟩⟩) fun u2 s2 ⟨y, H2, I2, r2, f, c', oc, ctv, hy, f1, f2, f3, f4, f5, f6⟩ => ?_)
  subst hy
  cases r2
  refine Calls.spliced_nil ⟨I2.kIn, ?_⟩
  -- the cells of this frame
  have hcell : ∀ d ∈ cellsOf X.env.cells, ∃ o v, s2.heap.get? d = some o ∧ o.data = .cell v := fun d m => by
    obtain ⟨y, hy⟩ := mem_cellsOf.mp m
    obtain ⟨v, o, ho, hd⟩ := I2.cell y d hy
    exact ⟨o, v, ho, hd⟩
  have hnone : ∀ d ∈ cellsOf X.env.cells, H2 d = none := fun d m => by
    obtain ⟨y, hy⟩ := mem_cellsOf.mp m
    exact I2.freeC y d hy
  have hn1 : ∀ d ∈ cellsOf X.env.cells, H1 d = none := fun d m => by
    obtain ⟨y, hy⟩ := mem_cellsOf.mp m
    exact I1.freeC y d hy
  let H3 : Hp := fun b => if b ∈ cellsOf X.env.cells then (s2.heap.get? b).map frzA else H2 b
  have h3in : ∀ d ∈ cellsOf X.env.cells, ∃ o v, H3 d = some (frzA o) ∧ o.data = .cell v ∧ s2.heap.get? d = some o := fun d m => by
    obtain ⟨o, v, e, hd⟩ := hcell d m
    exact ⟨o, v, by show (if d ∈ cellsOf X.env.cells then _ else _) = _; rw [if_pos m, e]; rfl, hd, e⟩
  have h3out : ∀ d, d ∉ cellsOf X.env.cells → H3 d = H2 d := fun d m => if_neg m
  have h3sub : ∀ b o, H2 b = some o → H3 b = some o := fun b o e => by
    rw [h3out b (fun m => by rw [hnone b m] at e; cases e)]
    exact e
  have nloc : ∀ d ∈ cellsOf X.env.cells, d ≠ X.env.locals := fun d m e => by
    obtain ⟨o, v, g, hd⟩ := hcell d m
    obtain ⟨m', ⟨o', es, ep, g', hd', _⟩, _⟩ := I2.loc
    rw [e, g'] at g
    cases g
    rw [hd'] at hd
    cases hd
  have above : ∀ d ∈ cellsOf X.env.cells, X.s₀.heap.objs.size ≤ d := fun d m => by
    obtain ⟨y, hy⟩ := mem_cellsOf.mp m
    exact I2.ok.cab y d (by rw [hfn]) hy
  have nfr : ∀ d ∈ cellsOf X.env.cells, d ∉ frs X.stack := fun d m z => by
    rcases List.mem_cons.mp (I2.stkSub d z) with e | e
    · exact nloc d m e
    · obtain ⟨_, o, g, _⟩ := I2.ok.funs.mem e
      exact absurd (Heap.lt_size g) (Nat.not_lt.mpr (above d m))
  have hok3 : HOk X.prog X.w H3 s2.heap := fun b o e => by
    by_cases m : b ∈ cellsOf X.env.cells
    · obtain ⟨ob, v, e', hd, g⟩ := h3in b m
      rw [e'] at e; cases e
      exact frzA_ok g
    · rw [h3out b m] at e
      exact (I2.hok b o e).stay (fun _ _ _ q => q) (fun d q => h3sub _ _ q) fun d xs q => h3sub _ _ q
  have e0 : Env0 X.prog X.w X.K X.mg X.base X.A X.stack s2 H3 := by
    have z := I2.env0
    refine ⟨z.frames, z.mod, fun b o e => ⟨(z.bs b o e).1, ?_⟩, z.bsz, z.funs, fun b hb => ?_, hok3, z.bare⟩
    · rw [h3out b fun m => ?_]
      · exact (z.bs b o e).2
      · exact absurd (Heap.lt_size e) (Nat.not_lt.mpr (Nat.le_trans I2.ok.bsz (above b m)))
    · rw [h3out b fun m => nfr b m hb]
      exact z.frf b hb
  have hcl : ∀ y d, (clOf X.env.cells scope.names []).lookup y = some d → X.env.cells.lookup y = some d :=
    clOf_get (fun y hy h => I2.ok.has y.1 (.inl (hfree y hy h))) fun _ _ z => by cases z
  have hcall : Callable X.prog X.w X.K X.mg X.base (kl + 1) f H3 (lamSp ps.length te (cellsOf X.env.cells) (is.map fun i => (σ[i]?).getD none)) := by
    refine lam_callable (ys := ys) S (h3sub _ _ f2) (h3sub _ _ f3) f4 (fun y d h => mem_cellsOf.mpr ⟨y, hcl y d h⟩) (fun d m => let ⟨o, v, e, hd, _⟩ := h3in d m; ⟨o, v, e, hd⟩) (fun y z d h1 h2 => I2.ok.inj y z d (hcl y d h1) (hcl z d h2)) (fun y h => clOf_has h) (by rw [List.length_map, hlen]) (fun i y v h1 h2 => ?_) (fun us hl => hbind _ _ _ _ us hl) fun A outer s H1 hr => (hbody f c' _ A outer s H1 hr).out
    rw [List.getElem?_map] at h2
    cases hj : is[i]? with
    | none => rw [hj] at h2; cases h2
    | some j =>
      rw [hj] at h2
      have h2'' : (σ[j]?).getD none = some v := Option.some.inj h2
      have hσ : σ[j]? = some (some v) := by
        cases q : σ[j]? with
        | none => rw [q] at h2''; cases h2''
        | some z => rw [q] at h2''; exact congrArg some h2''
      have hz : (y, j) ∈ ys.zip is := by
        obtain ⟨a1, e1⟩ := List.getElem?_eq_some_iff.mp h1
        obtain ⟨a2, e2⟩ := List.getElem?_eq_some_iff.mp hj
        rw [← e1, ← e2, ← List.getElem_zip (h := by rw [List.length_zip]; omega)]
        exact List.getElem_mem _
      have hfr := S.free y (List.mem_of_getElem? h1)
      have kc : X.env.kindOf y = some .cell := hfree _ (mem_free hfr) rfl
      obtain ⟨m, hm', hl⟩ := I2.loc
      obtain ⟨u, r, l⟩ := hl j y v (hN _ hz) hσ (.inr (.inl kc))
      rcases l with ⟨l1, _⟩ | ⟨_, d, l2, l3⟩
      · rw [kc] at l1; cases l1
      · obtain ⟨d', hd'⟩ := clOf_has (cells := X.env.cells) (acc := []) hfr
        have e : d' = d := by have := hcl y d' hd'; rw [l2] at this; exact (Option.some.inj this).symm
        subst e
        obtain ⟨o, ho, hd⟩ := l3
        obtain ⟨o', v', e', _, g'⟩ := h3in d' (mem_cellsOf.mpr ⟨y, l2⟩)
        rw [ho] at g'; cases g'
        exact ⟨d', o, u, hd', e', hd, r⟩
  have hsp := q1 (cellsOf X.env.cells) f H3 hn1 (fun d m => let ⟨o, _, e, _⟩ := h3in d m; ⟨o, e⟩) f1 ?_ (fun b o e hbP => h3sub _ _ (f6 b o e hbP)) hcall
  · have hl := F.len _ _ _ _ hsp
    have rv : Vals [x00, x0, V.ref f] [u, u1, Value.ref f] := .cons r0 (.cons r1 (.cons rfl .nil))
    have hlu : ([u, u1, Value.ref f] ++ []).length = pg.length := hl
    refine wpAny_call (codeAny_mono (F.run X.A X.stack s2 H3 ⟨[u, u1, .ref f], []⟩ [u, u1, .ref f] [x00, x0, .ref f] _ _ hr e0 (by simpa using hb s2 [u, u1, .ref f] I2.kIn hlu) rv hsp) fun r s' hq => ?_)
    cases r with
    | error e => exact hq.elim
    | ok fl =>
      cases fl with
      | next => exact False.elim hq
      | brk => exact False.elim hq
      | cont => exact False.elim hq
      | ret uu =>
        obtain ⟨v, H4, os, bare, un, hok4, rv4, q4⟩ := hq
        have h4in : ∀ d ∈ cellsOf X.env.cells, ∃ o, H4 d = some (frzA o) ∧ s2.heap.get? d = some o ∧ s'.heap.get? d = some o := fun d m => by
          obtain ⟨o, v, e, hd, g⟩ := h3in d m
          have e4 := un.frzs d o _ e
          exact ⟨o, e4, g, (hok4 d _ e4).1⟩
        have h3none : ∀ d, H2 d = none → d ∉ cellsOf X.env.cells → H3 d = none := fun d n m => by rw [h3out d m]; exact n
        have nm : ∀ d o, H2 d = some o → d ∉ cellsOf X.env.cells := fun d o e m => by rw [hnone d m] at e; cases e
        refine ⟨v, hide (cellsOf X.env.cells) H4, I2.call' os ⟨fun d o e n hb hx => ?_, fun d o e n hb hx => ?_, fun d o e n hx => ?_, fun d o e hx => un.there d o e hx, fun d xs e => ?_, fun d o u e => ?_, fun d pz e => ?_⟩ (hide_ok hok4 fun d m => let ⟨o, e, _⟩ := h4in d m; ⟨o, e⟩) bare (fun _ z => nomatch z), rv4, q4⟩
        · by_cases m : d ∈ cellsOf X.env.cells
          · obtain ⟨o', _, g, g'⟩ := h4in d m
            rw [e] at g; cases g
            exact g'
          · exact un.keep d o e (h3none d n m) hb hx
        · by_cases m : d ∈ cellsOf X.env.cells
          · obtain ⟨o', _, g, g'⟩ := h4in d m
            rw [e] at g; cases g
            exact ⟨o.slots, g'⟩
          · exact un.slot d o e (h3none d n m) hb hx
        · by_cases m : d ∈ cellsOf X.env.cells
          · exact hide_in m
          · rw [hide_out m]; exact un.free d o e (h3none d n m) hx
        · rw [hide_out (nm d _ e)]; exact un.tups d xs (h3sub _ _ e)
        · rw [hide_out (nm d _ e)]; exact un.frzs d o u (h3sub _ _ e)
        · rw [hide_out (nm d _ e)]; exact un.tbls d pz (h3sub _ _ e)
  · intro H4 s4
    have out : ∀ b o, H2 b = some o → hide (cellsOf X.env.cells) H4 b = some o := fun b o e => by
      rw [hide_out (fun m => by rw [hnone b m] at e; cases e)]
      exact s4 _ _ (h3sub _ _ e)
    rcases f5 with z | ⟨c2, oc2, z1, z2, z3⟩
    · exact .inl (out _ _ z)
    · exact .inr ⟨c2, oc2, out _ _ z1, out _ _ z2, z3⟩
end
end L2
set_option Elab.async false
set_option linter.all false
set_option maxRecDepth 100000
namespace L2
open PySem PySem.Spec PyProof.Rows
noncomputable def iSeqV (K : PySem.W.Frag) (i : Nat) : TI := fun σ H R => ∃ a, σ[i]? = some (some (.ref a)) ∧ (((∃ xs, SqL K H a xs) ∧ R (Itl K a) H) ∨ ((∃ xs, SqT K H a xs) ∧ R (Itt K a) H))
theorem qi_seqV {X : Cx} {tg l : Expr} {i : Nat} (hl : QE X l (tVar i)) : QI X tg l (iSeqV X.K i) := ⟨fun pins s σ H R I h => by
  obtain ⟨a, e, h | h⟩ := h
  · exact (qi_list hl).out pins s σ H R I ⟨_, e, a, rfl, h.1, h.2⟩
  · exact (qi_tup hl).out pins s σ H R I ⟨_, e, a, rfl, h.1, h.2⟩⟩
section
variable {κ : Type} [DecidableEq κ]
noncomputable def ins1 (l : List κ) (k : κ) : List κ := if k ∈ l then l else l ++ [k]
noncomputable def seenL (ks : List κ) : List κ := ks.foldl ins1 []
theorem seenL_snoc (ks : List κ) (k : κ) : seenL (ks ++ [k]) = ins1 (seenL ks) k := by
  unfold seenL
  rw [List.foldl_append]
  rfl
theorem ins1_nodup {l : List κ} (h : l.Nodup) (k : κ) : (ins1 l k).Nodup := by
  unfold ins1
  split
  · exact h
  · rename_i hk
    rw [List.nodup_append]
    exact ⟨h, List.nodup_cons.mpr ⟨List.not_mem_nil, List.nodup_nil⟩, fun a ha b hb e => hk (by rw [List.mem_singleton] at hb; rw [← hb, ← e]; exact ha)⟩
theorem seenL_nodup (ks : List κ) : (seenL ks).Nodup := by
  have : ∀ (ks l : List κ), l.Nodup → (ks.foldl ins1 l).Nodup := by
    intro ks
    induction ks with
    | nil => exact fun l h => h
    | cons k r ih => exact fun l h => ih _ (ins1_nodup h k)
  exact this ks [] List.nodup_nil
theorem mem_ins1 {l : List κ} {k x : κ} : x ∈ ins1 l k ↔ x ∈ l ∨ x = k := by
  unfold ins1
  split
  · rename_i h
    exact ⟨.inl, fun z => z.elim id fun e => e ▸ h⟩
  · rw [List.mem_append, List.mem_singleton]
theorem mem_seenL (ks : List κ) (x : κ) : x ∈ seenL ks ↔ x ∈ ks := by
  have : ∀ (ks l : List κ), x ∈ ks.foldl ins1 l ↔ x ∈ l ∨ x ∈ ks := by
    intro ks
    induction ks with
    | nil => intro l; simp
    | cons k r ih =>
      intro l
      rw [List.foldl_cons, ih, mem_ins1, List.mem_cons, or_assoc]
  rw [show seenL ks = ks.foldl ins1 [] from rfl, this]
  simp
theorem ins1_len (l : List κ) (k : κ) : (ins1 l k).length ≤ l.length + 1 := by
  unfold ins1
  split
  · omega
  · rw [List.length_append]; exact Nat.le_refl _
theorem seen_len (ks : List κ) : (seenL ks).length ≤ ks.length := by
  have : ∀ (ks l : List κ), (ks.foldl ins1 l).length ≤ l.length + ks.length := by
    intro ks
    induction ks with
    | nil => exact fun l => Nat.le_refl _
    | cons k r ih =>
      intro l
      have h1 := ih (ins1 l k)
      have h2 := ins1_len l k
      rw [List.foldl_cons, List.length_cons]
      omega
  have h := this ks []
  rw [List.length_nil, Nat.zero_add] at h
  exact h
theorem ins1_pre (l : List κ) (k : κ) : ∃ r, ins1 l k = l ++ r := by
  unfold ins1
  split
  · exact ⟨[], (List.append_nil _).symm⟩
  · exact ⟨[k], rfl⟩
theorem fold_pre (ks : List κ) : ∀ l : List κ, ∃ r, ks.foldl ins1 l = l ++ r := by
  induction ks with
  | nil => exact fun l => ⟨[], (List.append_nil _).symm⟩
  | cons k r ih =>
    intro l
    obtain ⟨a, ha⟩ := ins1_pre l k
    obtain ⟨b, hb⟩ := ih (ins1 l k)
    exact ⟨a ++ b, by rw [List.foldl_cons, hb, ha, List.append_assoc]⟩
theorem seenL_take (ks : List κ) (i : Nat) : ∃ r, seenL ks = seenL (ks.take i) ++ r := by
  have e : seenL ks = (ks.drop i).foldl ins1 (seenL (ks.take i)) := by
    unfold seenL
    rw [← List.foldl_append, List.take_append_drop]
  rw [e]
  exact fold_pre _ _
theorem idx_pre {l r : List κ} {k : κ} (h : k ∈ l) : (l ++ r).idxOf k = l.idxOf k := by rw [List.idxOf_append, if_pos h]
theorem idx_map {α β : Type} [DecidableEq α] [DecidableEq β] (f : α → β) (hf : ∀ a b, f a = f b → a = b) (s : α) : ∀ l : List α, (l.map f).idxOf (f s) = l.idxOf s
  | [] => rfl
  | x :: r => by
    rw [List.map_cons, List.idxOf_cons, List.idxOf_cons, idx_map f hf s r]
    by_cases h : x = s
    · subst h
      rw [beq_self_eq_true, beq_self_eq_true]
    · rw [beq_eq_false_iff_ne.mpr h, beq_eq_false_iff_ne.mpr fun z => h (hf _ _ z)]
noncomputable def numKV (l : List κ) : List (κ × V) := l.zipIdx.map fun p => (p.1, V.int (p.2 : Int))
theorem numKV_keys (l : List κ) : (numKV l).map (·.1) = l := by
  unfold numKV
  rw [List.map_map]
  exact List.zipIdx_map_fst 0 l
theorem numKV_len (l : List κ) : (numKV l).length = l.length := by
  unfold numKV
  rw [List.length_map, List.length_zipIdx]
theorem numKV_snoc (l : List κ) (k : κ) : numKV (l ++ [k]) = numKV l ++ [(k, V.int (l.length : Int))] := by
  unfold numKV
  rw [List.zipIdx_append, List.map_append]
  simp
theorem numKV_val : ∀ (l : List κ) (k : κ), k ∈ l → l.Nodup → valV (numKV l) k = some (V.int (l.idxOf k : Int)) := by
  intro l k hk hn
  have hi := List.idxOf_lt_length_of_mem hk
  have hm : (k, V.int (l.idxOf k : Int)) ∈ numKV l := by
    unfold numKV
    refine List.mem_map.mpr ⟨(k, l.idxOf k), ?_, rfl⟩
    rw [List.mem_zipIdx_iff_getElem?]
    simp [hi, List.getElem?_eq_getElem]
  have := valV_mem (kvs := numKV l) (by rw [numKV_keys]; exact hn) _ hm
  exact this
theorem numKV_none (l : List κ) (k : κ) (hk : k ∉ l) : valV (numKV l) k = none := by
  unfold valV
  rw [Option.map_eq_none_iff, List.find?_eq_none]
  intro x hx z
  have : x.1 ∈ (numKV l).map (·.1) := List.mem_map_of_mem hx
  rw [numKV_keys, of_decide_eq_true z] at this
  exact hk this
end
end L2
set_option Elab.async false
set_option linter.all false
set_option maxRecDepth 100000
set_option maxHeartbeats 1000000
namespace EnL
open PySem PySem.Spec PyProof.Rows
open AutoSeq1 (wpAny_loadPart')
noncomputable def tIt (l : Addr) : Obj := { cls := .type "list_iterator", data := .fields #[.ref l, .int 0 0] }
noncomputable def enO (it : Addr) : Obj := { cls := .type "enumerate", data := .fields #[.none, .bool false, .ref it, rawInt 0, .none, .none] }
theorem meets_new (l : Addr) (items : Array Value) :
    Meets (Builtin.«enumerate.__new__» ⟨[.type "enumerate", .ref l], []⟩) (fun _ R s => s.heap.IsList l items ∧
      R (.ok (.ret (.ref (s.heap.push (tIt l)).objs.size))) { s with heap := (s.heap.push (tIt l)).push (enO s.heap.objs.size) }) :=
  .of_wp fun prog w A R s h => by
    obtain ⟨hp, g, d, tk, os⟩ := s; obtain ⟨hL, h⟩ := h
    have hsub := sub_enumerate
    obtain ⟨⟨oc, od, oda, osl⟩, hl, hc, n, hd⟩ := id hL
    simp only at hc hd
    subst hc hd
    wp_walk using wpAny_loadPart' hl
    refine wpAny_stack_any fun st => wpAny_pure ?_
    split
    · rename_i c _ _ _ _ _
      cases (c == Value.type "enumerate")
      · wp_walk using wpAny_loadPart' hl, wpAny_pyIter_list hL
        exact ⟨_, rfl, h⟩
      · wp_walk using wpAny_loadPart' hl, wpAny_pyIter_list hL
        exact ⟨_, rfl, h⟩
    · wp_walk using wpAny_loadPart' hl, wpAny_pyIter_list hL
      exact ⟨_, rfl, h⟩
section
variable {prog : Program} {w : World} {A : Around} {E : Value → Shared → Prop} {s : Shared}
theorem next_of {it l : Addr} {i : Nat} {items} {x : Value} {Q : Value → Shared → Prop} (hit : s.heap.IsListIter it l i) (hl : s.heap.IsList l items) (hx : items[i]? = some x)
    (hQ : ∀ h', h'.IsListIter it l (i + 1) → Heap.SameBut it s.heap h' → Q x { s with heap := h' }) : wpAny (model prog w) A (Builtin.SmallTypes.nextOf (.ref it)) Q E s := by
  obtain ⟨o, ho, hc, hd⟩ := id hit
  obtain ⟨ol, hol, _, nl, hdl⟩ := hl
  unfold Builtin.SmallTypes.nextOf
  refine wpAny_bind (wpAny_callSpecial?_slot (name := Str.ofString "__next__") hit.typeIs slot_listiter_next (wpAny_call_entry slot_listiter_next hit.typeIs entry_listiter_next ?_ (args_listiter_next _)))
  show wpAny _ _ (field (.ref it) 0 >>= _) _ _ s
  refine wpAny_bind (wpAny_field ho hd (x := .ref l) rfl ?_)
  show wpAny _ _ (if (Value.ref l == Value.none) = true then _ else _) _ _ s
  rw [if_neg (show ¬ ((Value.ref l == Value.none) = true) from Bool.false_ne_true)]
  show wpAny _ _ (field (.ref it) 1 >>= _) _ _ s
  refine wpAny_bind (wpAny_field ho hd (x := .int i 0) rfl ?_)
  show wpAny _ _ (seqItems? (.ref l) >>= _) _ _ s
  refine wpAny_bind (wpAny_seqItems hol hdl ?_)
  simp only [Int.toNat_natCast, hx]
  refine wpAny_bind (wpAny_setField ho hd (by simp) (wpAny_pure ⟨x, rfl, wpAny_pure (hQ _ ⟨_, Heap.get?_update_self _ ho (Obj.isFreed_of_fields (Obj.data_mapFields hd _)), (Obj.cls_mapFields ..).trans hc, ?_⟩ (Heap.SameBut.update ..))⟩))
  rw [Obj.data_mapFields hd]
  simp [rawInt]
theorem next_no {it l : Addr} {i : Nat} {items} {Q : Value → Shared → Prop} (hh : A.handled = none) (hit : s.heap.IsListIter it l i) (hl : s.heap.IsList l items) (hx : items[i]? = none)
    (hE : ∀ h' e, Heap.ExtBut it s.heap h' → (∃ o, h'.get? e = some o ∧ o.cls = .type "StopIteration") → E (.ref e) { s with heap := h' }) : wpAny (model prog w) A (Builtin.SmallTypes.nextOf (.ref it)) Q E s := by
  obtain ⟨o, ho, hc, hd⟩ := id hit
  obtain ⟨ol, hol, _, nl, hdl⟩ := hl
  unfold Builtin.SmallTypes.nextOf
  refine wpAny_bind (wpAny_callSpecial?_slot (name := Str.ofString "__next__") hit.typeIs slot_listiter_next (wpAny_call_entry slot_listiter_next hit.typeIs entry_listiter_next ?_ (args_listiter_next _)))
  show wpAny _ _ (field (.ref it) 0 >>= _) _ _ s
  refine wpAny_bind (wpAny_field ho hd (x := .ref l) rfl ?_)
  show wpAny _ _ (if (Value.ref l == Value.none) = true then _ else _) _ _ s
  rw [if_neg (show ¬ ((Value.ref l == Value.none) = true) from Bool.false_ne_true)]
  show wpAny _ _ (field (.ref it) 1 >>= _) _ _ s
  refine wpAny_bind (wpAny_field ho hd (x := .int i 0) rfl ?_)
  show wpAny _ _ (seqItems? (.ref l) >>= _) _ _ s
  refine wpAny_bind (wpAny_seqItems hol hdl ?_)
  simp only [Int.toNat_natCast, hx]
  refine wpAny_bind (wpAny_rule (wpAny_bind (wpAny_setField ho hd (by simp) ?_)))
  show wpAny _ _ (newExc (.type "StopIteration") [] >>= _) _ _ _
  refine wpAny_bind ?_
  simp only [newExc, newTuple]
  refine wpAny_bind (wpAny_newObj_type ?_ (by size_fits))
  refine wpAny_bind (m := firstArgMember _ _) (wpAny_of_eq (a := Value.none) (by first | rfl | (simp only [firstArgMember]; rfl)) ?_)
  refine wpAny_newObj_type ?_ (by size_fits)
  simp only [raiseNew]
  refine wpAny_bind (wpAny_handled ?_)
  first | rw [show A.in1.handled = none from hh] | rw [hh]
  refine wpAny_bind (wpAny_pure (wpAny_throw ?_))
  exact hE _ _ (((Heap.SameBut.update ..).extBut.push _).push _) ⟨_, Heap.get?_push_size _ rfl, rfl⟩
theorem step_in {e it l : Addr} {i : Nat} {items : Array Value} {x old : Value} {Q : Value → Shared → Prop}
    (he : IsEnum s.heap e it i old) (hit : s.heap.IsListIter it l i) (hl : s.heap.IsList l items) (hx : items[i]? = some x) (hne : e ≠ it)
    (hQ : ∀ h', IsEnumOut h' e it ((i : Int) + 1) x s.heap.objs.size → h'.IsListIter it l (i + 1) →
      h'.get? s.heap.objs.size = some { cls := .type "tuple", data := .seq #[.int i s.toks, x] } → h'.objs.size = s.heap.objs.size + 1 →
      (∀ b o, b ≠ e → b ≠ it → s.heap.get? b = some o → h'.get? b = some o) → Q (.ref s.heap.objs.size) { s with heap := h', toks := s.toks + 1 }) :
    wpAny (model prog w) A (Builtin.«enumerate.__next__» ⟨[.ref e], []⟩) (fun fin s' => ∃ v, fin = .done (.ret v) ∧ Q v s') E s := by
  obtain ⟨hp, g, d, tk, os⟩ := s
  show wpAny _ _ (field (.ref e) 2 >>= _) _ _ _
  refine wpAny_bind (wpAny_field he rfl (x := .ref it) rfl ?_)
  refine wpAny_bind (next_of hit hl hx fun h₁ hit₁ hs₁ => ?_)
  replace hs₁ : Heap.SameBut it hp h₁ := hs₁
  have he₁ : IsEnum h₁ e it i old := (hs₁.2 e hne).trans he
  show wpAny _ _ (field (.ref e) 3 >>= _) _ _ ⟨h₁, g, d, tk, os⟩
  refine wpAny_bind (wpAny_field he₁ rfl (x := rawInt i) rfl ?_)
  show wpAny _ _ (field (.ref e) 4 >>= _) _ _ ⟨h₁, g, d, tk, os⟩
  refine wpAny_bind (wpAny_field he₁ rfl (x := .none) rfl ?_)
  show wpAny _ _ (mkInt i >>= _) _ _ ⟨h₁, g, d, tk, os⟩
  refine wpAny_bind (wpAny_mkInt ?_)
  show wpAny _ _ (setField (.ref e) 3 (rawInt ((i : Int) + 1)) >>= _) _ _ ⟨h₁, g, d, tk + 1, os⟩
  refine wpAny_bind (wpAny_setField_rec he₁ (by simp) fun h₂ he₂ hs₂ => ?_)
  replace hs₂ : Heap.SameBut e h₁ h₂ := hs₂
  replace he₂ : IsEnum h₂ e it ((i : Int) + 1) old := he₂
  show wpAny _ _ (setField (.ref e) 4 .none >>= _) _ _ ⟨h₂, g, d, tk + 1, os⟩
  refine wpAny_bind (wpAny_setField_rec he₂ (by simp) fun h₃ he₃ hs₃ => ?_)
  replace hs₃ : Heap.SameBut e h₂ h₃ := hs₃
  replace he₃ : IsEnum h₃ e it ((i : Int) + 1) old := he₃
  show wpAny _ _ (newTuple [.int i tk, x] >>= _) _ _ ⟨h₃, g, d, tk + 1, os⟩
  refine wpAny_bind (wpAny_newTuple ?_)
  have he₄ : IsEnum (h₃.push { cls := .type "tuple", data := .seq #[.int i tk, x] }) e it ((i : Int) + 1) old := Heap.get?_push_of_some _ he₃
  generalize hh₄ : h₃.push { cls := .type "tuple", data := .seq #[.int i tk, x] } = h₄ at he₄
  have hsz : h₃.objs.size = hp.objs.size := by rw [hs₃.1, hs₂.1, hs₁.1]
  have hel : e < hp.objs.size := Heap.lt_size he
  have ht₄ : h₄.get? hp.objs.size = some { cls := .type "tuple", data := .seq #[.int i tk, x] } := by rw [← hh₄, ← hsz]; exact Heap.get?_push_size _ rfl
  have hz₄ : h₄.objs.size = hp.objs.size + 1 := by rw [← hh₄, Heap.size_push, hsz]
  have hk₄ : ∀ b o, b ≠ e → b ≠ it → hp.get? b = some o → h₄.get? b = some o := fun b o hbe hbi hb => by
    rw [← hh₄]; exact Heap.get?_push_of_some _ (hs₃.extBut b o hbe (hs₂.extBut b o hbe (hs₁.extBut b o hbi hb)))
  have hit₄ : h₄.IsListIter it l (i + 1) := by
    rw [← hh₄]; obtain ⟨o, ho, r⟩ := (hit₁.extBut hs₂.extBut (Ne.symm hne)).extBut hs₃.extBut (Ne.symm hne); exact ⟨o, Heap.get?_push_of_some _ ho, r⟩
  show wpAny _ _ (Builtin.SmallTypes.ownedTupleIsFree (.ref e) >>= _) _ _ ⟨h₄, g, d, tk + 1, os⟩
  rw [hsz]
  clear hh₄ he₃ hs₃ he₂ hs₂ he₁ hs₁ hit₁ hsz h₃ h₂ h₁
  refine wpAny_bind ?_
  · unfold Builtin.SmallTypes.ownedTupleIsFree
    refine wpAny_bind (wpAny_field he₄ rfl (x := .none) rfl (wpAny_pure ?_))
    simp only [if_true]
    refine wpAny_bind (wpAny_rule ?_)
    refine wpAny_bind (wpAny_field he₄ rfl (x := old) rfl ?_)
    refine wpAny_bind (wpAny_setField_rec he₄ (by simp) fun h₅ he₅ hs₅ => ?_)
    replace hs₅ : Heap.SameBut e h₄ h₅ := hs₅
    replace he₅ : IsEnum h₅ e it ((i : Int) + 1) x := he₅
    show wpAny _ _ (Builtin.SmallTypes.ownedTupleHandOut (.ref e) (.ref hp.objs.size) >>= _) _ _ ⟨h₅, g, d, tk + 1, os⟩
    refine wpAny_bind ?_
    · unfold Builtin.SmallTypes.ownedTupleHandOut
      refine wpAny_bind (wpAny_setField_rec he₅ (by simp) fun h₆ he₆ hs₆ => ?_)
      replace hs₆ : Heap.SameBut e h₅ h₆ := hs₆
      replace he₆ : IsEnumOut h₆ e it ((i : Int) + 1) x hp.objs.size := he₆
      refine wpAny_setField_rec he₆ (by simp) fun h₇ he₇ hs₇ => ?_
      replace hs₇ : Heap.SameBut e h₆ h₇ := hs₇
      replace he₇ : IsEnumOut h₇ e it ((i : Int) + 1) x hp.objs.size := he₇
      refine wpAny_bind (wpAny_letGo (wpAny_pure ⟨_, rfl, hQ h₇ he₇ ?_ ?_ ?_ ?_⟩))
      · exact ((hit₄.extBut hs₅.extBut (Ne.symm hne)).extBut hs₆.extBut (Ne.symm hne)).extBut hs₇.extBut (Ne.symm hne)
      · exact hs₇.extBut _ _ (Nat.ne_of_gt hel) (hs₆.extBut _ _ (Nat.ne_of_gt hel) (hs₅.extBut _ _ (Nat.ne_of_gt hel) ht₄))
      · rw [hs₇.1, hs₆.1, hs₅.1, hz₄]
      · exact fun b o hbe hbi hb => hs₇.extBut b o hbe (hs₆.extBut b o hbe (hs₅.extBut b o hbe (hk₄ b o hbe hbi hb)))
theorem next_item {e it l : Addr} {i : Nat} {items : Array Value} {x old : Value} {Q : Option Value → Shared → Prop}
    (he : IsEnum s.heap e it i old) (hit : s.heap.IsListIter it l i) (hl : s.heap.IsList l items) (hx : items[i]? = some x) (hne : e ≠ it)
    (hQ : ∀ h', IsEnumOut h' e it ((i : Int) + 1) x s.heap.objs.size → h'.IsListIter it l (i + 1) →
      h'.get? s.heap.objs.size = some { cls := .type "tuple", data := .seq #[.int i s.toks, x] } → h'.objs.size = s.heap.objs.size + 1 →
      (∀ b o, b ≠ e → b ≠ it → s.heap.get? b = some o → h'.get? b = some o) → Q (some (.ref s.heap.objs.size)) { s with heap := h', toks := s.toks + 1 }) :
    wpAny (model prog w) A (pyNext (.ref e)) Q E s := by
  have hT : s.TypeIs (.ref e) "enumerate" := ⟨_, he, rfl⟩
  unfold pyNext
  exact wpAny_bind (wpAny_attempt (wpAny_callSpecial?_slot (name := Str.ofString "__next__") hT F.slot_enumerate_next (wpAny_call_entry F.slot_enumerate_next hT F.entry_enumerate_next
      (step_in he hit hl hx hne fun h' a b c d k => wpAny_pure (hQ h' a b c d k)) (F.args_enumerate_next_1 _))))
theorem next_end {e it l : Addr} {i : Nat} {items : Array Value} {old : Value} {Q : Option Value → Shared → Prop} (hh : A.handled = none)
    (he : IsEnum s.heap e it i old) (hit : s.heap.IsListIter it l i) (hl : s.heap.IsList l items) (hx : items[i]? = none)
    (hQ : ∀ h', Heap.ExtBut it s.heap h' → Q none { s with heap := h' }) : wpAny (model prog w) A (pyNext (.ref e)) Q E s := by
  have hT : s.TypeIs (.ref e) "enumerate" := ⟨_, he, rfl⟩
  unfold pyNext
  refine wpAny_bind (wpAny_attempt (wpAny_callSpecial?_slot (name := Str.ofString "__next__") hT F.slot_enumerate_next (wpAny_call_entry F.slot_enumerate_next hT F.entry_enumerate_next ?_ (F.args_enumerate_next_1 _))))
  show wpAny _ _ (field (.ref e) 2 >>= _) _ _ _
  refine wpAny_bind (wpAny_field he rfl (x := .ref it) rfl ?_)
  refine wpAny_bind (next_no hh hit hl hx fun h' x he' hx' => ?_)
  obtain ⟨o, ho, hc⟩ := hx'
  refine wpAny_bind (wpAny_isInstance (T := "StopIteration") (b := true) ⟨o, ho, hc⟩ isSubtype_stop ?_)
  exact wpAny_pure (hQ _ he')
theorem call_new {l : Addr} {items : Array Value} {Q : Value → Shared → Prop} (hl : s.heap.IsList l items)
    (h : ∀ h', IsEnum h' (s.heap.objs.size + 1) s.heap.objs.size 0 .none → h'.IsListIter s.heap.objs.size l 0 → h'.objs.size = s.heap.objs.size + 2 →
      (∀ b o, s.heap.get? b = some o → h'.get? b = some o) → Q (.ref (s.heap.objs.size + 1)) { s with heap := h' }) : wpAny (model prog w) A (call (.type "enumerate") [.ref l]) Q E s := by
  refine callType_new F.called_enumerate (by decide) (F.typeCall_enumerate_1 _) (F.newCall_enumerate_1 _) (fun obj => F.args_object_init_2 obj _) F.entry_enumerate_new (meets_new l items) ⟨hl, ?_⟩
  have hz : (s.heap.push (tIt l)).objs.size = s.heap.objs.size + 1 := Heap.size_push ..
  show _ ∧ _
  rw [hz]
  have he : IsEnum ((s.heap.push (tIt l)).push (enO s.heap.objs.size)) (s.heap.objs.size + 1) s.heap.objs.size 0 .none := by
    have := Heap.get?_push_size (s.heap.push (tIt l)) (o := enO s.heap.objs.size) rfl
    rw [hz] at this
    exact this
  refine ⟨⟨_, he, rfl⟩, h _ he ⟨_, Heap.get?_push_of_some _ (Heap.get?_push_size _ rfl), rfl, rfl⟩ (by rw [Heap.size_push, hz]) fun b o x => Heap.get?_push_of_some _ (Heap.get?_push_of_some _ x)⟩
end
end EnL
namespace L2
open PySem PySem.Spec PyProof.Rows
noncomputable def Itel (K : PySem.W.Frag) (a : Addr) (n : Nat) : It :=
  ⟨fun i H => ∃ xs x, SqL K H a xs ∧ xs.length = n ∧ xs[i]? = some x, fun i H v H' => ∃ p, H p = none ∧ v = .ref p ∧ ∀ xs x, SqL K H a xs → xs[i]? = some x → H' = upd H p (.tup [.int i, x]), fun i H => ∃ xs, SqL K H a xs ∧ xs.length = n ∧ n ≤ i⟩
theorem turn_enumL {P : Program} {w : World} {K : PySem.W.Frag} {es : List Expr} {q : Nat} {ps : Pos} (a e it : Addr) (n : Nat) (hei : e ≠ it) : Turn P w K (.Tuple es q ps) (Itel K a n) [e, it] e (fun i h => (∃ old, IsEnum h e it i old) ∧ h.IsListIter it a i) where
  mem := by simp
  obj := fun i h st b hb => by
    obtain ⟨⟨old, he⟩, o, ho, hc, hd⟩ := st
    rcases List.mem_cons.mp hb with rfl | hb
    · exact ⟨_, he, fun v z => by
        have z' : Data.fields _ = Data.cell v := z
        cases z'⟩
    · have : b = it := by simpa using hb
      subst this
      exact ⟨o, ho, fun v z => by rw [hd] at z; cases z⟩
  keep := fun i h h' st k => by
    obtain ⟨⟨old, he⟩, hit⟩ := st
    exact ⟨⟨old, k e (by simp) _ he⟩, hit.at fun o x => k it (by simp) o x⟩
  item := by
    intro X hP hw hK hc i pins s σ H E I hf st hg
    subst hP hw hK
    obtain ⟨xs, x, hq, hn, hx⟩ := hg
    obtain ⟨its, rv, p, hz⟩ := I.list hq
    obtain ⟨u, hu, ru⟩ := rv.get hx
    obtain ⟨⟨old, he⟩, hit⟩ := st
    obtain ⟨f0, f1, f2, f3, f4, f5⟩ := hf e (by simp)
    obtain ⟨g0, g1, g2, g3, g4, g5⟩ := hf it (by simp)
    have hlt : e < s.heap.objs.size := Heap.lt_size he
    have hilt : it < s.heap.objs.size := by obtain ⟨_, z, _⟩ := hit; exact Heap.lt_size z
    refine EnL.next_item he hit p.isList (x := u) (by simpa using hu) hei fun h' ho hit' hT hsz hk => ?_
    refine ⟨_, rfl, wpAny_letOwnedTupleGo_enum (s := { s with heap := h', toks := s.toks + 1 }) ho fun h2 he2 hs2 => ?_⟩
    have hs2' : Heap.SameBut e h' h2 := hs2
    have I1 : Inv X pins σ (upd H s.heap.objs.size (.tup [.int i, x])) { s with heap := s.heap.push { cls := .type "tuple", data := .seq #[.int i s.toks, u] }, toks := s.toks + 1 } :=
      I.laid (fun b o y => Heap.get?_push_of_some _ y) (Nat.le_refl _) ⟨by show 2 ≤ sizeLine; decide, [.int i s.toks, u], .cons ⟨_, rfl⟩ (.cons ru .nil), IsTup.new _ _⟩
    have fp' : ∀ b ∈ [e, it], FpOk X pins (upd H s.heap.objs.size (.tup [.int i, x])) b := fun b hb => by
      have hlb : b ≠ s.heap.objs.size := by
        rcases List.mem_cons.mp hb with rfl | hb
        · exact Nat.ne_of_lt hlt
        · have : b = it := by simpa using hb
          rw [this]
          exact Nat.ne_of_lt hilt
      obtain ⟨a0, ar⟩ := hf b hb
      exact ⟨by rw [upd_ne hlb]; exact a0, ar⟩
    have I2 : Inv X pins σ (upd H s.heap.objs.size (.tup [.int i, x])) { s with heap := h2, toks := s.toks + 1 } := by
      refine turned_all (s := { s with heap := s.heap.push { cls := .type "tuple", data := .seq #[.int i s.toks, u] }, toks := s.toks + 1 }) I1 fp' fun b o hb y => ?_
      have hbe : b ≠ e := fun z => hb (by simp [z])
      have hbi : b ≠ it := fun z => hb (by simp [z])
      rcases Heap.get?_push_cases y with ⟨rfl, rfl⟩ | y
      · exact (hs2'.2 _ hbe).trans hT
      · exact (hs2'.2 b hbe).trans (hk b o hbe hbi y)
    refine ⟨.ref s.heap.objs.size, _, I2, rfl, ⟨_, I.hok.fresh (Nat.le_refl _), rfl, fun ys y hy hyi => ?_⟩, ⟨⟨u, ?_⟩, hit'.at fun o y => (hs2'.2 it hei.symm).trans y⟩, fun b hb => (fp' b hb).1⟩
    · rw [I.list_inj hy hq, hx] at hyi
      cases hyi
      rfl
    · have e1 : ((i + 1 : Nat) : Int) = (i : Int) + 1 := by omega
      show IsEnum h2 e it ((i + 1 : Nat) : Int) u
      rw [e1]
      exact he2
  done := by
    intro X hP hw hK hc i pins s σ H E I hf st hg
    subst hP hw hK
    obtain ⟨xs, hq, hn, hx⟩ := hg
    obtain ⟨its, rv, p, hz⟩ := I.list hq
    obtain ⟨⟨old, he⟩, hit⟩ := st
    obtain ⟨g0, g1, g2, g3, g4, g5⟩ := hf it (by simp)
    have hl := rv.length
    exact EnL.next_end (I.ok.hd hc) he hit p.isList (by simp; omega) fun h' eb => ⟨rfl, I.turned (t' := s.toks) (fun b o hb e => eb b o hb e) g0 g1 g3 g4 g5⟩
  self := fun _ _ _ _ _ st h => let ⟨⟨_, he⟩, _⟩ := st; wpAny_pyIter_enum he h
noncomputable def iEnumL (K : PySem.W.Frag) (te : TE) : TI := fun σ H R => te σ H fun x H1 => ∃ a xs, x = .ref a ∧ SqL K H1 a xs ∧ R (Itel K a xs.length) H1
theorem qi_enumL {X : Cx} {e : Expr} {es : List Expr} {q : Nat} {ps : Pos} {te : TE} {p pos : Pos} (hg : Gl X "enumerate") (hm : X.mg "enumerate" = none) (he : QE X e te) (hp : plainE e = true := by rfl) : QI X (.Tuple es q ps) (.Call (.Name "enumerate" p) [e] [] pos) (iEnumL X.K te) := by
  refine ⟨fun pins s σ H R I h => ?_⟩
  have hs : starEach [e] X.env = [(false, eval e X.env)] := by rw [starEach_plain hp]; rfl
  refine Call_ (ld_blt I hg hm bt_enumerate (PyProof.Rows.callWith_type1 ?_ hs rfl))
  rw [hs]
  show wpAny _ _ (spliced ((false, eval e X.env) :: [])) _ _ s
  refine Calls.spliced_cons (thn (he.out pins s σ H _ I h) fun u s1 ⟨x, H1, I1, ru, q1⟩ => ?_)
  refine Calls.spliced_nil ?_
  obtain ⟨a, xs, rfl, hq, r⟩ := q1
  cases ru
  obtain ⟨its, rv, pt, hz⟩ := I1.list hq
  refine EnL.call_new pt.isList fun h' he' hit' hsz hk => ?_
  have I2 : Inv X pins σ H1 { s1 with heap := h' } := I1.kept (t' := s1.toks) hk
  refine wpAny_pyIter_enum he' ⟨s1.heap.objs.size + 1, [s1.heap.objs.size + 1, s1.heap.objs.size], _, _, H1, rfl, I2, turn_enumL a (s1.heap.objs.size + 1) s1.heap.objs.size xs.length (Nat.succ_ne_self _), ⟨⟨_, he'⟩, hit'⟩, fun b hb => ?_, r⟩
  rcases List.mem_cons.mp hb with rfl | hb
  · exact I1.fpOk (Nat.le_succ _) (I1.hok.fresh (Nat.le_succ _))
  · have : b = s1.heap.objs.size := by simpa using hb
    subst this
    exact I1.fpOk (Nat.le_refl _) (I1.hok.fresh (Nat.le_refl _))
theorem for_enumL {K : PySem.W.Frag} {a : Addr} {xs : List V} {j k : Nat} {tb : TS} {D : Ends} {σ : St} {H : Hp} (Pv : Nat → St → Hp → Prop) (h0 : Pv 0 σ H) (hl : ∀ i σ H, i ≤ xs.length → Pv i σ H → SqL K H a xs)
    (hs : ∀ i x σ H p, xs[i]? = some x → H p = none → Pv i σ H → tb { D with nx := Pv (i + 1), ct := Pv (i + 1), bk := D.nx } ((σ.set j (some (.int i))).set k (some x)) (upd H p (.tup [.int i, x]))) (hd : ∀ σ H, Pv xs.length σ H → D.nx σ H) :
    ∃ W : Nat → Nat → St → Hp → Prop, (∃ m, W 0 m σ H) ∧ ∀ i m σ H, W i m σ H →
      ((Itel K a xs.length).stop i H ∧ D.nx σ H) ∨ ((Itel K a xs.length).go i H ∧ ∃ N : St → Hp → Prop, (∀ σ' H', N σ' H' → ∃ m', m' < m ∧ W (i + 1) m' σ' H') ∧ ∀ x H', (Itel K a xs.length).yld i H x H' → (gTup K 2 (gCons (gName j) (gCons (gName k) gNil))) x σ H' fun σ2 H2 => tb { D with nx := N, ct := N, bk := D.nx } σ2 H2) := by
  refine ⟨fun i m σ H => m = xs.length - i ∧ i ≤ xs.length ∧ Pv i σ H, ⟨xs.length, by simp, Nat.zero_le _, h0⟩, ?_⟩
  rintro i m σ H ⟨rfl, hi, p⟩
  have hq := hl i σ H hi p
  by_cases hlt : i < xs.length
  · have hx := List.getElem?_eq_getElem hlt
    refine .inr ⟨⟨xs, xs[i], hq, rfl, hx⟩, Pv (i + 1), fun σ' H' p' => ⟨xs.length - (i + 1), by omega, rfl, hlt, p'⟩, fun v H' y => ?_⟩
    obtain ⟨t, ht, rfl, y⟩ := y
    have e := y xs _ hq hx
    subst e
    exact ⟨t, _, rfl, SqT.of upd_same, rfl, _, _, rfl, _, _, rfl, rfl, hs i _ σ H t hx ht p⟩
  · have e : i = xs.length := by omega
    exact .inl ⟨⟨xs, hq, rfl, by omega⟩, by rw [e] at p; exact hd σ H p⟩
end L2
set_option Elab.async false
set_option linter.all false
namespace L2
section
variable {κ β : Type} [DecidableEq κ] [DecidableEq β]
noncomputable def numb (ks : List κ) : List Nat := ks.map fun k => (seenL ks).idxOf k
theorem numb_len (ks : List κ) : (numb ks).length = ks.length := List.length_map ..
theorem numb_get (ks : List κ) (i : Nat) : (numb ks)[i]? = (ks[i]?).map fun k => (seenL ks).idxOf k := List.getElem?_map ..
theorem idx_inj {l : List κ} {a b : κ} (ha : a ∈ l) (h : l.idxOf a = l.idxOf b) (hb : b ∈ l) : a = b := by
  have h1 := List.getElem_idxOf (List.idxOf_lt_length_of_mem ha)
  have h2 := List.getElem_idxOf (List.idxOf_lt_length_of_mem hb)
  rw [← h1, ← h2]
  simp only [h]
theorem numb_iff {ks : List κ} {i j : Nat} {a b : κ} (ha : ks[i]? = some a) (hb : ks[j]? = some b) : (numb ks)[i]? = (numb ks)[j]? ↔ a = b := by
  rw [numb_get, numb_get, ha, hb]
  constructor
  · intro h
    exact idx_inj ((mem_seenL ks a).mpr (List.mem_of_getElem? ha)) (Option.some.inj h) ((mem_seenL ks b).mpr (List.mem_of_getElem? hb))
  · intro h
    rw [h]
theorem ins1_map (f : κ → β) (l : List κ) (k : κ) (h : ∀ a ∈ l, f a = f k → a = k) : ins1 (l.map f) (f k) = (ins1 l k).map f := by
  unfold ins1
  by_cases hk : k ∈ l
  · rw [if_pos hk, if_pos (List.mem_map_of_mem hk)]
  · rw [if_neg hk, if_neg, List.map_append]
    · rfl
    · intro z
      obtain ⟨a, ha, e⟩ := List.mem_map.mp z
      exact hk (h a ha e ▸ ha)
theorem seen_map (f : κ → β) (ks : List κ) (h : ∀ a ∈ ks, ∀ b ∈ ks, f a = f b → a = b) : seenL (ks.map f) = (seenL ks).map f := by
  have go : ∀ (ks l : List κ), (∀ a, a ∈ l ∨ a ∈ ks → ∀ b, b ∈ l ∨ b ∈ ks → f a = f b → a = b) → (ks.map f).foldl ins1 (l.map f) = (ks.foldl ins1 l).map f := by
    intro ks
    induction ks with
    | nil => exact fun l _ => rfl
    | cons k r ih =>
      intro l hh
      rw [List.map_cons, List.foldl_cons, List.foldl_cons, ins1_map f l k fun a ha e => hh a (.inl ha) k (.inr List.mem_cons_self) e]
      refine ih _ fun a ha b hb => hh a ?_ b ?_
      · rcases ha with ha | ha
        · rcases mem_ins1.mp ha with z | z
          · exact .inl z
          · exact .inr (z ▸ List.mem_cons_self)
        · exact .inr (List.mem_cons_of_mem _ ha)
      · rcases hb with ha | ha
        · rcases mem_ins1.mp ha with z | z
          · exact .inl z
          · exact .inr (z ▸ List.mem_cons_self)
        · exact .inr (List.mem_cons_of_mem _ ha)
  exact go ks [] fun a ha b hb => h a (ha.resolve_left List.not_mem_nil) b (hb.resolve_left List.not_mem_nil)
theorem idx_on (f : κ → β) (s : κ) : ∀ l : List κ, (∀ a ∈ l, f a = f s → a = s) → (l.map f).idxOf (f s) = l.idxOf s
  | [], _ => rfl
  | x :: r, h => by
    rw [List.map_cons, List.idxOf_cons, List.idxOf_cons, idx_on f s r fun a ha => h a (List.mem_cons_of_mem _ ha)]
    by_cases e : x = s
    · subst e
      rw [beq_self_eq_true, beq_self_eq_true]
    · rw [beq_eq_false_iff_ne.mpr e, beq_eq_false_iff_ne.mpr fun z => e (h x List.mem_cons_self z)]
theorem numb_map (f : κ → β) (ks : List κ) (h : ∀ a ∈ ks, ∀ b ∈ ks, f a = f b → a = b) : numb (ks.map f) = numb ks := by
  unfold numb
  rw [List.map_map, seen_map f ks h]
  refine List.map_congr_left fun k hk => ?_
  exact idx_on f k _ fun a ha e => h a ((mem_seenL ks a).mp ha) k hk e
theorem numb_on (ks : List κ) : ∀ a ∈ ks, ∀ b ∈ ks, (seenL ks).idxOf a = (seenL ks).idxOf b → a = b := fun a ha b hb e => idx_inj ((mem_seenL ks a).mpr ha) e ((mem_seenL ks b).mpr hb)
theorem numb_numb (ks : List κ) : numb (numb ks) = numb ks := numb_map (fun k => (seenL ks).idxOf k) ks (numb_on ks)
theorem seen_numb (ks : List κ) : (seenL (numb ks)).length = (seenL ks).length := by
  unfold numb
  rw [seen_map _ ks (numb_on ks), List.length_map]
theorem len_of_sub : ∀ {l1 l2 : List κ}, l1.Nodup → (∀ x ∈ l1, x ∈ l2) → l1.length ≤ l2.length
  | [], _, _, _ => Nat.zero_le _
  | a :: r, l2, h1, hs => by
    rw [List.nodup_cons] at h1
    have ha := hs a List.mem_cons_self
    have := len_of_sub (l1 := r) (l2 := l2.erase a) h1.2 fun x hx => (List.mem_erase_of_ne (show x ≠ a from fun z => h1.1 (z ▸ hx))).mpr (hs x (List.mem_cons_of_mem _ hx))
    rw [List.length_erase_of_mem ha] at this
    have hp := List.length_pos_of_mem ha
    rw [List.length_cons]
    omega
theorem nodup_of : ∀ {l1 l2 : List κ}, l1.Nodup → (∀ x ∈ l1, x ∈ l2) → l2.length ≤ l1.length → l2.Nodup
  | [], l2, _, _, hl => by
    rw [List.eq_nil_of_length_eq_zero (Nat.le_zero.mp hl)]
    exact List.nodup_nil
  | a :: r, l2, h1, hs, hl => by
    rw [List.nodup_cons] at h1
    have ha := hs a List.mem_cons_self
    have hsub : ∀ x ∈ r, x ∈ l2.erase a := fun x hx => (List.mem_erase_of_ne (show x ≠ a from fun z => h1.1 (z ▸ hx))).mpr (hs x (List.mem_cons_of_mem _ hx))
    have hle := List.length_erase_of_mem ha
    have hp := List.length_pos_of_mem ha
    rw [List.length_cons] at hl
    have ih := nodup_of h1.2 hsub (by omega)
    have hna : a ∉ l2.erase a := fun z => by
      have := len_of_sub (l1 := r) (l2 := (l2.erase a).erase a) h1.2 fun x hx => (List.mem_erase_of_ne (show x ≠ a from fun z => h1.1 (z ▸ hx))).mpr (hsub x hx)
      rw [List.length_erase_of_mem z] at this
      have hp2 := List.length_pos_of_mem z
      omega
    exact (List.perm_cons_erase ha).nodup_iff.mpr (List.nodup_cons.mpr ⟨hna, ih⟩)
theorem inj_of_count (f : κ → β) (ks : List κ) (h : (seenL ks).length ≤ (seenL (ks.map f)).length) : ∀ a ∈ ks, ∀ b ∈ ks, f a = f b → a = b := by
  have hn : ((seenL ks).map f).Nodup := nodup_of (seenL_nodup (ks.map f)) (fun x hx => by
    obtain ⟨k, hk, e⟩ := List.mem_map.mp ((mem_seenL _ x).mp hx)
    exact List.mem_map.mpr ⟨k, (mem_seenL ks k).mpr hk, e⟩) (by rw [List.length_map]; exact h)
  intro a ha b hb e
  have ia := List.idxOf_lt_length_of_mem ((mem_seenL ks a).mpr ha)
  have ib := List.idxOf_lt_length_of_mem ((mem_seenL ks b).mpr hb)
  have ga : ((seenL ks).map f)[(seenL ks).idxOf a]? = some (f a) := by
    rw [List.getElem?_map, List.getElem?_eq_getElem ia, List.getElem_idxOf ia]
    rfl
  have gb : ((seenL ks).map f)[(seenL ks).idxOf b]? = some (f b) := by
    rw [List.getElem?_map, List.getElem?_eq_getElem ib, List.getElem_idxOf ib]
    rfl
  have := (List.getElem?_inj (i := (seenL ks).idxOf a) (j := (seenL ks).idxOf b) (by rw [List.length_map]; exact ia) hn).mp (by rw [ga, gb, e])
  exact idx_inj ((mem_seenL ks a).mpr ha) this ((mem_seenL ks b).mpr hb)
theorem numb_lt {ks : List κ} {m : Nat} (h : m ∈ numb ks) : m < (seenL ks).length := by
  obtain ⟨k, hk, rfl⟩ := List.mem_map.mp h
  exact List.idxOf_lt_length_of_mem ((mem_seenL ks k).mpr hk)
theorem numb_max {ks : List κ} {m : Nat} (h : m ∈ numb ks) (hm : ∀ n ∈ numb ks, n ≤ m) : m + 1 = (seenL ks).length := by
  have h1 := numb_lt h
  have hl : (seenL ks).length - 1 < (seenL ks).length := by omega
  have hk : (seenL ks)[(seenL ks).length - 1] ∈ ks := (mem_seenL ks _).mp (List.getElem_mem hl)
  have hi : (seenL ks).idxOf (seenL ks)[(seenL ks).length - 1] = (seenL ks).length - 1 := List.Nodup.idxOf_getElem (seenL_nodup ks) _ hl
  have := hm _ (List.mem_map.mpr ⟨_, hk, rfl⟩)
  rw [hi] at this
  omega
end
end L2
set_option Elab.async false
set_option linter.all false
set_option maxRecDepth 100000
namespace L2
open PySem PySem.Spec PyProof.Rows
theorem comp2_zipG {K : PySem.W.Frag} {b1 b2 : Bool} {a1 a2 : Addr} {xs ys : List V} {is : List Nat} {tc : TT} {te : TE} {σ : St} {H : Hp} {Q : VK} (Pv : Nat → List V → Hp → Prop) (h0 : Pv 0 [] H) (hl : ∀ i zs H, Pv i zs H → zs.length ≤ sizeLine) (hq : ∀ i zs H, Pv i zs H → SqB K b1 H a1 xs ∧ SqB K b2 H a2 ys)
    (hs : ∀ i x y p zs H (R : List V → Hp → Prop), (∀ zs H, Pv (i + 1) zs H → R zs H) → xs[i]? = some x → ys[i]? = some y → Pv i zs H → H p = none → tc (sel2 is σ (some x) (some y)) (upd H p (.tup [x, y])) fun b H2 => if b = true then te (sel2 is σ (some x) (some y)) H2 fun y H3 => R (zs ++ [y]) H3 else R zs H2)
    (hd : ∀ zs H, Pv (xs.zip ys).length zs H → ∀ p, H p = none → Q (.ref p) (upd H p (.lst zs))) :
    CompW2 K is tc te σ Q (Itz K b1 b2 a1 a2) H := by
  refine ⟨fun i m zs H => m = (xs.zip ys).length - i ∧ i ≤ (xs.zip ys).length ∧ Pv i zs H, ⟨(xs.zip ys).length, by simp, Nat.zero_le _, h0⟩, ?_⟩
  rintro i m zs H ⟨rfl, hi, p⟩
  obtain ⟨q1, q2⟩ := hq i zs H p
  have hz : (xs.zip ys).length = min xs.length ys.length := List.length_zip
  by_cases hlt : i < (xs.zip ys).length
  · have l1 : i < xs.length := by omega
    have l2 : i < ys.length := by omega
    refine .inr ⟨⟨xs, ys, xs[i], ys[i], q1, q2, List.getElem?_eq_getElem l1, List.getElem?_eq_getElem l2⟩, hl i zs H p, fun x H' y => ?_⟩
    obtain ⟨c, hc, rfl, e⟩ := y
    rw [e xs ys _ _ q1 q2 (List.getElem?_eq_getElem l1) (List.getElem?_eq_getElem l2)]
    exact ⟨c, _, _, rfl, SqT.of upd_same, hs i _ _ c zs H (fun zs H => ∃ m', m' < (xs.zip ys).length - i ∧ (fun i m zs H => m = (xs.zip ys).length - i ∧ i ≤ (xs.zip ys).length ∧ Pv i zs H) (i + 1) m' zs H) (fun zs H p' => ⟨(xs.zip ys).length - (i + 1), by omega, rfl, hlt, p'⟩) (List.getElem?_eq_getElem l1) (List.getElem?_eq_getElem l2) p hc⟩
  · have e : i = (xs.zip ys).length := by omega
    subst e
    exact .inl ⟨⟨xs, ys, q1, q2, by omega⟩, hl _ zs H p, hd zs H p⟩
end L2
set_option Elab.async false
set_option linter.all false
namespace L2
open PySem PySem.Spec PyProof.Rows
theorem units4_of {k : Nat} {A : Around} (r : Room k A) : A.units + 4 < cLine := by have := r.un; omega
section
variable {X : Cx}
end
end L2
set_option Elab.async false
set_option linter.all false
namespace L2
open PySem PySem.Spec PyProof.Rows
noncomputable def EqB (H : Hp) : Nat → V → V → Bool → Prop
  | 0, x, y, b => flatV x = true ∧ flatV y = true ∧ b = eqV x y
  | n + 1, x, y, b => (flatV x = true ∧ flatV y = true ∧ b = eqV x y) ∨ ∃ (a c : Addr) (xs ys : List V) (e : Nat → Bool), x = .ref a ∧ y = .ref c ∧ H a = some (.tup xs) ∧ H c = some (.tup ys) ∧ b = ((List.range (min xs.length ys.length)).all e && xs.length == ys.length) ∧ ∀ (j : Nat) (u v : V), xs[j]? = some u → ys[j]? = some v → EqB H n u v (e j)
theorem eqB_self {H : Hp} : ∀ (n : Nat) (x : V) (b : Bool), EqB H n x x b → b = true
  | 0, x, b, h => by
    obtain ⟨f, _, rfl⟩ := h
    exact eqV_self f
  | n + 1, x, b, h => by
    rcases h with ⟨f, _, rfl⟩ | ⟨a, c, xs, ys, e, rfl, ec, ha, hc, rfl, he⟩
    · exact eqV_self f
    · cases ec
      rw [ha] at hc
      cases hc
      rw [Nat.min_self, beq_self_eq_true, Bool.and_true, List.all_eq_true]
      intro j hj
      have hj := List.mem_range.mp hj
      exact eqB_self n _ _ (he j _ _ (List.getElem?_eq_getElem hj) (List.getElem?_eq_getElem hj))
theorem itm_at {xs : List V} {its : List Value} (r : Vals xs its) {j : Nat} (h1 : j < its.toArray.size) : ∃ x, xs[j]? = some x ∧ RelV x its.toArray[j] := by
  have hj : j < xs.length := by rw [r.length]; simpa using h1
  obtain ⟨u, e1, q1⟩ := r.get (List.getElem?_eq_getElem hj)
  have e1' : its.toArray[j] = u := by
    have : its[j]? = some its[j] := List.getElem?_eq_getElem (by simpa using h1)
    rw [e1] at this
    simpa using (Option.some.inj this).symm
  rw [e1']
  exact ⟨_, List.getElem?_eq_getElem hj, q1⟩
theorem eqAt_B {X : Cx} {pins : List (Addr × Obj)} {σ : St} {H : Hp} {s : Shared} (I : Inv X pins σ H s) : ∀ (n : Nat) (A : Around) (x y : V) (b : Bool) (v u : Value), RelV x v → RelV y u → EqB H n x y b → A.units + n < cLine → SeqAt.EqAt A s v u b
  | 0, A, x, y, b, v, u, rx, ry, h, hu => by
    obtain ⟨f, f', rfl⟩ := h
    exact eqAt_V (A := A) (s := s) rx ry f f'
  | n + 1, A, x, y, b, v, u, rx, ry, h, hu => by
    rcases h with ⟨f, f', rfl⟩ | ⟨a, c, xs, ys, e, rfl, rfl, ha, hc, rfl, he⟩
    · exact eqAt_V (A := A) (s := s) rx ry f f'
    · cases rx
      cases ry
      by_cases hac : a = c
      · subst hac
        have z := eqB_self (H := H) (n + 1) (.ref a) _ (.inr ⟨a, a, xs, ys, e, rfl, rfl, ha, hc, rfl, he⟩)
        rw [z]
        exact SeqAt.EqAt.same _
      obtain ⟨its, r, p, _⟩ := I.tuple (SqT.of ha)
      obtain ⟨its2, r2, p2, _⟩ := I.tuple (SqT.of hc)
      refine SeqAt.EqAt.of_refs hac ?_
      have q := SeqAt.RcAt.tuples (A := A) (e := e) p p2 (by omega) fun j h1 h2 => ?_
      · rw [List.size_toArray, List.size_toArray, ← r.length, ← r2.length] at q
        exact q
      · obtain ⟨w1, g1, q1⟩ := itm_at r h1
        obtain ⟨w2, g2, q2⟩ := itm_at r2 h2
        exact eqAt_B I n A.in1 _ _ _ _ _ q1 q2 (he j _ _ g1 g2) (by show A.units + 1 + n < _; omega)
section
variable {X : Cx}
noncomputable def rNeB : R2 := fun x y H Q => ∃ (a c : Addr) (xs ys : List V) (e : Nat → Bool), x = .ref a ∧ y = .ref c ∧ H a = some (.tup xs) ∧ H c = some (.tup ys) ∧ (∀ (j : Nat) (u v : V), xs[j]? = some u → ys[j]? = some v → EqB H 3 u v (e j)) ∧ Q (.bl (!((List.range (min xs.length ys.length)).all e && xs.length == ys.length))) H
theorem op_neB (hu : X.A.units + 4 < cLine) : OpR X (compareOp .NotEq) rNeB := by
  intro pins s σ H x y v u Q I rx ry h
  obtain ⟨a, c, xs, ys, e, rfl, rfl, ha, hc, he, q⟩ := h
  cases rx
  cases ry
  obtain ⟨its, r, p, _⟩ := I.tuple (SqT.of ha)
  obtain ⟨its2, r2, p2, _⟩ := I.tuple (SqT.of hc)
  refine SeqAt.RcNeAt.tuples (e := e) p p2 (by omega) (fun j h1 h2 => ?_) X.prog X.w _ _ (fin_bl I q ?_)
  · obtain ⟨w1, g1, q1⟩ := itm_at r h1
    obtain ⟨w2, g2, q2⟩ := itm_at r2 h2
    exact eqAt_B I 3 _ _ _ _ _ _ q1 q2 (he j _ _ g1 g2) (by show X.A.units + 1 + 3 < _; omega)
  · rw [List.size_toArray, List.size_toArray, ← r.length, ← r2.length]
theorem met_nodup {ns : List Int} (hn : ns.Nodup) : ∀ i, i ≤ ns.length → (firstMet (fun i => ns.getD i 0) i).length = i
  | 0, _ => rfl
  | i + 1, hi => by
    rw [firstMet_succ, step_length, met_nodup hn i (by omega), if_neg]
    rw [firstMet_any]
    intro z
    obtain ⟨x, hx, e⟩ := List.any_eq_true.mp z
    obtain ⟨j, hj, rfl⟩ := List.mem_map.mp hx
    have hj := List.mem_range.mp hj
    have e := eq_of_beq e
    have h1 : ns.getD j 0 = ns[j] := by rw [List.getD_eq_getElem?_getD, List.getElem?_eq_getElem (by omega)]; rfl
    have h2 : ns.getD i 0 = ns[i] := by rw [List.getD_eq_getElem?_getD, List.getElem?_eq_getElem (by omega)]; rfl
    rw [h1, h2] at e
    exact List.pairwise_iff_getElem.mp hn j i (by omega) (by omega) hj e
noncomputable def rSetI (K : PySem.W.Frag) : List V → Hp → VK → Prop := fun xs H Q => ∃ (p : Addr) (ns : List Int), xs = [.ref p] ∧ SqL K H p (ns.map V.int) ∧ ns.length < 4000 ∧ ∀ (a : Addr) (S : Int → Bool) (n : Nat), H a = none → n < 4000 → (ns.Nodup → n = ns.length) → Q (.ref a) (upd H a (.set S n))
theorem call_setI (hc : X.calm = true) : CallR X (.type "set") (rSetI X.K) := by
  intro pins s σ H xs us Q I r h
  obtain ⟨p, ns, rfl, hq, hn, q⟩ := h
  obtain ⟨u, rfl, rx⟩ := vals1 r
  cases rx
  obtain ⟨its, r', pl, hz⟩ := I.list hq
  have hlen := r'.length
  rw [List.length_map] at hlen
  refine call_set_list (I.ok.hd hc) pl.isList (by simpa using intsAre_of r') (by rw [List.size_toArray]; unfold scanBound; omega) fun h' tk hS hk => ?_
  have hsz : its.toArray.size = ns.length := by rw [List.size_toArray]; exact hlen.symm
  rw [hsz] at hS
  have hle := firstMet_length_le (fun i => ns.getD i 0) ns.length
  exact ⟨.ref s.heap.objs.size, _, I.laid (t' := tk) (o := .set _ _) (fun b o e => hk b o (Heap.lt_size e) e) (Nat.le_refl _) hS, rfl, q _ _ _ (I.hok.fresh (Nat.le_refl _)) (by omega) (fun nd => met_nodup nd _ (Nat.le_refl _))⟩
noncomputable def rLenI : List V → Hp → VK → Prop := fun xs H Q => ∃ (a : Addr) (S : Int → Bool) (n : Nat), xs = [.ref a] ∧ H a = some (.set S n) ∧ n < 4000 ∧ Q (.int (n : Int)) H
theorem call_lenI : CallR X (.builtin "len") rLenI := by
  intro pins s σ H xs us Q I r h
  obtain ⟨a, S, n, rfl, ha, hl, q⟩ := h
  obtain ⟨u, rfl, rx⟩ := vals1 r
  cases rx
  obtain ⟨o, es, ep, t, ho, hex, hd, hE, hm, hb, hfit, hn⟩ := (show s.heap.SetOf (intKind X.prog X.w) a S n from I.hok _ _ ha)
  refine call_len_set ho hex hd hfit (by rw [hn]; omega) ?_
  rw [hn]
  exact ⟨.int (n : Int), H, I.tok _, ⟨_, rfl⟩, q⟩
end
end L2
set_option Elab.async false
set_option linter.all false
namespace L2
open PySem PySem.Spec PyProof.Rows
section
variable {X : Cx}
theorem num_some {Kk : Type} [DecidableEq Kk] {kn : KN Kk} {H : Hp} {kvs : List (Kk × V)} {xs : List (Kk × Addr × Value)} (pr : Paired (fun (p : Kk × V) (q : Kk × Addr × Value) => p.1 = q.1 ∧ kn.at_ H q.1 q.2.1 ∧ RelV p.2 q.2.2) kvs xs) (k : Kk) : (atKey xs k).isSome = (valV kvs k).isSome := by
  have pa := paired_at (fun p q h => h.1) pr k
  cases hv : valV kvs k with
  | none => rw [pa.2 hv]; rfl
  | some x =>
    obtain ⟨q, hq, _⟩ := pa.1 x hv
    rw [hq]
    rfl
noncomputable def rNInN : R2 := fun x y H Q => ∃ (Kk : Type) (_ : DecidableEq Kk) (kn : KN Kk) (d a : Addr) (k : Kk) (kvs : List (Kk × V)), x = .ref a ∧ y = .ref d ∧ NumD kn H d kvs ∧ kn.at_ H k a ∧ Q (.bl (!(valV kvs k).isSome)) H
theorem op_notInN (hu : X.A.units + 2 < cLine) : OpR X (compareOp .NotIn) rNInN := by
  intro pins s σ H x y v u Q I rx ry h
  obtain ⟨Kk, _, kn, d, a, k, kvs, rfl, rfl, n, hk, q⟩ := h
  cases rx
  cases ry
  obtain ⟨xs, dd, pr, mu, hm⟩ := n.dict I
  refine wpAny_notIn_heap (kn.room _ _ _ hu) (kn.ok _ _ _ _ _ _ I.hok hk) hm dd ?_
  rw [num_some pr]
  exact ⟨.bl _, H, I.tok _, rfl, q⟩
noncomputable def tNGet (td ty : TE) : TE := fun σ H Q => td σ H fun x H1 => ty σ H1 fun y H2 => ∃ (Kk : Type) (_ : DecidableEq Kk) (kn : KN Kk) (d a : Addr) (k : Kk) (kvs : List (Kk × V)) (v : V), x = .ref d ∧ y = .ref a ∧ NumD kn H2 d kvs ∧ kn.at_ H2 k a ∧ valV kvs k = some v ∧ Q v H2
theorem qe_nget {o i : Expr} {td ty : TE} {pos : Pos} (hu : X.A.units + 2 < cLine) (ho : QE X o td) (hi : QE X i ty) (hs : NoSl i) : QE X (.Subscript o i pos) (tNGet td ty) := ⟨by
  intro pins s σ H Q I h
  refine subD_of PySem.F.slot_dict_getitem.lookup hs (thn (ho.out pins s σ H _ I h) fun u s1 ⟨x, H1, I1, rx, q1⟩ => thn (hi.out pins s1 σ H1 _ I1 q1) fun iv s2 ⟨y, H2, I2, ry, Kk, _, kn, d, a, k, kvs, v, ex, ey, n, hk, hv, q2⟩ => ?_)
  subst ex
  subst ey
  obtain rfl : u = Value.ref d := rx
  obtain rfl : iv = Value.ref a := ry
  obtain ⟨xs, dd, pr, mu, hm⟩ := n.dict I2
  obtain ⟨q, hq, p', hp', e⟩ := (paired_at (fun p q h => h.1) pr k).1 v hv
  refine ⟨dd.typeIs, wpAny_getItem_heap (kn.room _ _ _ hu) (kn.ok _ _ _ _ _ _ I2.hok hk) dd hq ⟨v, H2, I2.tok _, e ▸ hp'.2.2, q2⟩⟩⟩
noncomputable def sNPut (td ty tv : TE) : TS := fun D σ H => tv σ H fun v H1 => td σ H1 fun x H2 => ty σ H2 fun y H3 => ∃ (Kk : Type) (_ : DecidableEq Kk) (kn : KN Kk) (d a : Addr) (k : Kk) (kvs : List (Kk × V)), x = .ref d ∧ y = .ref a ∧ NumD kn H3 d kvs ∧ kn.at_ H3 k a ∧ valV kvs k = none ∧ kvs.length + 1 < sizeLine ∧
  ∀ H', NumD kn H' d (kvs ++ [(k, v)]) → (∀ b o, H3 b = some o → b ≠ d → H' b = some o) → (∃ o, H' = upd H3 d o) → D.nx σ H'
theorem qs_nput {o i value : Expr} {td ty tv : TE} {pos pos' : Pos} (hu : X.A.units + 2 < cLine) (ho : QE X o td) (hi : QE X i ty) (hv : QE X value tv) (hs : swapsWith value (some (.Subscript o i pos')) pos.line X.env = pure false) : QS X (.Assign [.Subscript o i pos'] value pos) (sNPut td ty tv) := ⟨by
  intro pins s σ H D I h
  refine wpAny_Assign_Subscript (thn (hv.out pins s σ H _ I h) fun r s1 ⟨v, H1, I1, rv, q1⟩ => thn (ho.out pins s1 σ H1 _ I1 q1) fun u s2 ⟨x, H2, I2, rx, q2⟩ => thn (hi.out pins s2 σ H2 _ I2 q2) fun iv s3 ⟨y, H3, I3, ry, Kk, _, kn, d, a, k, kvs, ex, ey, n, hk, hv, hz, q3⟩ => ?_) hs
  subst ex
  subst ey
  obtain rfl : u = Value.ref d := rx
  obtain rfl : iv = Value.ref a := ry
  obtain ⟨xs, dd, pr, mu, hm⟩ := n.dict I3
  have hno : atKey xs k = none := (paired_at (fun p q h => h.1) pr k).2 hv
  refine wpAny_setItem_heap (kn.room _ _ _ hu) (kn.ok _ _ _ _ _ _ I3.hok hk) dd (fun h' dd' sb => ?_) (by rw [← Paired.length pr]; omega)
  rw [storedH_new hno] at dd'
  obtain ⟨H', n', k', o', I'⟩ := num_more I3 n hk rv hz pr mu hm hv dd' sb
  exact ⟨σ, H', I', q3 H' n' k' o'⟩⟩
end
end L2
set_option Elab.async false
set_option linter.all false
set_option maxRecDepth 100000
set_option maxHeartbeats 4000000
namespace Lw
open PySem L2
noncomputable def top (i : Nat) : Stmt := PySem.Challenge.pw_everywidth_k19_least_apart.main.body.getD i (.Pass ⟨0, 0, 0, 0⟩)
noncomputable abbrev s_state_number : Stmt := top 2
noncomputable abbrev s_numbered : Stmt := top 6
noncomputable abbrev s_classes_of : Stmt := top 7
noncomputable abbrev s_firsts_of : Stmt := top 8
noncomputable abbrev s_law_cell_at : Stmt := top 10
noncomputable abbrev s_law_numbers : Stmt := top 11
noncomputable abbrev s_law_blown : Stmt := top 14
noncomputable abbrev s_law_led_to : Stmt := top 15
noncomputable abbrev s_law_marked : Stmt := top 16
noncomputable abbrev s_alike_classes : Stmt := top 5
noncomputable abbrev s_law_names : Stmt := top 12
noncomputable abbrev s_law_machine : Stmt := top 13
noncomputable abbrev s_law_apart : Stmt := top 17
noncomputable abbrev s_law_turned : Stmt := top 18
noncomputable abbrev s_machine_found : Stmt := top 1
noncomputable abbrev s_least : Stmt := top 4
noncomputable abbrev s_law : Stmt := top 19
noncomputable def lpos_least : Pos := ⟨19, 50, 19, 102⟩
noncomputable def qual_least : Str := (("least" : Str) ++ ".<locals>.") ++ "<lambda>"
theorem same_upd {H : Hp} {p : Addr} {o : HO} (h : H p = none) : Same H (upd H p o) := fun b u e => by rw [upd_ne (ne_of_none e h)]; exact e
theorem nx_join {t u : TS} {D : Ends} {r : VK} {b c : St → Hp → Prop} {σ : St} {H : Hp} (J : St → Hp → Prop) (h1 : ∀ N : St → Hp → Prop, (∀ σ H, J σ H → N σ H) → t { D with nx := N } σ H) (h2 : ∀ σ H, J σ H → u D σ H) : ({ nx := tSeq t u D, rt := r, bk := b, ct := c } : Ends).nx σ H := h1 _ h2
theorem gName_go {i : Nat} {v : V} {σ : St} {H : Hp} {Q : St → Hp → Prop} (h : Q (σ.set i (some v)) H) : gName i v σ H Q := h
theorem snoc_all {α : Type} {P : α → Prop} {l : List α} {y : α} (h : ∀ x ∈ l, P x) (hy : P y) : ∀ x ∈ l ++ [y], P x := by
  intro x hx
  rcases List.mem_append.mp hx with z | z
  · exact h x z
  · rw [List.mem_singleton.mp z]
    exact hy
theorem same_put {H H2 : Hp} {p : Addr} {o : HO} (s : Same H H2) (hp : H p = none) : Same H (upd H2 p o) := fun b u e => by
  rw [upd_ne (ne_of_none e hp)]
  exact s b u e
theorem atI_ints {ns : List Int} {z : Int} (j : Nat) (hz : z = (j : Int)) (hj : j < ns.length) : atI (ns.map V.int) z = some (.int (ns.getD j 0)) := by
  subst hz
  refine atI_nat ?_
  rw [List.getElem?_map, List.getElem?_eq_getElem hj, List.getD_eq_getElem?_getD, List.getElem?_eq_getElem hj]
  rfl
theorem ints_bd {ns : List Int} {m : Int} (h : ∀ x ∈ ns, 0 ≤ x ∧ x < m) (j : Nat) (hj : j < ns.length) : 0 ≤ ns.getD j 0 ∧ ns.getD j 0 < m := by
  rw [List.getD_eq_getElem?_getD, List.getElem?_eq_getElem hj]
  exact h _ (List.getElem_mem hj)
theorem atI_str {z : Str} {i : Int} (n : Nat) (hn : z.cps.toList.length = n) (h0 : 0 ≤ i) (h1 : i < (n : Int)) : ∃ c, c ∈ z.cps.toList ∧ atI z.cps.toList i = some c := by
  obtain ⟨j, rfl⟩ : ∃ j : Nat, i = (j : Int) := ⟨i.toNat, by omega⟩
  have hj : j < z.cps.toList.length := by omega
  exact ⟨z.cps.toList[j], List.getElem_mem hj, atI_nat (List.getElem?_eq_getElem hj)⟩
theorem atI_strs {ys : List Str} {i : Int} (h0 : 0 ≤ i) (h1 : i < (ys.length : Int)) : ∃ y, y ∈ ys ∧ atI (ys.map V.str) i = some (.str y) := by
  obtain ⟨j, rfl⟩ : ∃ j : Nat, i = (j : Int) := ⟨i.toNat, by omega⟩
  have hj : j < ys.length := by omega
  refine ⟨ys[j], List.getElem_mem hj, atI_nat ?_⟩
  rw [List.getElem?_map, List.getElem?_eq_getElem hj]
  rfl
theorem strs_of {P : Str → Prop} : ∀ {vs : List V}, (∀ v ∈ vs, ∃ y, v = .str y ∧ P y) → ∃ ys : List Str, vs = ys.map V.str ∧ ∀ y ∈ ys, P y
  | [], _ => ⟨[], rfl, fun _ h => nomatch h⟩
  | v :: r, h => by
    obtain ⟨y, rfl, hy⟩ := h v List.mem_cons_self
    obtain ⟨ys, rfl, hys⟩ := strs_of (vs := r) fun v hv => h v (List.mem_cons_of_mem _ hv)
    refine ⟨y :: ys, rfl, fun z hz => ?_⟩
    rcases List.mem_cons.mp hz with rfl | hz
    · exact hy
    · exact hys z hz
noncomputable def cutL {α : Type} (xs : List α) (lo hi : Option Int) : List α := (xs.drop (HT.sIx xs.length 0 lo)).take (HT.sIx xs.length xs.length hi - HT.sIx xs.length 0 lo)
theorem cutV_map {α : Type} (f : α → V) (xs : List α) (lo hi : Option Int) : cutV (xs.map f) lo hi = (cutL xs lo hi).map f := by
  unfold cutV cutL
  rw [List.length_map, List.map_take, List.map_drop]
theorem cutL_upto {α : Type} (xs : List α) (k : Nat) : (cutL xs none (some (k : Int))) = xs.take k := by
  unfold cutL
  rw [HT.sIx_none, HT.sIx_nat, List.drop_zero, Nat.sub_zero, ← List.take_take, List.take_length]
theorem cutL_from {α : Type} (xs : List α) (k : Nat) : (cutL xs (some (k : Int)) none) = xs.drop k := by
  unfold cutL
  rw [HT.sIx_none, HT.sIx_nat, List.take_of_length_le (by rw [List.length_drop]; omega)]
  by_cases h : k ≤ xs.length
  · rw [Nat.min_eq_left h]
  · rw [Nat.min_eq_right (by omega), List.drop_length, List.drop_eq_nil_of_le (by omega)]
theorem cutL_both {α : Type} (xs : List α) (j k : Nat) (h : j ≤ xs.length) : (cutL xs (some (j : Int)) (some (k : Int))) = (xs.drop j).take (k - j) := by
  unfold cutL
  rw [HT.sIx_nat, HT.sIx_nat, Nat.min_eq_left h]
  by_cases hk : k ≤ xs.length
  · rw [Nat.min_eq_left hk]
  · rw [Nat.min_eq_right (by omega), List.take_of_length_le (by rw [List.length_drop]; omega), List.take_of_length_le (by rw [List.length_drop]; omega)]
theorem comp_rall {lo : Int} {n : Nat} {is : List Nat} {te : TE} {σ : St} {H : Hp} {Q : VK} (P : Nat → V → Prop) (hz : n ≤ sizeLine)
    (he : ∀ i, i < n → ∀ R : VK, (∀ v, P i v → R v H) → te (selS is σ (some (.int (lo + i)))) H R)
    (hd : ∀ vs : List V, vs.length = n → (∀ i v, vs[i]? = some v → P i v) → ∀ l, H l = none → Q (.ref l) (upd H l (.lst vs))) : CompW is tYes te σ Q (Itr lo n) H := by
  refine comp_range (fun i zs H' => i ≤ n ∧ zs.length = i ∧ (∀ j v, zs[j]? = some v → P j v) ∧ H' = H) ⟨Nat.zero_le _, rfl, fun j v h => by simp at h, rfl⟩ ?_ ?_ ?_
  · rintro i zs H' ⟨hi, hl, _, _⟩
    omega
  · rintro i zs H' R hR hi ⟨_, hl, hp, rfl⟩
    unfold tYes
    dsimp only
    rw [if_pos rfl]
    refine he i hi _ fun v hv => hR _ _ ⟨hi, by rw [List.length_append, hl]; rfl, fun j u hu => ?_, rfl⟩
    by_cases hj : j < zs.length
    · rw [List.getElem?_append_left hj] at hu
      exact hp j u hu
    · rw [List.getElem?_append_right (by omega)] at hu
      have e : j = i := by
        have := (List.getElem?_eq_some_iff.mp hu).1
        simp at this
        omega
      subst e
      rw [hl, Nat.sub_self] at hu
      cases hu
      exact hv
  · rintro zs H' ⟨_, hl, hp, rfl⟩ l hl2
    exact hd zs hl hp l hl2
theorem mem_at {vs : List V} {P : V → Prop} (h : ∀ (i : Nat) (v : V), vs[i]? = some v → P v) : ∀ v ∈ vs, P v := by
  intro v hv
  obtain ⟨i, hi, rfl⟩ := List.getElem_of_mem hv
  exact h i _ (List.getElem?_eq_getElem hi)
noncomputable def fI (g : Int → V) : V → V
  | .int x => g x
  | v => v
theorem map_fI (g : Int → V) (ns : List Int) : (ns.map V.int).map (fI g) = ns.map g := by
  rw [List.map_map]
  rfl
theorem app_signs (a b : Str) : (a ++ b).cps.toList = a.cps.toList ++ b.cps.toList := by
  rw [PySem.Str.cps_append, Array.toList_append]
theorem len_signs (a : Str) : a.length = a.cps.toList.length := by
  unfold Str.length
  rw [Array.length_toList]
theorem slice_to {x : Str} {j : Nat} (h : j ≤ x.length) : (Txt.slice x none (some (j : Int))).cps.toList = x.cps.toList.take j := by
  have e := beq_iff_eq.mp (PyProof.Rows.slice_closes_to (x := x) (j := (j : Int)) ⟨by omega, by rw [← len_signs]; omega⟩)
  rw [e]
  simp
theorem slice_from {x : Str} {i : Nat} (h : i ≤ x.length) : (Txt.slice x (some (i : Int)) none).cps.toList = x.cps.toList.drop i := by
  rw [PyProof.Rows.slice_from_eq (b := (x.length : Int)) (by omega) (by omega) rfl]
  simp only [Int.toNat_natCast]
  rw [List.take_of_length_le (by rw [List.length_drop, ← len_signs]; omega)]
theorem join_signs (sep : Str) (hs : sep.cps = #[]) : ∀ ys : List Str, (Txt.join sep ys).cps.toList = (ys.map (·.cps.toList)).flatten := by
  intro ys
  show (Builtin.Str.glued sep ys).cps.toList = _
  rw [StrLaws.glued_eq_join]
  induction ys with
  | nil => rfl
  | cons x r ih =>
    cases r with
    | nil =>
      show x.cps.toList = _
      simp
    | cons y r =>
      show (x ++ sep ++ Str.join sep (y :: r)).cps.toList = _
      rw [app_signs, app_signs, ih, hs]
      simp
theorem ones_flat {ys : List Str} {P : Nat → Prop} (h : ∀ y ∈ ys, ∃ c, y = ⟨#[c]⟩ ∧ P c) : (ys.map (·.cps.toList)).flatten.length = ys.length ∧ (∀ c ∈ (ys.map (·.cps.toList)).flatten, P c) ∧ (ys.map (·.length)).sum = ys.length := by
  induction ys with
  | nil => exact ⟨rfl, fun c h => absurd h (List.not_mem_nil), rfl⟩
  | cons y r ih =>
    obtain ⟨c, rfl, hc⟩ := h _ List.mem_cons_self
    obtain ⟨h1, h2, h3⟩ := ih fun z hz => h z (List.mem_cons_of_mem _ hz)
    refine ⟨?_, ?_, ?_⟩
    · rw [List.map_cons, List.flatten_cons, List.length_append, h1]
      show 1 + r.length = r.length + 1
      omega
    · intro d hd
      rw [List.map_cons, List.flatten_cons] at hd
      rcases List.mem_append.mp hd with z | z
      · have : d = c := by simpa using z
        rw [this]
        exact hc
      · exact h2 d z
    · rw [List.map_cons, List.sum_cons, h3]
      show 1 + r.length = r.length + 1
      omega
noncomputable abbrev natV (l : Nat) : V := .int (l : Int)
theorem nats_item {ls : List Nat} {i : Nat} {x : V} (h : (ls.map natV)[i]? = some x) : ∃ l : Nat, x = V.int (l : Int) ∧ ls[i]? = some l := by
  rw [List.getElem?_map] at h
  cases e : ls[i]? with
  | none => rw [e] at h; cases h
  | some b => rw [e] at h; exact ⟨b, (Option.some.inj h).symm, rfl⟩
structure RowsSo (H : Hp) (p : Addr) (i : Nat) (f : Nat → List V) : Prop where
  ex : ∃ as : List V, H p = some (.lst as) ∧ as.length = i ∧ ∀ s, s < i → ∃ a, as[s]? = some (.ref a) ∧ H a = some (.tup (f s))
theorem RowsSo.same {H H' : Hp} {p : Addr} {i : Nat} {f : Nat → List V} (R : RowsSo H p i f) (e : Same H H') : RowsSo H' p i f := by
  obtain ⟨as, h1, h2, h3⟩ := R.ex
  refine ⟨as, e _ _ h1, h2, fun s hs => ?_⟩
  obtain ⟨a, g1, g2⟩ := h3 s hs
  exact ⟨a, g1, e _ _ g2⟩
theorem tup_ne_lst {H : Hp} {a p : Addr} {xs ys : List V} (h : H a = some (.tup xs)) (h' : H p = some (.lst ys)) : a ≠ p := ne_of h h' (by intro z; cases z)
theorem RowsSo.more {H : Hp} {p a : Addr} {i : Nat} {f : Nat → List V} {as : List V} (h1 : H p = some (.lst as)) (h2 : as.length = i) (h3 : ∀ s, s < i → ∃ a, as[s]? = some (.ref a) ∧ H a = some (.tup (f s))) (ha : H a = some (.tup (f i))) :
    RowsSo (upd H p (.lst (as ++ [.ref a]))) p (i + 1) f := by
  refine ⟨_, upd_same, by rw [List.length_append, h2]; rfl, fun s hs => ?_⟩
  by_cases e : s < i
  · obtain ⟨b, g1, g2⟩ := h3 s e
    refine ⟨b, ?_, by rw [upd_ne (tup_ne_lst g2 h1)]; exact g2⟩
    rw [List.getElem?_append_left (by omega)]
    exact g1
  · have e : s = i := by omega
    subst e
    refine ⟨a, ?_, by rw [upd_ne (tup_ne_lst ha h1)]; exact ha⟩
    rw [List.getElem?_append_right (by omega), h2, Nat.sub_self]
    rfl
theorem RowsSo.other {H : Hp} {p q : Addr} {i : Nat} {f : Nat → List V} {xs ys : List V} (R : RowsSo H p i f) (hq : H q = some (.lst xs)) (hne : p ≠ q) : RowsSo (upd H q (.lst ys)) p i f := by
  obtain ⟨as, h1, h2, h3⟩ := R.ex
  refine ⟨as, by rw [upd_ne hne]; exact h1, h2, fun s hs => ?_⟩
  obtain ⟨a, g1, g2⟩ := h3 s hs
  exact ⟨a, g1, by rw [upd_ne (tup_ne_lst g2 hq)]; exact g2⟩
noncomputable def rowOf (ns : List Int) (L s : Nat) : List Int := (ns.drop (s * L)).take L
theorem cut_row {ns : List Int} {L s S : Nat} (hn : ns.length = S * L) (hs : s < S) : cutV (ns.map V.int) (some ((0 + (s : Int)) * (L : Int))) (some ((0 + (s : Int) + 1) * (L : Int))) = (rowOf ns L s).map V.int := by
  have h1 : s * L + L ≤ S * L := by
    have := Nat.mul_le_mul_right L (show s + 1 ≤ S from hs)
    rw [Nat.succ_mul] at this
    exact this
  have e1 : (0 + (s : Int)) * (L : Int) = ((s * L : Nat) : Int) := by rw [Int.zero_add, Int.natCast_mul]
  have e2 : (0 + (s : Int) + 1) * (L : Int) = ((s * L + L : Nat) : Int) := by rw [Int.zero_add, Int.add_mul, Int.one_mul, Int.natCast_add, Int.natCast_mul]
  rw [e1, e2, cutV_map, cutL_both _ _ _ (by omega)]
  unfold rowOf
  rw [Nat.add_sub_cancel_left]
noncomputable def KindOf (tr : Bool) (v : V) : Prop := (tr = true ∧ ∃ x, v = .bl x) ∨ (tr = false ∧ ∃ x, v = .int x)
noncomputable def RowsE (H : Hp) (p : Addr) (rs : List (List V)) : Prop := ∃ as : List V, H p = some (.tup as) ∧ as.length = rs.length ∧ ∀ (i : Nat) (r : List V), rs[i]? = some r → ∃ a, as[i]? = some (V.ref a) ∧ H a = some (.tup r)
theorem RowsE.same {H H' : Hp} {p : Addr} {rs : List (List V)} (R : RowsE H p rs) (e : Same H H') : RowsE H' p rs := by
  obtain ⟨as, h1, h2, h3⟩ := R
  refine ⟨as, e _ _ h1, h2, fun i r hi => ?_⟩
  obtain ⟨a, g1, g2⟩ := h3 i r hi
  exact ⟨a, g1, e _ _ g2⟩
noncomputable def nrow (r : List Nat) : List V := r.map natV
structure M4 (H : Hp) (m : Addr) (nm : List Str) (b : Nat) (nx : List (List Nat)) (ot : List (List V)) : Prop where
  ex : ∃ pn ps po, H m = some (.tup [.ref pn, .int (b : Int), .ref ps, .ref po]) ∧ H pn = some (.tup (nm.map V.str)) ∧ RowsE H ps (nx.map nrow) ∧ RowsE H po ot
theorem M4.same {H H' : Hp} {m : Addr} {nm : List Str} {b : Nat} {nx : List (List Nat)} {ot : List (List V)} (M : M4 H m nm b nx ot) (e : Same H H') : M4 H' m nm b nx ot := by
  obtain ⟨pn, ps, po, h1, h2, h3, h4⟩ := M.ex
  exact ⟨⟨pn, ps, po, e _ _ h1, e _ _ h2, h3.same e, h4.same e⟩⟩
structure Wf (nm : List Str) (b : Nat) (nx : List (List Nat)) (ot : List (List V)) (tr : Bool) : Prop where
  n3 : nm.length ≤ 3
  b : b < nx.length
  le : nx.length ≤ 100
  ol : ot.length = nx.length
  nr : ∀ r ∈ nx, r.length = 2 ^ nm.length
  nl : ∀ r ∈ nx, ∀ s ∈ r, s < nx.length
  or : ∀ r ∈ ot, r.length = 2 ^ nm.length
  ok : ∀ r ∈ ot, ∀ v ∈ r, KindOf tr v
  bit : ∀ r ∈ ot, ∀ v ∈ r, vB v = some 0 ∨ vB v = some 1
theorem yesT {σ : St} {H : Hp} {A B : Hp → Prop} (h : A H) : tYes σ H fun b H2 => if b = true then A H2 else B H2 := by
  show if true = true then A H else B H
  exact iteT h
theorem p8 {n : Nat} (h : n ≤ 3) : 2 ^ n ≤ 8 := Nat.pow_le_pow_right (by decide) h
theorem nrow_len (r : List Nat) : (nrow r).length = r.length := List.length_map _
theorem row_of {α : Type} {rs : List (List α)} {i : Nat} (h : i < rs.length) : rs[i]? = some (rs.getD i []) := by
  rw [List.getD_eq_getElem?_getD, List.getElem?_eq_getElem h]
  rfl
theorem rowE_at {H : Hp} {p : Addr} {rs : List (List V)} (R : RowsE H p rs) {i : Nat} (h : i < rs.length) : ∃ as a, H p = some (HO.tup as) ∧ atI as (i : Int) = some (V.ref a) ∧ H a = some (.tup (rs.getD i [])) := by
  obtain ⟨as, h1, h2, h3⟩ := R
  obtain ⟨a, g1, g2⟩ := h3 i _ (row_of h)
  exact ⟨as, a, h1, atI_nat g1, g2⟩
theorem nrow_getD (nx : List (List Nat)) (i : Nat) : (nx.map nrow).getD i [] = nrow (nx.getD i []) := by
  rw [List.getD_eq_getElem?_getD, List.getD_eq_getElem?_getD, List.getElem?_map]
  cases nx[i]? <;> rfl
theorem getD_mem {α : Type} {rs : List (List α)} {i : Nat} (h : i < rs.length) : rs.getD i [] ∈ rs := List.mem_of_getElem? (row_of h)
noncomputable def RowsL (H : Hp) (p : Addr) (rs : List (List V)) : Prop := ∃ as : List V, H p = some (.lst as) ∧ as.length = rs.length ∧ ∀ (i : Nat) (r : List V), rs[i]? = some r → ∃ a, as[i]? = some (V.ref a) ∧ H a = some (.tup r)
theorem RowsL.same {H H' : Hp} {p : Addr} {rs : List (List V)} (R : RowsL H p rs) (e : Same H H') : RowsL H' p rs := by
  obtain ⟨as, h1, h2, h3⟩ := R
  refine ⟨as, e _ _ h1, h2, fun i r hi => ?_⟩
  obtain ⟨a, g1, g2⟩ := h3 i r hi
  exact ⟨a, g1, e _ _ g2⟩
theorem RowsL.nil {H : Hp} {p : Addr} (h : H p = some (.lst [])) : RowsL H p [] := ⟨[], h, rfl, fun i r hr => by cases hr⟩
theorem RowsL.more {H : Hp} {p a : Addr} {rs : List (List V)} {r : List V} {as : List V} (h1 : H p = some (.lst as)) (h2 : as.length = rs.length) (h3 : ∀ (i : Nat) (r : List V), rs[i]? = some r → ∃ a, as[i]? = some (V.ref a) ∧ H a = some (.tup r)) (ha : H a = some (.tup r)) :
    RowsL (upd H p (.lst (as ++ [.ref a]))) p (rs ++ [r]) := by
  refine ⟨_, upd_same, by rw [List.length_append, List.length_append, h2]; rfl, fun i q hq => ?_⟩
  by_cases e : i < rs.length
  · rw [List.getElem?_append_left e] at hq
    obtain ⟨b, g1, g2⟩ := h3 i q hq
    refine ⟨b, ?_, by rw [upd_ne (tup_ne_lst g2 h1)]; exact g2⟩
    rw [List.getElem?_append_left (by omega)]
    exact g1
  · rw [List.getElem?_append_right (by omega)] at hq
    have ei : i - rs.length = 0 := by
      have := (List.getElem?_eq_some_iff.mp hq).1
      simp only [List.length_cons, List.length_nil] at this
      omega
    rw [ei] at hq
    cases hq
    refine ⟨a, ?_, by rw [upd_ne (tup_ne_lst ha h1)]; exact ha⟩
    rw [List.getElem?_append_right (by omega), h2, ei]
    rfl
theorem RowsL.other {H : Hp} {p q : Addr} {rs : List (List V)} {xs : List V} {o : HO} (R : RowsL H p rs) (hq : H q = some (.lst xs)) (hne : p ≠ q) : RowsL (upd H q o) p rs := by
  obtain ⟨as, h1, h2, h3⟩ := R
  refine ⟨as, by rw [upd_ne hne]; exact h1, h2, fun i r hi => ?_⟩
  obtain ⟨a, g1, g2⟩ := h3 i r hi
  exact ⟨a, g1, by rw [upd_ne (tup_ne_lst g2 hq)]; exact g2⟩
theorem RowsL.tup {H : Hp} {p t : Addr} {rs : List (List V)} {as : List V} (h2 : as.length = rs.length) (h3 : ∀ (i : Nat) (r : List V), rs[i]? = some r → ∃ a, as[i]? = some (V.ref a) ∧ H a = some (.tup r)) (ht : H t = some (.tup as)) : RowsE H t rs := ⟨as, ht, h2, h3⟩
noncomputable def sndOf (H : Hp) (a : Addr) : Int := match H a with
  | some (.tup [_, .int y]) => y
  | _ => 0
theorem sndOf_eq {H : Hp} {a : Addr} {x y : Int} (h : H a = some (.tup [.int x, .int y])) : sndOf H a = y := by
  unfold sndOf
  rw [h]
theorem ord_of {zs : List Int} {many : Nat} (h : zs.Perm ((List.range many).map fun (n : Nat) => (n : Int))) : ∃ ord : List Nat, zs.map V.int = ord.map natV ∧ ord.Perm (List.range many) := by
  refine ⟨zs.map Int.toNat, ?_, ?_⟩
  · rw [List.map_map]
    refine List.map_congr_left fun z hz => ?_
    obtain ⟨n, _, rfl⟩ := List.mem_map.mp (h.mem_iff.mp hz)
    rfl
  · have := h.map Int.toNat
    rw [List.map_map] at this
    have e : (List.range many).map (Int.toNat ∘ fun (n : Nat) => (n : Int)) = List.range many := (List.map_congr_left fun n _ => rfl).trans (List.map_id _)
    rw [e] at this
    exact this
noncomputable def bsf (ns : List Int) (amount i : Nat) : Nat := if i < amount then i else (ns.getD i 0 % (amount : Int)).toNat
theorem bsf_lt {ns : List Int} {amount i : Nat} (h : 0 < amount) : bsf ns amount i < amount := by
  unfold bsf
  split
  · assumption
  · have h1 : 0 ≤ ns.getD i 0 % (amount : Int) := Int.emod_nonneg _ (by omega)
    have h2 : ns.getD i 0 % (amount : Int) < amount := Int.emod_lt_of_pos _ (by omega)
    omega
theorem ints_at {ns : List Int} {i : Nat} (h : i < ns.length) : (ns.map V.int)[i]? = some (.int (ns.getD i 0)) := by
  rw [List.getElem?_map, List.getD_eq_getElem?_getD, List.getElem?_eq_getElem h]
  rfl
theorem range_at {α : Type} {f : Nat → α} {many i : Nat} (h : i < many) : ((List.range many).map f)[i]? = some (f i) := by
  rw [List.getElem?_map, List.getElem?_range h]
  rfl
theorem dget_int {H : Hp} {d : Addr} {kvs : List (Key × V)} {j : Int} {v : V} (h : H d = some (.dK kvs)) (hv : valV kvs (.inl j) = some v) : DGet H d (.int j) (some v) := .inl ⟨kvs, .inl j, .inl h, rfl, hv.symm⟩
theorem dput_int {H : Hp} {d : Addr} {kvs : List (Key × V)} {j : Int} {v : V} (h : H d = some (.dK kvs)) (hl : kvs.length < sizeLine) : DPut H d (.int j) v (upd H d (.dK (putK kvs (.inl j) v))) := DPut.k (k := .inl j) h hl
theorem nat_get {ls : List Nat} {i l : Nat} (h : ls[i]? = some l) : (ls.map natV)[i]? = some (.int (l : Int)) := by
  rw [List.getElem?_map, h]
  rfl
theorem nrow_get {ls : List Nat} {i l : Nat} (h : ls[i]? = some l) : (nrow ls)[i]? = some (.int (l : Int)) := nat_get h
theorem dec_natV (a b : Nat) : decide (V.int (a : Int) = V.int (b : Int)) = decide (a = b) := by
  rw [Bool.eq_iff_iff, decide_eq_true_iff, decide_eq_true_iff]
  constructor
  · intro h
    cases h
    rfl
  · intro h
    rw [h]
noncomputable def SameBut1 (p : Addr) (H H' : Hp) : Prop := ∀ a o, a ≠ p → H a = some o → H' a = some o
theorem SameBut1.refl {p : Addr} {H : Hp} : SameBut1 p H H := fun _ _ _ h => h
theorem SameBut1.get {p : Addr} {H H' : Hp} (s : SameBut1 p H H') {a : Addr} {o : HO} (h : H a = some o) (n : a ≠ p) : H' a = some o := s a o n h
theorem SameBut1.same {p : Addr} {H H' H'' : Hp} (s : SameBut1 p H H') (e : Same H' H'') : SameBut1 p H H'' := fun a o n h => e _ _ (s a o n h)
theorem SameBut1.put {p : Addr} {H H' : Hp} {u : HO} (s : SameBut1 p H H') : SameBut1 p H (upd H' p u) := fun a o n h => by
  rw [upd_ne n]
  exact s a o n h
theorem cutV_upto (xs : List V) (k : Nat) : cutV xs none (some (k : Int)) = xs.take k := cutL_upto xs k
noncomputable def RowsZ (H : Hp) (zs : List V) (rs : List (List V)) : Prop := zs.length = rs.length ∧ ∀ (i : Nat) (r : List V), rs[i]? = some r → ∃ a, zs[i]? = some (V.ref a) ∧ H a = some (.tup r)
theorem RowsZ.same {H H' : Hp} {zs : List V} {rs : List (List V)} (z : RowsZ H zs rs) (e : Same H H') : RowsZ H' zs rs := by
  refine ⟨z.1, fun i r hr => ?_⟩
  obtain ⟨a, g1, g2⟩ := z.2 i r hr
  exact ⟨a, g1, e _ _ g2⟩
theorem RowsZ.snoc {H : Hp} {zs : List V} {rs : List (List V)} {a : Addr} {r : List V} (z : RowsZ H zs rs) (h : H a = some (.tup r)) : RowsZ H (zs ++ [.ref a]) (rs ++ [r]) := by
  refine ⟨by rw [List.length_append, List.length_append, z.1]; rfl, fun i q hq => ?_⟩
  by_cases e : i < rs.length
  · rw [List.getElem?_append_left e] at hq
    rw [List.getElem?_append_left (by rw [z.1]; exact e)]
    exact z.2 i q hq
  · rw [List.getElem?_append_right (by omega)] at hq
    have ei : i - rs.length = 0 := by
      have := (List.getElem?_eq_some_iff.mp hq).1
      simp only [List.length_cons, List.length_nil] at this
      omega
    rw [ei] at hq
    cases hq
    refine ⟨a, ?_, h⟩
    rw [List.getElem?_append_right (by rw [z.1]; omega), z.1, ei]
    rfl
theorem RowsZ.nil {H : Hp} : RowsZ H [] [] := ⟨rfl, fun i r hr => by cases hr⟩
noncomputable def nk (l : List Int) : List (Key × V) := numKV (l.map (Sum.inl : Int → Key))
theorem nodup_inl {l : List Int} (h : l.Nodup) : (l.map (Sum.inl : Int → Key)).Nodup := by
  unfold List.Nodup
  rw [List.pairwise_map]
  exact List.Pairwise.imp (fun hne e => hne (Sum.inl.inj e)) h
theorem mem_inl {l : List Int} {s : Int} : (Sum.inl s : Key) ∈ l.map Sum.inl ↔ s ∈ l := by
  constructor
  · intro h
    obtain ⟨x, hx, e⟩ := List.mem_map.mp h
    rw [← Sum.inl.inj e]
    exact hx
  · exact fun h => List.mem_map_of_mem h
theorem nk_val {l : List Int} {s : Int} (h : s ∈ l) (hn : l.Nodup) : valV (nk l) (.inl s) = some (.int (l.idxOf s : Int)) := by
  have := numKV_val (l.map (Sum.inl : Int → Key)) (.inl s) (mem_inl.mpr h) (nodup_inl hn)
  have e := idx_map (β := Key) Sum.inl (fun _ _ => Sum.inl.inj) s l
  rw [e] at this
  exact this
theorem nk_none {l : List Int} {s : Int} (h : s ∉ l) : valV (nk l) (.inl s) = none := numKV_none _ _ fun z => h (mem_inl.mp z)
theorem nk_len (l : List Int) : (nk l).length = l.length := by
  unfold nk
  rw [numKV_len, List.length_map]
theorem nk_put {l : List Int} {s : Int} (h : s ∉ l) : putK (nk l) (.inl s) (.int (l.length : Int)) = nk (l ++ [s]) := by
  unfold nk
  rw [List.map_append]
  show _ = numKV (l.map Sum.inl ++ [Sum.inl s])
  rw [numKV_snoc, List.length_map]
  unfold putK
  rw [if_neg fun z => ?_]
  rw [List.any_eq_true] at z
  obtain ⟨p, hp, e⟩ := z
  have : p.1 ∈ (numKV (l.map (Sum.inl : Int → Key))).map (·.1) := List.mem_map_of_mem hp
  rw [numKV_keys, of_decide_eq_true e] at this
  exact h (mem_inl.mp this)
noncomputable def refn (nx : List (List Nat)) (cs : List Nat) : List (Int × List Int) := List.zipWith (fun (c : Nat) (row : List Nat) => ((c : Int), row.map fun s => (cs.getD s 0 : Int))) cs nx
theorem refn_len {nx : List (List Nat)} {cs : List Nat} (h : cs.length = nx.length) : (refn nx cs).length = cs.length := by
  unfold refn
  rw [List.length_zipWith, h, Nat.min_self]
theorem refn_fst {nx : List (List Nat)} {cs : List Nat} (h : cs.length = nx.length) : (refn nx cs).map (·.1) = cs.map fun c : Nat => (c : Int) := by
  unfold refn
  rw [List.map_zipWith]
  have : ∀ (cs : List Nat) (nx : List (List Nat)), cs.length = nx.length → List.zipWith (fun (c : Nat) (_ : List Nat) => (c : Int)) cs nx = cs.map fun c : Nat => (c : Int) := by
    intro cs
    induction cs with
    | nil => intro nx _; rfl
    | cons c r ih =>
      intro nx h
      cases nx with
      | nil => cases h
      | cons x y => rw [List.zipWith_cons_cons, List.map_cons, ih y (by simpa using h)]
  exact this cs nx h
theorem refn_stays {nx : List (List Nat)} {cs : List Nat} (h : cs.length = nx.length) (hn : numb cs = cs) (hc : (seenL (refn nx cs)).length ≤ (seenL cs).length) : numb (refn nx cs) = cs := by
  have e1 : seenL ((refn nx cs).map (·.1)) = (seenL cs).map fun c : Nat => (c : Int) := by
    rw [refn_fst h]
    exact seen_map _ _ fun a _ b _ e => Int.ofNat.inj e
  have hi := inj_of_count (·.1) (refn nx cs) (by rw [e1, List.length_map]; exact hc)
  rw [← numb_map (·.1) (refn nx cs) hi, refn_fst h, numb_map (fun c : Nat => (c : Int)) cs fun a _ b _ e => Int.ofNat.inj e, hn]
theorem rows_refs {H : Hp} {p : Addr} {rs : List (List V)} (R : RowsE H p rs) : ∃ bs : List Addr, H p = some (.tup (bs.map V.ref)) ∧ bs.length = rs.length ∧ ∀ (i : Nat) (r : List V) (b : Addr), rs[i]? = some r → bs[i]? = some b → H b = some (.tup r) := by
  obtain ⟨as, h1, h2, h3⟩ := R
  have go : ∀ (as : List V) (rs : List (List V)), as.length = rs.length → (∀ (i : Nat) (r : List V), rs[i]? = some r → ∃ a, as[i]? = some (V.ref a) ∧ H a = some (.tup r)) → ∃ bs : List Addr, as = bs.map V.ref ∧ ∀ (i : Nat) (r : List V) (b : Addr), rs[i]? = some r → bs[i]? = some b → H b = some (.tup r) := by
    intro as
    induction as with
    | nil =>
      intro rs hl _
      exact ⟨[], rfl, fun i r b _ hb => by cases hb⟩
    | cons v r ih =>
      intro rs hl hh
      cases rs with
      | nil => cases hl
      | cons x y =>
        obtain ⟨a, ha, hx⟩ := hh 0 x rfl
        obtain ⟨bs, e, hb⟩ := ih y (by simpa using hl) fun i r hi => by
          obtain ⟨a, g1, g2⟩ := hh (i + 1) r (by simpa using hi)
          exact ⟨a, by simpa using g1, g2⟩
        refine ⟨a :: bs, ?_, fun i r b hr hbi => ?_⟩
        · rw [List.map_cons, ← e]
          cases ha
          rfl
        · cases i with
          | zero =>
            cases hr
            cases hbi
            exact hx
          | succ i => exact hb i r b (by simpa using hr) (by simpa using hbi)
  obtain ⟨bs, e, hb⟩ := go as rs h2 h3
  subst e
  exact ⟨bs, h1, by rw [← h2, List.length_map], hb⟩
theorem while_w {c : TT} {tb : TS} {D : Ends} {σ : St} {H : Hp} (Pv : St → Hp → Prop) (μ : St → Hp → Nat) (h0 : Pv σ H)
    (hs : ∀ σ H, Pv σ H → c σ H fun b H1 => if b = true then ∃ N : St → Hp → Prop, (∀ σ' H', N σ' H' → ∃ m', m' < μ σ H ∧ m' = μ σ' H' ∧ Pv σ' H') ∧ tb { D with nx := N, ct := N, bk := D.nx } σ H1 else D.nx σ H1) : tWhile c tb D σ H := by
  refine ⟨fun m σ H => m = μ σ H ∧ Pv σ H, ⟨_, rfl, h0⟩, ?_⟩
  rintro m σ H ⟨rfl, p⟩
  exact hs σ H p
theorem numb_ints {κ : Type} [DecidableEq κ] (ks : List κ) : (ks.map fun k => ((seenL ks).idxOf k : Int)).map V.int = (numb ks).map natV := by
  unfold numb
  rw [List.map_map, List.map_map]
  rfl
theorem refn_get {nx : List (List Nat)} {cs : List Nat} {i c : Nat} {row : List Nat} (hc : cs[i]? = some c) (hr : nx[i]? = some row) : (refn nx cs)[i]? = some ((c : Int), row.map fun s => (cs.getD s 0 : Int)) := by
  unfold refn
  rw [List.getElem?_zipWith, hc, hr]
theorem cls_ref {kos : List (List Int)} {nx : List (List Nat)} {cs : List Nat} (hl : cs.length = nx.length) (hk : kos.length = nx.length) (h : ∀ (i j : Nat) (a b : List Int), kos[i]? = some a → kos[j]? = some b → cs[i]? = cs[j]? → a = b) : ∀ (i j : Nat) (a b : List Int), kos[i]? = some a → kos[j]? = some b → (numb (refn nx cs))[i]? = (numb (refn nx cs))[j]? → a = b := by
  intro i j a b ha hb e
  have hi : i < nx.length := by have := (List.getElem?_eq_some_iff.mp ha).1; omega
  have hj : j < nx.length := by have := (List.getElem?_eq_some_iff.mp hb).1; omega
  have ci := List.getElem?_eq_getElem (l := cs) (i := i) (by omega)
  have cj := List.getElem?_eq_getElem (l := cs) (i := j) (by omega)
  have := (numb_iff (refn_get ci (List.getElem?_eq_getElem hi)) (refn_get cj (List.getElem?_eq_getElem hj))).mp e
  refine h i j a b ha hb ?_
  rw [ci, cj]
  have e2 := congrArg Prod.fst this
  exact congrArg some (Int.ofNat.inj e2)
noncomputable def bfsS (nx : List (List Nat)) (l : List Nat) (i : Nat) : List Nat := (nx.getD (l.getD i 0) []).foldl ins1 l
noncomputable def bfsN (nx : List (List Nat)) (b : Nat) : Nat → List Nat
  | 0 => [b]
  | i + 1 => bfsS nx (bfsN nx b i) i
structure BfsE (nx : List (List Nat)) (b : Nat) (l : List Nat) : Prop where
  e : l = bfsN nx b l.length
  go : ∀ i, i < l.length → i < (bfsN nx b i).length
theorem fold_nodup (r : List Nat) : ∀ l : List Nat, l.Nodup → (r.foldl ins1 l).Nodup := by
  induction r with
  | nil => exact fun l h => h
  | cons k r ih => exact fun l h => ih _ (ins1_nodup h k)
theorem fold_mem (r : List Nat) {x : Nat} : ∀ l : List Nat, x ∈ r.foldl ins1 l ↔ x ∈ l ∨ x ∈ r := by
  induction r with
  | nil => intro l; simp
  | cons k r ih =>
    intro l
    rw [List.foldl_cons, ih, mem_ins1, List.mem_cons, or_assoc]
theorem bfs_nodup (nx : List (List Nat)) (b : Nat) : ∀ i, (bfsN nx b i).Nodup
  | 0 => List.nodup_cons.mpr ⟨List.not_mem_nil, List.nodup_nil⟩
  | i + 1 => fold_nodup _ _ (bfs_nodup nx b i)
theorem bfs_lt {nx : List (List Nat)} {b : Nat} (hb : b < nx.length) (hr : ∀ row ∈ nx, ∀ s ∈ row, s < nx.length) : ∀ i, ∀ s ∈ bfsN nx b i, s < nx.length
  | 0, s, h => by rw [List.mem_singleton.mp h]; exact hb
  | i + 1, s, h => by
    rcases (fold_mem _ _).mp h with z | z
    · exact bfs_lt hb hr i s z
    · rw [List.getD_eq_getElem?_getD] at z
      cases q : nx[(bfsN nx b i).getD i 0]? with
      | none => rw [q] at z; cases z
      | some row => rw [q] at z; exact hr row (List.mem_of_getElem? q) s z
theorem bfs_len {nx : List (List Nat)} {b : Nat} (hb : b < nx.length) (hr : ∀ row ∈ nx, ∀ s ∈ row, s < nx.length) (i : Nat) : (bfsN nx b i).length ≤ nx.length := by
  have := len_of_sub (l2 := List.range nx.length) (bfs_nodup nx b i) fun x hx => List.mem_range.mpr (bfs_lt hb hr i x hx)
  rw [List.length_range] at this
  exact this
noncomputable def trK (l : List Nat) : List (Key × V) := l.map fun s : Nat => ((.inl (s : Int) : Key), V.bl true)
theorem trK_val {l : List Nat} {s : Nat} (h : s ∈ l) : valV (trK l) (.inl (s : Int)) = some (.bl true) := by
  unfold trK valV
  cases q : (l.map fun s : Nat => ((.inl (s : Int) : Key), V.bl true)).find? (fun kv => decide (kv.1 = .inl (s : Int))) with
  | none =>
    rw [List.find?_eq_none] at q
    exact absurd (decide_eq_true rfl) (q ((.inl (s : Int) : Key), V.bl true) (List.mem_map.mpr ⟨s, h, rfl⟩))
  | some x =>
    obtain ⟨a, _, rfl⟩ := List.mem_map.mp (List.mem_of_find?_eq_some q)
    rfl
theorem trK_none {l : List Nat} {s : Nat} (h : s ∉ l) : valV (trK l) (.inl (s : Int)) = none := by
  unfold trK valV
  rw [Option.map_eq_none_iff, List.find?_eq_none]
  intro x hx z
  obtain ⟨a, ha, rfl⟩ := List.mem_map.mp hx
  have e : (a : Int) = (s : Int) := Sum.inl.inj (of_decide_eq_true z)
  exact h (by rw [← Int.ofNat.inj e]; exact ha)
theorem trK_put {l : List Nat} {s : Nat} (h : s ∉ l) : putK (trK l) (.inl (s : Int)) (.bl true) = trK (l ++ [s]) := by
  unfold putK
  rw [if_neg fun z => ?_]
  · unfold trK
    rw [List.map_append]
    rfl
  · rw [List.any_eq_true] at z
    obtain ⟨p, hp, e⟩ := z
    obtain ⟨a, ha, rfl⟩ := List.mem_map.mp hp
    have e : (a : Int) = (s : Int) := Sum.inl.inj (of_decide_eq_true e)
    exact h (by rw [← Int.ofNat.inj e]; exact ha)
theorem bfs_pre (nx : List (List Nat)) (b j : Nat) : ∀ d, ∃ r, bfsN nx b (j + d) = bfsN nx b j ++ r
  | 0 => ⟨[], (List.append_nil _).symm⟩
  | d + 1 => by
    obtain ⟨r, e⟩ := bfs_pre nx b j d
    obtain ⟨r2, e2⟩ := fold_pre (nx.getD ((bfsN nx b (j + d)).getD (j + d) 0) []) (bfsN nx b (j + d))
    refine ⟨r ++ r2, ?_⟩
    show bfsS nx (bfsN nx b (j + d)) (j + d) = _
    unfold bfsS
    rw [e2, e, List.append_assoc]
noncomputable def rowA (nx : List (List Nat)) (b j : Nat) : List Nat := (nx.getD ((bfsN nx b j).getD j 0) []).map fun x => (bfsN nx b (j + 1)).idxOf x
noncomputable def rowsU (nx : List (List Nat)) (b i : Nat) : List (List V) := (List.range i).map fun j => nrow (rowA nx b j)
noncomputable def outsU (nx : List (List Nat)) (ot : List (List V)) (b i : Nat) : List (List V) := (List.range i).map fun j => ot.getD ((bfsN nx b j).getD j 0) []
theorem bfs_at {nx : List (List Nat)} {b i j : Nat} (hj : j < i) (hg : j < (bfsN nx b j).length) : (bfsN nx b i)[j]? = some ((bfsN nx b j).getD j 0) := by
  obtain ⟨r, e⟩ := bfs_pre nx b j (i - j)
  rw [show j + (i - j) = i by omega] at e
  rw [e, List.getElem?_append_left hg, List.getD_eq_getElem?_getD, List.getElem?_eq_getElem hg]
  rfl
theorem map_range {α β : Type} (l : List α) (i : Nat) (hl : l.length = i) (f : α → β) (g : Nat → β) (h : ∀ j a, l[j]? = some a → g j = f a) : (List.range i).map g = l.map f := by
  refine List.ext_getElem? fun j => ?_
  rw [List.getElem?_map, List.getElem?_map]
  by_cases hj : j < i
  · rw [List.getElem?_range hj, List.getElem?_eq_getElem (by omega)]
    exact congrArg some (h j _ (List.getElem?_eq_getElem (by omega)))
  · rw [List.getElem?_eq_none (by rw [List.length_range]; omega), List.getElem?_eq_none (by omega)]
    rfl
theorem rows_fin {nx : List (List Nat)} {b i : Nat} (hl : (bfsN nx b i).length = i) (hg : ∀ j, j < i → j < (bfsN nx b j).length) : rowsU nx b i = ((bfsN nx b i).map fun s => (nx.getD s []).map fun x => (bfsN nx b i).idxOf x).map nrow := by
  unfold rowsU
  rw [List.map_map]
  refine map_range _ i hl _ _ fun j a ha => ?_
  have hj : j < i := by have := (List.getElem?_eq_some_iff.mp ha).1; omega
  rw [bfs_at hj (hg j hj)] at ha
  cases ha
  show nrow (rowA nx b j) = nrow _
  unfold rowA
  congr 1
  refine List.map_congr_left fun x hx => ?_
  obtain ⟨r, e⟩ := bfs_pre nx b (j + 1) (i - (j + 1))
  rw [show j + 1 + (i - (j + 1)) = i by omega] at e
  rw [e, idx_pre]
  exact (fold_mem _ _).mpr (.inr hx)
theorem outs_fin {nx : List (List Nat)} {ot : List (List V)} {b i : Nat} (hl : (bfsN nx b i).length = i) (hg : ∀ j, j < i → j < (bfsN nx b j).length) : outsU nx ot b i = (bfsN nx b i).map fun s => ot.getD s [] := by
  unfold outsU
  refine map_range _ i hl _ _ fun j a ha => ?_
  have hj : j < i := by have := (List.getElem?_eq_some_iff.mp ha).1; omega
  rw [bfs_at hj (hg j hj)] at ha
  cases ha
  rfl
theorem rowsZ_keep {H H' : Hp} {zs : List V} {rs : List (List V)} (h : ∀ b xs, H b = some (.tup xs) → H' b = some (.tup xs)) (z : RowsZ H zs rs) : RowsZ H' zs rs := ⟨z.1, fun i r hr => by
  obtain ⟨a, h1, h2⟩ := z.2 i r hr
  exact ⟨a, h1, h _ _ h2⟩⟩
theorem rowsU_succ (nx : List (List Nat)) (b i : Nat) : rowsU nx b (i + 1) = rowsU nx b i ++ [nrow (rowA nx b i)] := by
  unfold rowsU
  rw [List.range_succ, List.map_append]
  rfl
theorem outsU_succ (nx : List (List Nat)) (ot : List (List V)) (b i : Nat) : outsU nx ot b (i + 1) = outsU nx ot b i ++ [ot.getD ((bfsN nx b i).getD i 0) []] := by
  unfold outsU
  rw [List.range_succ, List.map_append]
  rfl
theorem ins1_cast (l : List Nat) (s : Nat) : ins1 (l.map fun x : Nat => (x : Int)) (s : Int) = (ins1 l s).map fun x : Nat => (x : Int) := ins1_map _ l s fun a _ e => Int.ofNat.inj e
theorem idx_cast (l : List Nat) (s : Nat) : (l.map fun x : Nat => (x : Int)).idxOf (s : Int) = l.idxOf s := idx_on (fun x : Nat => (x : Int)) s l fun a _ e => Int.ofNat.inj e
theorem nodup_cast {l : List Nat} (h : l.Nodup) : (l.map fun x : Nat => (x : Int)).Nodup := by
  unfold List.Nodup
  rw [List.pairwise_map]
  exact List.Pairwise.imp (fun hne e => hne (Int.ofNat.inj e)) h
noncomputable def ClsOf (kos : List (List Int)) (cs : List Nat) : Prop := ∀ (i j : Nat) (a b : List Int), kos[i]? = some a → kos[j]? = some b → cs[i]? = cs[j]? → a = b
noncomputable def clsN (nx : List (List Nat)) (kos : List (List Int)) : Nat → List Nat
  | 0 => numb kos
  | i + 1 => numb (refn nx (clsN nx kos i))
theorem cls_stay {nx : List (List Nat)} {kos : List (List Int)} {i j : Nat} (h : numb (refn nx (clsN nx kos i)) = clsN nx kos i) (hj : i ≤ j) : clsN nx kos j = clsN nx kos i := by
  obtain ⟨d, rfl⟩ : ∃ d, j = i + d := ⟨j - i, by omega⟩
  induction d with
  | zero => rfl
  | succ d ih =>
    show numb (refn nx (clsN nx kos (i + d))) = _
    rw [ih (by omega), h]
noncomputable def frstL : List Int → Nat → List Nat → List Nat
  | [], _, acc => acc
  | c :: r, i, acc => frstL r (i + 1) (if c = (acc.length : Int) then acc ++ [i] else acc)
structure Canon (R : List (List Nat)) : Prop where
  ord : ∀ (r p t : Nat) (row : List Nat), R[r]? = some row → row[p]? = some t → ∀ t', t' < t → t' = 0 ∨ (∃ r' row', r' < r ∧ R[r']? = some row' ∧ t' ∈ row') ∨ t' ∈ row.take p
  reach : ∀ t, 0 < t → t < R.length → ∃ r row, r < t ∧ R[r]? = some row ∧ t ∈ row
  lt : ∀ row ∈ R, ∀ s ∈ row, s < R.length
theorem mem_bfs {nx : List (List Nat)} {b x : Nat} : ∀ i, x ∈ bfsN nx b i ↔ x = b ∨ ∃ j, j < i ∧ x ∈ nx.getD ((bfsN nx b j).getD j 0) []
  | 0 => by
    constructor
    · exact fun h => .inl (List.mem_singleton.mp h)
    · rintro (h | ⟨j, hj, _⟩)
      · exact List.mem_singleton.mpr h
      · exact absurd hj (Nat.not_lt_zero _)
  | i + 1 => by
    show x ∈ bfsS nx (bfsN nx b i) i ↔ _
    unfold bfsS
    rw [fold_mem, mem_bfs i]
    constructor
    · rintro ((h | ⟨j, hj, h⟩) | h)
      · exact .inl h
      · exact .inr ⟨j, Nat.lt_succ_of_lt hj, h⟩
      · exact .inr ⟨i, Nat.lt_succ_self i, h⟩
    · rintro (h | ⟨j, hj, h⟩)
      · exact .inl (.inl h)
      · by_cases e : j = i
        · subst e
          exact .inr h
        · exact .inl (.inr ⟨j, by omega, h⟩)
theorem fold_range {i : Nat} {R : List (List Nat)} (C : Canon R) {row : List Nat} (hr : R[i]? = some row) {k : Nat} (h1 : 0 < k) (hm : ∀ r' row', r' < i → R[r']? = some row' → ∀ t ∈ row', t < k) : ∀ p, ∃ k', (row.take p).foldl ins1 (List.range k) = List.range k' ∧ k ≤ k'
  | 0 => ⟨k, rfl, Nat.le_refl _⟩
  | p + 1 => by
    obtain ⟨k', e, hk⟩ := fold_range C hr h1 hm p
    cases hp : row[p]? with
    | none =>
      refine ⟨k', ?_, hk⟩
      rw [List.take_of_length_le (by have := List.getElem?_eq_none_iff.mp hp; omega)]
      rw [List.take_of_length_le (by have := List.getElem?_eq_none_iff.mp hp; omega)] at e
      exact e
    | some x =>
      rw [take_snoc hp, List.foldl_append, e]
      show ∃ k'', ins1 (List.range k') x = _ ∧ _
      unfold ins1
      by_cases hx : x ∈ List.range k'
      · exact ⟨k', if_pos hx, hk⟩
      · rw [if_neg hx]
        have hx' : ¬ x < k' := fun z => hx (List.mem_range.mpr z)
        by_cases ex : x = k'
        · subst ex
          exact ⟨x + 1, List.range_succ.symm, by omega⟩
        · rcases C.ord i p x row hr hp k' (by omega) with z | ⟨r', row', h2, h3, h4⟩ | z
          · omega
          · have := hm r' row' h2 h3 _ h4
            omega
          · have : k' ∈ (row.take p).foldl ins1 (List.range k) := (fold_mem _ _).mpr (.inr z)
            rw [e] at this
            exact absurd (List.mem_range.mp this) (Nat.lt_irrefl _)
theorem range_getD {k i : Nat} (h : i < k) : (List.range k).getD i 0 = i := by
  rw [List.getD_eq_getElem?_getD, List.getElem?_range h]
  rfl
theorem canon_bfs {R : List (List Nat)} (C : Canon R) (h0 : 0 < R.length) : ∀ i, i ≤ R.length → (∃ k, bfsN R 0 i = List.range k ∧ 0 < k) ∧ ∀ j, j < i → ∃ k, bfsN R 0 j = List.range k ∧ j < k := by
  intro i
  induction i with
  | zero => exact fun _ => ⟨⟨1, rfl, Nat.one_pos⟩, fun j hj => absurd hj (Nat.not_lt_zero _)⟩
  | succ i ih =>
    intro hi
    obtain ⟨⟨k, e, hk⟩, hj⟩ := ih (by omega)
    have gd : ∀ j, j < i → (bfsN R 0 j).getD j 0 = j := fun j h => by
      obtain ⟨kj, ej, hkj⟩ := hj j h
      rw [ej]
      exact range_getD hkj
    have hm : ∀ r' row', r' < i → R[r']? = some row' → ∀ t ∈ row', t < k := fun r' row' h2 h3 t ht => by
      have : t ∈ bfsN R 0 i := (mem_bfs i).mpr (.inr ⟨r', h2, by rw [gd r' h2, List.getD_eq_getElem?_getD, h3]; exact ht⟩)
      rw [e] at this
      exact List.mem_range.mp this
    have hik : i < k := by
      by_cases hz : i = 0
      · omega
      · obtain ⟨r, row, h2, h3, h4⟩ := C.reach i (by omega) (by omega)
        exact hm r row h2 h3 i h4
    obtain ⟨row, hrow⟩ : ∃ row, R[i]? = some row := ⟨_, List.getElem?_eq_getElem (by omega)⟩
    obtain ⟨k', e', hk'⟩ := fold_range C hrow hk hm row.length
    rw [List.take_length] at e'
    refine ⟨⟨k', ?_, by omega⟩, fun j h => ?_⟩
    · show bfsS R (bfsN R 0 i) i = _
      unfold bfsS
      rw [e, range_getD hik, List.getD_eq_getElem?_getD, hrow]
      exact e'
    · by_cases hji : j = i
      · subst hji
        exact ⟨k, e, hik⟩
      · exact hj j (by omega)
theorem bfsE_uniq {nx : List (List Nat)} {b : Nat} {l l' : List Nat} (B : BfsE nx b l) (B' : BfsE nx b l') : l = l' := by
  have key : ∀ {l l' : List Nat}, BfsE nx b l → BfsE nx b l' → ¬ l.length < l'.length := fun {l l'} B B' h => by
    have := B'.go _ h
    rw [← B.e] at this
    omega
  have h1 := key B B'
  have h2 := key B' B
  rw [B.e, B'.e, show l.length = l'.length by omega]
noncomputable def rnR (nx : List (List Nat)) (l : List Nat) : List (List Nat) := l.map fun s => (nx.getD s []).map fun x => l.idxOf x
noncomputable def rnO (ot : List (List V)) (l : List Nat) : List (List V) := l.map fun s => ot.getD s []
theorem rnR_len (nx : List (List Nat)) (l : List Nat) : (rnR nx l).length = l.length := List.length_map ..
theorem BfsE.nodup {nx : List (List Nat)} {b : Nat} {l : List Nat} (B : BfsE nx b l) : l.Nodup := by
  rw [B.e]
  exact bfs_nodup nx b _
theorem BfsE.at {nx : List (List Nat)} {b : Nat} {l : List Nat} (B : BfsE nx b l) {j : Nat} (hj : j < l.length) : l[j]? = some ((bfsN nx b j).getD j 0) := by
  have := bfs_at (nx := nx) (b := b) (i := l.length) hj (B.go j hj)
  rw [← B.e] at this
  exact this
theorem BfsE.next {nx : List (List Nat)} {b : Nat} {l : List Nat} (B : BfsE nx b l) {i s x : Nat} (hi : l[i]? = some s) (hx : x ∈ nx.getD s []) : x ∈ l := by
  have hil := (List.getElem?_eq_some_iff.mp hi).1
  rw [B.at hil] at hi
  rw [B.e, mem_bfs]
  refine .inr ⟨i, hil, ?_⟩
  rw [Option.some.inj hi]
  exact hx
theorem BfsE.zero {nx : List (List Nat)} {b : Nat} {l : List Nat} (B : BfsE nx b l) : l[0]? = some b := by
  have : b ∈ l := by rw [B.e, mem_bfs]; exact .inl rfl
  exact B.at (List.length_pos_of_mem this)
theorem BfsE.pre {nx : List (List Nat)} {b : Nat} {l : List Nat} (B : BfsE nx b l) {j : Nat} (hj : j ≤ l.length) : ∃ r, l = bfsN nx b j ++ r := by
  obtain ⟨r, e⟩ := bfs_pre nx b j (l.length - j)
  rw [show j + (l.length - j) = l.length by omega, ← B.e] at e
  exact ⟨r, e⟩
theorem idx_at {l : List Nat} (hn : l.Nodup) {i x : Nat} (h : l[i]? = some x) : l.idxOf x = i := by
  obtain ⟨hi, e⟩ := List.getElem?_eq_some_iff.mp h
  rw [← e]
  exact List.Nodup.idxOf_getElem hn i hi
theorem at_idx {l : List Nat} {x : Nat} (h : x ∈ l) : l[l.idxOf x]? = some x := by
  rw [List.getElem?_eq_getElem (List.idxOf_lt_length_of_mem h), List.getElem_idxOf (List.idxOf_lt_length_of_mem h)]
theorem canon_rn {nx : List (List Nat)} {b : Nat} {l : List Nat} (B : BfsE nx b l) : Canon (rnR nx l) := by
  have hn := B.nodup
  have rowAt : ∀ {r : Nat} {row : List Nat}, (rnR nx l)[r]? = some row → ∃ s, l[r]? = some s ∧ row = (nx.getD s []).map fun x => l.idxOf x := fun {r row} h => by
    unfold rnR at h
    rw [List.getElem?_map] at h
    obtain ⟨s, hs, e⟩ := Option.map_eq_some_iff.mp h
    exact ⟨s, hs, e.symm⟩
  have inRow : ∀ {j : Nat} {x : Nat}, j < l.length → x ∈ nx.getD ((bfsN nx b j).getD j 0) [] → ∃ row, (rnR nx l)[j]? = some row ∧ l.idxOf x ∈ row := fun {j x} hj hx => by
    refine ⟨_, ?_, List.mem_map_of_mem (f := fun x => l.idxOf x) hx⟩
    unfold rnR
    rw [List.getElem?_map, B.at hj]
    rfl
  refine ⟨fun r p t row hr hp t' ht => ?_, fun t h1 h2 => ?_, fun row hrow s hs => ?_⟩
  · obtain ⟨s, hs, rfl⟩ := rowAt hr
    have hrl := (List.getElem?_eq_some_iff.mp hs).1
    rw [List.getElem?_map] at hp
    obtain ⟨x, hx, rfl⟩ := Option.map_eq_some_iff.mp hp
    have es : (bfsN nx b r).getD r 0 = s := by
      have := B.at hrl
      rw [hs] at this
      exact (Option.some.inj this).symm
    obtain ⟨q, eq⟩ := B.pre (j := r + 1) hrl
    have eb : bfsN nx b (r + 1) = ((nx.getD s []).drop (p + 1)).foldl ins1 (ins1 (((nx.getD s []).take p).foldl ins1 (bfsN nx b r)) x) := by
      show bfsS nx (bfsN nx b r) r = _
      unfold bfsS
      rw [es]
      have := List.take_append_drop (p + 1) (nx.getD s [])
      conv => lhs; rw [← this]
      rw [List.foldl_append, take_snoc hx, List.foldl_append]
      rfl
    obtain ⟨q2, e2⟩ := fold_pre ((nx.getD s []).drop (p + 1)) (ins1 (((nx.getD s []).take p).foldl ins1 (bfsN nx b r)) x)
    rw [e2] at eb
    rw [eb, List.append_assoc] at eq
    generalize hL : ((nx.getD s []).take p).foldl ins1 (bfsN nx b r) = L at *
    obtain ⟨q3, e3⟩ := ins1_pre L x
    have hL' : t' < L.length := by
      have hxm : x ∈ ins1 L x := mem_ins1.mpr (.inr rfl)
      have hlt := List.idxOf_lt_length_of_mem hxm
      have h3 := ins1_len L x
      have h4 : l.idxOf x = (ins1 L x).idxOf x := by rw [eq, idx_pre hxm]
      omega
    have hy : l[t']? = some L[t'] := by
      rw [eq, e3, List.append_assoc, List.getElem?_append_left hL', List.getElem?_eq_getElem hL']
    have hyL : L[t'] ∈ L := List.getElem_mem hL'
    have ht' := idx_at hn hy
    generalize L[t'] = y at *
    rw [← hL] at hyL
    rcases (fold_mem _ _).mp hyL with h | h
    · rcases (mem_bfs r).mp h with h | ⟨j, hj, h⟩
      · refine .inl ?_
        rw [← ht', h]
        exact idx_at hn B.zero
      · obtain ⟨row', g1, g2⟩ := inRow (j := j) (by omega) h
        exact .inr (.inl ⟨j, row', hj, g1, ht' ▸ g2⟩)
    · refine .inr (.inr ?_)
      rw [← List.map_take, ← ht']
      exact List.mem_map_of_mem (f := fun x => l.idxOf x) h
  · rw [rnR_len] at h2
    have hg := B.go t h2
    have ha := B.at h2
    have hm : (bfsN nx b t).getD t 0 ∈ bfsN nx b t := by
      rw [List.getD_eq_getElem?_getD, List.getElem?_eq_getElem hg]
      exact List.getElem_mem hg
    have hi := idx_at hn ha
    rcases (mem_bfs t).mp hm with h | ⟨j, hj, h⟩
    · rw [h, idx_at hn B.zero] at hi
      omega
    · obtain ⟨row, g1, g2⟩ := inRow (j := j) (by omega) h
      rw [hi] at g2
      exact ⟨j, row, hj, g1, g2⟩
  · obtain ⟨r, hr⟩ := List.mem_iff_getElem?.mp hrow
    obtain ⟨s', hs', rfl⟩ := rowAt hr
    obtain ⟨x, hx, rfl⟩ := List.mem_map.mp hs
    rw [rnR_len]
    exact List.idxOf_lt_length_of_mem (B.next hs' hx)
structure Firsts (cs fs : List Nat) : Prop where
  at_ : ∀ c f : Nat, fs[c]? = some f → cs[f]? = some c ∧ ∀ j d : Nat, j < f → cs[j]? = some d → d < c
  lt : ∀ j d : Nat, cs[j]? = some d → d < fs.length
theorem numb_ord {κ : Type} [DecidableEq κ] (ks : List κ) (i d : Nat) (h : (numb ks)[i]? = some d) (c : Nat) (hc : c < d) : ∃ j, j < i ∧ (numb ks)[j]? = some c := by
  rw [numb_get] at h
  obtain ⟨k, hk, rfl⟩ := Option.map_eq_some_iff.mp h
  obtain ⟨r, er⟩ := seenL_take ks (i + 1)
  have e1 : seenL (ks.take (i + 1)) = ins1 (seenL (ks.take i)) k := by rw [take_snoc hk, seenL_snoc]
  rw [e1] at er
  obtain ⟨q, eq⟩ := ins1_pre (seenL (ks.take i)) k
  have hxm : k ∈ ins1 (seenL (ks.take i)) k := mem_ins1.mpr (.inr rfl)
  have hlt := List.idxOf_lt_length_of_mem hxm
  have h3 := ins1_len (seenL (ks.take i)) k
  have h4 : (seenL ks).idxOf k = (ins1 (seenL (ks.take i)) k).idxOf k := by rw [er, idx_pre hxm]
  have hcl : c < (seenL (ks.take i)).length := by omega
  have hy : (seenL ks)[c]? = some (seenL (ks.take i))[c] := by
    rw [er, eq, List.append_assoc, List.getElem?_append_left hcl, List.getElem?_eq_getElem hcl]
  have hm : (seenL (ks.take i))[c] ∈ seenL (ks.take i) := List.getElem_mem hcl
  generalize (seenL (ks.take i))[c] = y at *
  obtain ⟨j, hj⟩ := List.mem_iff_getElem?.mp ((mem_seenL _ y).mp hm)
  rw [List.getElem?_take] at hj
  split at hj
  · rename_i hji
    refine ⟨j, hji, ?_⟩
    rw [numb_get, hj]
    obtain ⟨hc2, e5⟩ := List.getElem?_eq_some_iff.mp hy
    show some ((seenL ks).idxOf y) = _
    rw [← e5, List.Nodup.idxOf_getElem (seenL_nodup ks) c hc2]
  · cases hj
theorem frst_go {cs : List Nat} (hn : numb cs = cs) : ∀ (post pre acc : List Nat), cs = pre ++ post → (∀ c f : Nat, acc[c]? = some f → pre[f]? = some c ∧ ∀ j d : Nat, j < f → pre[j]? = some d → d < c) → (∀ j d : Nat, pre[j]? = some d → d < acc.length) → Firsts cs (frstL (post.map fun c : Nat => (c : Int)) pre.length acc) := by
  intro post
  induction post with
  | nil =>
    intro pre acc e h1 h2
    rw [List.append_nil] at e
    subst e
    exact ⟨h1, h2⟩
  | cons x r ih =>
    intro pre acc e h1 h2
    have hx : cs[pre.length]? = some x := by
      rw [e, List.getElem?_append_right (Nat.le_refl _), Nat.sub_self]
      rfl
    have hle : x ≤ acc.length := by
      rcases Nat.lt_or_ge acc.length x with h | h
      · obtain ⟨j, hj, hc⟩ := numb_ord cs pre.length x (by rw [hn]; exact hx) acc.length h
        rw [hn, e, List.getElem?_append_left hj] at hc
        have := h2 j _ hc
        omega
      · exact h
    have e' : cs = (pre ++ [x]) ++ r := by rw [e, List.append_assoc]; rfl
    have lft : ∀ {j d : Nat}, pre[j]? = some d → (pre ++ [x])[j]? = some d := fun {j d} h => by
      rw [List.getElem?_append_left (List.getElem?_eq_some_iff.mp h).1]
      exact h
    have snc : ∀ {α : Type} {l : List α} {y z : α} {j : Nat}, (l ++ [y])[j]? = some z → l[j]? = some z ∨ (j = l.length ∧ z = y) := fun {α l y z j} h => by
      rcases Nat.lt_trichotomy j l.length with g | g | g
      · rw [List.getElem?_append_left g] at h
        exact .inl h
      · subst g
        rw [List.getElem?_append_right (Nat.le_refl _), Nat.sub_self] at h
        exact .inr ⟨rfl, (Option.some.inj h).symm⟩
      · rw [List.getElem?_eq_none (by rw [List.length_append]; show l.length + 1 ≤ j; omega)] at h
        cases h
    have el : (pre ++ [x]).length = pre.length + 1 := List.length_append
    show Firsts cs (frstL (r.map fun c : Nat => (c : Int)) (pre.length + 1) (if (x : Int) = (acc.length : Int) then acc ++ [pre.length] else acc))
    rw [← el]
    by_cases hxa : x = acc.length
    · rw [if_pos (by rw [hxa])]
      refine ih _ _ e' (fun c f hf => ?_) fun j d hd => ?_
      · rcases snc hf with hf | ⟨rfl, rfl⟩
        · obtain ⟨g1, g2⟩ := h1 c f hf
          refine ⟨lft g1, fun j d hj hd => ?_⟩
          rcases snc hd with hd | ⟨rfl, rfl⟩
          · exact g2 j d hj hd
          · have := (List.getElem?_eq_some_iff.mp g1).1
            omega
        · refine ⟨by rw [List.getElem?_append_right (Nat.le_refl _), Nat.sub_self, hxa]; rfl, fun j d hj hd => ?_⟩
          rcases snc hd with hd | ⟨rfl, rfl⟩
          · exact h2 j d hd
          · omega
      · rw [List.length_append]
        rcases snc hd with hd | ⟨rfl, rfl⟩
        · exact Nat.lt_succ_of_lt (h2 j d hd)
        · show d < acc.length + 1
          omega
    · rw [if_neg (by omega)]
      refine ih _ _ e' (fun c f hf => ?_) fun j d hd => ?_
      · obtain ⟨g1, g2⟩ := h1 c f hf
        refine ⟨lft g1, fun j d hj hd => ?_⟩
        rcases snc hd with hd | ⟨rfl, rfl⟩
        · exact g2 j d hj hd
        · have := (List.getElem?_eq_some_iff.mp g1).1
          omega
      · rcases snc hd with hd | ⟨rfl, rfl⟩
        · exact h2 j d hd
        · omega
noncomputable def frsts (cs : List Nat) : List Nat := frstL (cs.map fun c : Nat => (c : Int)) 0 []
theorem frsts_ok {cs : List Nat} (hn : numb cs = cs) : Firsts cs (frsts cs) := frst_go hn cs [] [] rfl (fun c f h => by cases h) fun j d h => by cases h
theorem frstL_len : ∀ (cs : List Int) (i : Nat) (acc : List Nat), (frstL cs i acc).length ≤ acc.length + cs.length
  | [], _, acc => Nat.le_refl _
  | c :: r, i, acc => by
    have := frstL_len r (i + 1) (if c = (acc.length : Int) then acc ++ [i] else acc)
    show (frstL r (i + 1) (if c = (acc.length : Int) then acc ++ [i] else acc)).length ≤ _
    have h2 : (if c = (acc.length : Int) then acc ++ [i] else acc).length ≤ acc.length + 1 := by
      split
      · rw [List.length_append]
        exact Nat.le_refl _
      · omega
    rw [List.length_cons]
    omega
theorem frsts_len (cs : List Nat) : (frsts cs).length ≤ cs.length := by
  have := frstL_len (cs.map fun c : Nat => (c : Int)) 0 []
  rw [List.length_map] at this
  unfold frsts
  simpa using this
noncomputable def lsR (R : List (List Nat)) (cs : List Nat) : List (List Nat) := (frsts cs).map fun s => (R.getD s []).map fun x => cs.getD x 0
noncomputable def lsO (O : List (List V)) (cs : List Nat) : List (List V) := (frsts cs).map fun s => O.getD s []
structure Stab (R : List (List Nat)) (cs : List Nat) : Prop where
  len : cs.length = R.length
  st : numb (refn R cs) = cs
theorem Stab.nn {R : List (List Nat)} {cs : List Nat} (S : Stab R cs) : numb cs = cs := by
  have := numb_numb (refn R cs)
  rw [S.st] at this
  exact this
theorem Stab.row {R : List (List Nat)} {cs : List Nat} (S : Stab R cs) {i j c : Nat} (hi : cs[i]? = some c) (hj : cs[j]? = some c) : (R.getD i []).map (fun x => cs.getD x 0) = (R.getD j []).map fun x => cs.getD x 0 := by
  have li := (List.getElem?_eq_some_iff.mp hi).1
  have lj := (List.getElem?_eq_some_iff.mp hj).1
  have gi := refn_get hi (List.getElem?_eq_getElem (l := R) (i := i) (by rw [← S.len]; exact li))
  have gj := refn_get hj (List.getElem?_eq_getElem (l := R) (i := j) (by rw [← S.len]; exact lj))
  have := congrArg Prod.snd ((numb_iff gi gj).mp (by rw [S.st, hi, hj]))
  have h2 := congrArg (List.map Int.toNat) this
  simp only [List.map_map] at h2
  rw [List.getD_eq_getElem?_getD, List.getD_eq_getElem?_getD, List.getElem?_eq_getElem (by rw [← S.len]; exact li), List.getElem?_eq_getElem (by rw [← S.len]; exact lj)]
  exact h2
theorem getD_of {l : List Nat} {i x : Nat} (h : l[i]? = some x) : l.getD i 0 = x := by rw [List.getD_eq_getElem?_getD, h]; rfl
theorem at_getD {l : List Nat} {i : Nat} (h : i < l.length) : l[i]? = some (l.getD i 0) := by rw [List.getD_eq_getElem?_getD, List.getElem?_eq_getElem h]; rfl
theorem canon_ls {R : List (List Nat)} {cs : List Nat} (C : Canon R) (S : Stab R cs) : Canon (lsR R cs) := by
  have F := frsts_ok S.nn
  have ll : (lsR R cs).length = (frsts cs).length := List.length_map ..
  have rowAt : ∀ {c : Nat} {row : List Nat}, (lsR R cs)[c]? = some row → ∃ f, (frsts cs)[c]? = some f ∧ row = (R.getD f []).map fun x => cs.getD x 0 := fun {c row} h => by
    unfold lsR at h
    rw [List.getElem?_map] at h
    obtain ⟨s, hs, e⟩ := Option.map_eq_some_iff.mp h
    exact ⟨s, hs, e.symm⟩
  -- the row of a state, seen by its class
  have cls : ∀ {j : Nat}, j < R.length → ∃ c f, cs[j]? = some c ∧ (frsts cs)[c]? = some f ∧ (lsR R cs)[c]? = some ((R.getD j []).map fun x => cs.getD x 0) := fun {j} hj => by
    obtain ⟨c, hc⟩ : ∃ c, cs[j]? = some c := ⟨_, List.getElem?_eq_getElem (by rw [S.len]; exact hj)⟩
    obtain ⟨f, hf⟩ : ∃ f, (frsts cs)[c]? = some f := ⟨_, List.getElem?_eq_getElem (F.lt j c hc)⟩
    refine ⟨c, f, hc, hf, ?_⟩
    unfold lsR
    rw [List.getElem?_map, hf]
    exact congrArg some (S.row (F.at_ c f hf).1 hc)
  have xlt : ∀ {f x : Nat}, x ∈ R.getD f [] → x < R.length := fun {f x} h => by
    rw [List.getD_eq_getElem?_getD] at h
    cases q : R[f]? with
    | none => rw [q] at h; cases h
    | some row => rw [q] at h; exact C.lt row (List.mem_of_getElem? q) x h
  have clt : ∀ {x : Nat}, x < R.length → cs.getD x 0 < (frsts cs).length := fun {x} h => by
    exact F.lt x _ (at_getD (by rw [S.len]; exact h))
  have z0 : 0 < R.length → cs.getD 0 0 = 0 := fun h => by
    obtain ⟨c, f, hc, hf, _⟩ := cls h
    obtain ⟨f0, hf0⟩ : ∃ f0, (frsts cs)[0]? = some f0 := ⟨_, List.getElem?_eq_getElem (by have := F.lt 0 c hc; omega)⟩
    have h0 := F.at_ 0 f0 hf0
    by_cases e : f0 = 0
    · rw [e] at h0
      exact getD_of h0.1
    · have := h0.2 0 c (by omega) hc
      omega
  refine ⟨fun c p t row hr hp t' ht => ?_, fun t h1 h2 => ?_, fun row hrow s hs => ?_⟩
  · obtain ⟨f, hf, rfl⟩ := rowAt hr
    obtain ⟨g1, g2⟩ := F.at_ c f hf
    have hfR : f < R.length := by rw [← S.len]; exact (List.getElem?_eq_some_iff.mp g1).1
    rw [List.getElem?_map] at hp
    obtain ⟨x, hx, rfl⟩ := Option.map_eq_some_iff.mp hp
    have hxR := xlt (List.mem_of_getElem? hx)
    have htl : cs.getD x 0 < (frsts cs).length := clt hxR
    obtain ⟨f', hf'⟩ : ∃ f', (frsts cs)[t']? = some f' := ⟨_, List.getElem?_eq_getElem (by omega)⟩
    obtain ⟨k1, k2⟩ := F.at_ t' f' hf'
    have hcx : cs[x]? = some (cs.getD x 0) := at_getD (by rw [S.len]; exact hxR)
    have hfx : f' < x := by
      rcases Nat.lt_trichotomy f' x with h | h | h
      · exact h
      · rw [h, hcx] at k1
        have := Option.some.inj k1
        omega
      · have := k2 x _ h hcx
        omega
    have erow : R[f]? = some (R.getD f []) := row_of hfR
    rcases C.ord f p x _ erow hx f' hfx with h | ⟨r', row', h3, h4, h5⟩ | h
    · refine .inl ?_
      have := z0 (by omega)
      rw [h] at k1
      rw [getD_of k1] at this
      exact this
    · have hr' : r' < R.length := by omega
      obtain ⟨c', f2, q1, q2, q3⟩ := cls hr'
      refine .inr (.inl ⟨c', _, g2 r' c' h3 q1, q3, ?_⟩)
      rw [List.getD_eq_getElem?_getD, h4]
      exact List.mem_map.mpr ⟨f', h5, getD_of k1⟩
    · refine .inr (.inr ?_)
      rw [← List.map_take]
      exact List.mem_map.mpr ⟨f', h, getD_of k1⟩
  · rw [ll] at h2
    obtain ⟨f, hf⟩ : ∃ f, (frsts cs)[t]? = some f := ⟨_, List.getElem?_eq_getElem h2⟩
    obtain ⟨g1, g2⟩ := F.at_ t f hf
    have hfR : f < R.length := by rw [← S.len]; exact (List.getElem?_eq_some_iff.mp g1).1
    have hf0 : 0 < f := by
      rcases Nat.eq_zero_or_pos f with h | h
      · have := z0 (by omega)
        rw [h] at g1
        rw [getD_of g1] at this
        omega
      · exact h
    obtain ⟨r, row, h3, h4, h5⟩ := C.reach f hf0 hfR
    obtain ⟨c', f2, q1, q2, q3⟩ := cls (j := r) (by omega)
    refine ⟨c', _, g2 r c' h3 q1, q3, ?_⟩
    rw [List.getD_eq_getElem?_getD, h4]
    exact List.mem_map.mpr ⟨f, h5, getD_of g1⟩
  · obtain ⟨c, hc⟩ := List.mem_iff_getElem?.mp hrow
    obtain ⟨f, hf, rfl⟩ := rowAt hc
    obtain ⟨x, hx, rfl⟩ := List.mem_map.mp hs
    rw [ll]
    exact clt (xlt hx)
noncomputable def OffT (pw : Addr) (H H' : Hp) : Prop := ∀ b o, H b = some o → b ≠ pw → H' b = some o
theorem RowsE.tups {H H' : Hp} {p : Addr} {rs : List (List V)} (R : RowsE H p rs) (e : ∀ b xs, H b = some (.tup xs) → H' b = some (.tup xs)) : RowsE H' p rs := by
  obtain ⟨as, h1, h2, h3⟩ := R
  refine ⟨as, e _ _ h1, h2, fun i r hi => ?_⟩
  obtain ⟨a, g1, g2⟩ := h3 i r hi
  exact ⟨a, g1, e _ _ g2⟩
theorem M4.tups {H H' : Hp} {m : Addr} {nm : List Str} {b : Nat} {nx : List (List Nat)} {ot : List (List V)} (M : M4 H m nm b nx ot) (e : ∀ b xs, H b = some (.tup xs) → H' b = some (.tup xs)) : M4 H' m nm b nx ot := by
  obtain ⟨pn, ps, po, h1, h2, h3, h4⟩ := M.ex
  exact ⟨⟨pn, ps, po, e _ _ h1, e _ _ h2, h3.tups e, h4.tups e⟩⟩
theorem lam_new {cs : List Addr} {H : Hp} {t : Addr} {o : HO} (ht : hide cs H t = none) (hn : ∀ c ∈ cs, upd (hide cs H) t o c = none) : Same H (unhide cs H (upd (hide cs H) t o)) ∧ unhide cs H (upd (hide cs H) t o) t = some o := by
  have m : t ∉ cs := fun m => by
    have := hn t m
    rw [upd_same] at this
    cases this
  refine ⟨fun b u e => ?_, by rw [unhide_out m]; exact upd_same⟩
  by_cases mb : b ∈ cs
  · rw [unhide_in mb]
    exact e
  · rw [hide_out m] at ht
    rw [unhide_out mb, upd_ne (ne_of_none e ht), hide_out mb]
    exact e
noncomputable def kosF (ot : List (List V)) : List (List Int) := ot.map fun r => r.map fun v => (vB v).getD 0
theorem kosF_ok {ot : List (List V)} (h : ∀ r ∈ ot, ∀ v ∈ r, ∃ x, vB v = some x) : ot.map (fun r => r.map vB) = (kosF ot).map (fun k => k.map some) := by
  unfold kosF
  rw [List.map_map]
  refine List.map_congr_left fun r hr => ?_
  show _ = (r.map fun v => (vB v).getD 0).map some
  rw [List.map_map]
  refine List.map_congr_left fun v hv => ?_
  obtain ⟨x, e⟩ := h r hr v hv
  show vB v = some ((vB v).getD 0)
  rw [e]
  rfl
theorem BfsE.lt {nx : List (List Nat)} {b : Nat} {l : List Nat} (B : BfsE nx b l) (hb : b < nx.length) (hr : ∀ row ∈ nx, ∀ s ∈ row, s < nx.length) {s : Nat} (h : s ∈ l) : s < nx.length := by
  rw [B.e] at h
  exact bfs_lt hb hr _ s h
theorem BfsE.len {nx : List (List Nat)} {b : Nat} {l : List Nat} (B : BfsE nx b l) (hb : b < nx.length) (hr : ∀ row ∈ nx, ∀ s ∈ row, s < nx.length) : l.length ≤ nx.length := by
  have := bfs_len hb hr l.length
  rw [← B.e] at this
  exact this
theorem wf_rn {nm : List Str} {b : Nat} {nx : List (List Nat)} {ot : List (List V)} {tr : Bool} {l : List Nat} (W : Wf nm b nx ot tr) (B : BfsE nx b l) : Wf nm 0 (rnR nx l) (rnO ot l) tr := by
  have hl : ∀ s ∈ l, s < nx.length := fun s h => B.lt W.b W.nl h
  have hO : ∀ r ∈ rnO ot l, r ∈ ot := fun r h => by
    obtain ⟨s, hs, rfl⟩ := List.mem_map.mp h
    exact getD_mem (by rw [W.ol]; exact hl s hs)
  refine ⟨W.n3, ?_, ?_, ?_, fun r hr => ?_, (canon_rn B).lt, fun r hr => W.or r (hO r hr), fun r hr => W.ok r (hO r hr), fun r hr => W.bit r (hO r hr)⟩
  · rw [rnR_len]
    exact (List.getElem?_eq_some_iff.mp B.zero).1
  · rw [rnR_len]
    exact Nat.le_trans (B.len W.b W.nl) W.le
  · rw [rnR_len]
    exact List.length_map ..
  · obtain ⟨s, hs, rfl⟩ := List.mem_map.mp hr
    rw [List.length_map]
    exact W.nr _ (getD_mem (hl s hs))
theorem wf_ls {nm : List Str} {R : List (List Nat)} {O : List (List V)} {tr : Bool} {cs : List Nat} (W : Wf nm 0 R O tr) (C : Canon R) (S : Stab R cs) : Wf nm 0 (lsR R cs) (lsO O cs) tr := by
  have F := frsts_ok S.nn
  have hl : ∀ f ∈ frsts cs, f < R.length := fun f h => by
    obtain ⟨c, hc⟩ := List.mem_iff_getElem?.mp h
    rw [← S.len]
    exact (List.getElem?_eq_some_iff.mp (F.at_ c f hc).1).1
  have hO : ∀ r ∈ lsO O cs, r ∈ O := fun r h => by
    obtain ⟨s, hs, rfl⟩ := List.mem_map.mp h
    exact getD_mem (by rw [W.ol]; exact hl s hs)
  have ll : (lsR R cs).length = (frsts cs).length := List.length_map ..
  refine ⟨W.n3, ?_, ?_, ?_, fun r hr => ?_, (canon_ls C S).lt, fun r hr => W.or r (hO r hr), fun r hr => W.ok r (hO r hr), fun r hr => W.bit r (hO r hr)⟩
  · rw [ll]
    have h0 : cs[0]? = some (cs.getD 0 0) := at_getD (by rw [S.len]; exact W.b)
    exact Nat.lt_of_le_of_lt (Nat.zero_le _) (F.lt 0 _ h0)
  · rw [ll]
    have := frsts_len cs
    have h2 := W.le
    rw [S.len] at this
    omega
  · rw [ll]
    exact List.length_map ..
  · obtain ⟨s, hs, rfl⟩ := List.mem_map.mp hr
    rw [List.length_map]
    exact W.nr _ (getD_mem (hl s hs))
theorem kosF_wf {nm : List Str} {b : Nat} {nx : List (List Nat)} {ot : List (List V)} {tr : Bool} (W : Wf nm b nx ot tr) : ot.map (fun r => r.map vB) = (kosF ot).map (fun k => k.map some) := kosF_ok fun r hr v hv => by
  rcases W.bit r hr v hv with h | h
  · exact ⟨_, h⟩
  · exact ⟨_, h⟩
theorem getD_cast (cs : List Nat) (s : Nat) : (cs.map fun c : Nat => (c : Int)).getD s 0 = ((cs.getD s 0 : Nat) : Int) := by
  rw [List.getD_eq_getElem?_getD, List.getD_eq_getElem?_getD, List.getElem?_map]
  cases cs[s]? <;> rfl
structure AlR (nx nx' : List (List Nat)) (ot ot' : List (List V)) (b b' : Nat) (A : Nat → Nat → Prop) : Prop where
  b : A b b'
  lt : ∀ s c, A s c → s < nx.length ∧ c < nx'.length
  fn : ∀ s c c' : Nat, A s c → A s c' → c = c'
  out : ∀ s c, A s c → ot'.getD c [] = ot.getD s []
  next : ∀ s c p x y : Nat, A s c → (nx.getD s [])[p]? = some x → (nx'.getD c [])[p]? = some y → A x y
theorem vB_inj {tr : Bool} {v v' : V} (h : KindOf tr v) (h' : KindOf tr v') (e : (vB v).getD 0 = (vB v').getD 0) : v = v' := by
  rcases h with ⟨ht, x, rfl⟩ | ⟨ht, x, rfl⟩ <;> rcases h' with ⟨ht', y, rfl⟩ | ⟨ht', y, rfl⟩
  · cases x <;> cases y
    · rfl
    · cases e
    · cases e
    · rfl
  · rw [ht] at ht'; cases ht'
  · rw [ht] at ht'; cases ht'
  · have e : x = y := e
    rw [e]
theorem bits_inj {tr : Bool} : ∀ {r r' : List V}, (∀ v ∈ r, KindOf tr v) → (∀ v ∈ r', KindOf tr v) → r.map (fun v => (vB v).getD 0) = r'.map (fun v => (vB v).getD 0) → r = r'
  | [], [], _, _, _ => rfl
  | [], _ :: _, _, _, e => by cases e
  | _ :: _, [], _, _, e => by cases e
  | v :: r, v' :: r', h, h', e => by
    rw [List.map_cons, List.map_cons] at e
    injection e with e1 e2
    rw [vB_inj (h v List.mem_cons_self) (h' v' List.mem_cons_self) e1, bits_inj (fun v hv => h v (List.mem_cons_of_mem _ hv)) (fun v hv => h' v (List.mem_cons_of_mem _ hv)) e2]
noncomputable def Al (l cs : List Nat) (s c : Nat) : Prop := ∃ i : Nat, l[i]? = some s ∧ cs[i]? = some c
theorem al_ok {nm : List Str} {b : Nat} {nx : List (List Nat)} {ot : List (List V)} {tr : Bool} {l cs : List Nat} (W : Wf nm b nx ot tr) (B : BfsE nx b l) (S : Stab (rnR nx l) cs) (hc : ClsOf (kosF (rnO ot l)) cs) : AlR nx (lsR (rnR nx l) cs) ot (lsO (rnO ot l) cs) b 0 (Al l cs) := by
  have F := frsts_ok S.nn
  have hn := B.nodup
  have hcl : cs.length = l.length := by rw [S.len, rnR_len]
  have fst : ∀ {s c : Nat}, Al l cs s c → ∃ i f, l[i]? = some s ∧ cs[i]? = some c ∧ (frsts cs)[c]? = some f ∧ cs[f]? = some c := fun {s c} h => by
    obtain ⟨i, h1, h2⟩ := h
    obtain ⟨f, hf⟩ : ∃ f, (frsts cs)[c]? = some f := ⟨_, List.getElem?_eq_getElem (F.lt i c h2)⟩
    exact ⟨i, f, h1, h2, hf, (F.at_ c f hf).1⟩
  refine ⟨⟨0, B.zero, ?_⟩, fun s c h => ?_, fun s c c' h h' => ?_, fun s c h => ?_, fun s c p x y h hx hy => ?_⟩
  · have h0 : cs[0]? = some (cs.getD 0 0) := at_getD (by rw [hcl]; exact (List.getElem?_eq_some_iff.mp B.zero).1)
    rw [h0]
    rcases Nat.eq_zero_or_pos (cs.getD 0 0) with h | h
    · rw [h]
    · obtain ⟨j, hj, _⟩ := numb_ord cs 0 _ (by rw [S.nn]; exact h0) 0 h
      exact absurd hj (Nat.not_lt_zero _)
  · obtain ⟨i, f, h1, h2, h3, _⟩ := fst h
    refine ⟨B.lt W.b W.nl (List.mem_of_getElem? h1), ?_⟩
    show c < ((frsts cs).map _).length
    rw [List.length_map]
    exact (List.getElem?_eq_some_iff.mp h3).1
  · obtain ⟨i, h1, h2⟩ := h
    obtain ⟨i', h1', h2'⟩ := h'
    have e1 := idx_at hn h1
    have e2 := idx_at hn h1'
    rw [← e1] at h2
    rw [← e2, h2] at h2'
    exact Option.some.inj h2'
  · obtain ⟨i, f, h1, h2, h3, h4⟩ := fst h
    have hil := (List.getElem?_eq_some_iff.mp h1).1
    have hfl : f < l.length := by rw [← hcl]; exact (List.getElem?_eq_some_iff.mp h4).1
    have g : ∀ {j s' : Nat}, l[j]? = some s' → (kosF (rnO ot l))[j]? = some ((ot.getD s' []).map fun v => (vB v).getD 0) := fun {j s'} e => by
      unfold kosF rnO
      rw [List.map_map, List.getElem?_map, e]
      rfl
    obtain ⟨s', hs'⟩ : ∃ s', l[f]? = some s' := ⟨_, List.getElem?_eq_getElem hfl⟩
    have e := hc f i _ _ (g hs') (g h1) (by rw [h4, h2])
    have kd : ∀ {s : Nat}, s ∈ l → ∀ v ∈ ot.getD s [], KindOf tr v := fun {s} h => W.ok _ (getD_mem (by rw [W.ol]; exact B.lt W.b W.nl h))
    have e2 := bits_inj (kd (List.mem_of_getElem? hs')) (kd (List.mem_of_getElem? h1)) e
    unfold lsO rnO
    rw [List.getD_eq_getElem?_getD, List.getElem?_map, h3]
    show (l.map fun s => ot.getD s []).getD f [] = _
    rw [List.getD_eq_getElem?_getD, List.getElem?_map, hs']
    exact e2
  · obtain ⟨i, f, h1, h2, h3, h4⟩ := fst h
    have er : (lsR (rnR nx l) cs).getD c [] = ((rnR nx l).getD f []).map fun x => cs.getD x 0 := by
      unfold lsR
      rw [List.getD_eq_getElem?_getD, List.getElem?_map, h3]
      rfl
    have ei : (rnR nx l).getD i [] = (nx.getD s []).map fun x => l.idxOf x := by
      unfold rnR
      rw [List.getD_eq_getElem?_getD, List.getElem?_map, h1]
      rfl
    rw [er, S.row h4 h2, ei, List.map_map, List.getElem?_map, hx] at hy
    have hy : cs.getD (l.idxOf x) 0 = y := Option.some.inj hy
    have hm := B.next h1 (List.mem_of_getElem? hx)
    refine ⟨l.idxOf x, at_idx hm, ?_⟩
    rw [← hy]
    exact at_getD (by rw [hcl]; exact List.idxOf_lt_length_of_mem hm)
theorem kind_flat {tr : Bool} {v : V} (h : KindOf tr v) : flatV v = true := by
  rcases h with ⟨_, x, rfl⟩ | ⟨_, x, rfl⟩ <;> rfl
theorem cls_len {R : List (List Nat)} {kos : List (List Int)} (h : kos.length = R.length) : ∀ n, (clsN R kos n).length = R.length
  | 0 => by
    show (numb kos).length = _
    rw [numb_len, h]
  | n + 1 => by
    show (numb (refn R (clsN R kos n))).length = _
    rw [numb_len, refn_len (cls_len h n), cls_len h n]
theorem cls_nn {R : List (List Nat)} {kos : List (List Int)} : ∀ n, numb (clsN R kos n) = clsN R kos n
  | 0 => numb_numb _
  | _ + 1 => numb_numb _
theorem seen_le {κ : Type} [DecidableEq κ] (ks : List κ) : (seenL ks).length ≤ ks.length := len_of_sub (seenL_nodup ks) fun x hx => (mem_seenL ks x).mp hx
theorem cls_stab {R : List (List Nat)} {kos : List (List Int)} (h : kos.length = R.length) : Stab R (clsN R kos R.length) := by
  refine ⟨cls_len h _, ?_⟩
  have key : ∀ n, (∃ i, i < n ∧ numb (refn R (clsN R kos i)) = clsN R kos i) ∨ n ≤ (seenL (clsN R kos n)).length := by
    intro n
    induction n with
    | zero => exact .inr (Nat.zero_le _)
    | succ n ih =>
      rcases ih with ⟨i, hi, e⟩ | hn
      · exact .inl ⟨i, by omega, e⟩
      · by_cases hc : (seenL (refn R (clsN R kos n))).length ≤ (seenL (clsN R kos n)).length
        · exact .inl ⟨n, by omega, refn_stays (cls_len h n) (cls_nn n) hc⟩
        · refine .inr ?_
          show _ ≤ (seenL (numb (refn R (clsN R kos n)))).length
          rw [seen_numb]
          omega
  rcases key R.length with ⟨i, hi, e⟩ | hn
  · rw [cls_stay e (by omega), e]
  · refine refn_stays (cls_len h _) (cls_nn _) (Nat.le_trans (seen_le _) ?_)
    rw [refn_len (cls_len h _), cls_len h]
    exact hn
structure Bsm (R : List (List Nat)) (kos : List (List Int)) (T : Nat → Nat → Prop) : Prop where
  lt : ∀ i j, T i j → i < R.length ∧ j < R.length
  out : ∀ i j : Nat, T i j → kos[i]? = kos[j]?
  next : ∀ i j p x y : Nat, T i j → (R.getD i [])[p]? = some x → (R.getD j [])[p]? = some y → T x y
  len : ∀ i j, T i j → (R.getD i []).length = (R.getD j []).length
theorem cls_coarse {R : List (List Nat)} {kos : List (List Int)} {T : Nat → Nat → Prop} (h : kos.length = R.length) (B : Bsm R kos T) : ∀ (n i j : Nat), T i j → (clsN R kos n)[i]? = (clsN R kos n)[j]?
  | 0, i, j, t => by
    obtain ⟨hi, hj⟩ := B.lt i j t
    have e := B.out i j t
    have gi := row_of (rs := kos) (i := i) (by omega)
    have gj := row_of (rs := kos) (i := j) (by omega)
    rw [gi, gj] at e
    exact (numb_iff gi gj).mpr (Option.some.inj e)
  | n + 1, i, j, t => by
    obtain ⟨hi, hj⟩ := B.lt i j t
    have lc := cls_len h n
    have ci := at_getD (l := clsN R kos n) (i := i) (by omega)
    have cj := at_getD (l := clsN R kos n) (i := j) (by omega)
    have gi := refn_get ci (row_of hi)
    have gj := refn_get cj (row_of hj)
    refine (numb_iff gi gj).mpr (Prod.ext ?_ ?_)
    · have e := cls_coarse h B n i j t
      rw [ci, cj] at e
      exact congrArg (fun z : Nat => (z : Int)) (Option.some.inj e)
    · refine List.ext_getElem? fun p => ?_
      have hl := B.len i j t
      rw [List.getElem?_map, List.getElem?_map]
      rcases Nat.lt_or_ge p (R.getD i []).length with hp | hp
      · obtain ⟨x, hx⟩ : ∃ x, (R.getD i [])[p]? = some x := ⟨_, List.getElem?_eq_getElem hp⟩
        obtain ⟨y, hy⟩ : ∃ y, (R.getD j [])[p]? = some y := ⟨_, List.getElem?_eq_getElem (by omega)⟩
        have e := cls_coarse h B n x y (B.next i j p x y t hx hy)
        rw [hx, hy]
        show some (((clsN R kos n).getD x 0 : Nat) : Int) = some (((clsN R kos n).getD y 0 : Nat) : Int)
        rw [List.getD_eq_getElem?_getD, List.getD_eq_getElem?_getD, e]
      · rw [List.getElem?_eq_none hp, List.getElem?_eq_none (by omega)]
noncomputable def LR (B : Nat → Nat → Prop) (l l' : List Nat) : Prop := l.length = l'.length ∧ ∀ i x y : Nat, l[i]? = some x → l'[i]? = some y → B x y
section
variable {B : Nat → Nat → Prop} (fn : ∀ c d d', B c d → B c d' → d = d') (inj : ∀ c c' d, B c d → B c' d → c = c')
include fn inj
theorem lr_ins {l l' : List Nat} (h : LR B l l') {x y : Nat} (b : B x y) : LR B (ins1 l x) (ins1 l' y) := by
  obtain ⟨hl, hB⟩ := h
  have e : x ∈ l ↔ y ∈ l' := by
    constructor
    · intro hx
      obtain ⟨i, hi⟩ := List.mem_iff_getElem?.mp hx
      obtain ⟨z, hz⟩ : ∃ z, l'[i]? = some z := ⟨_, List.getElem?_eq_getElem (by have := (List.getElem?_eq_some_iff.mp hi).1; omega)⟩
      rw [fn _ _ _ b (hB i x z hi hz)]
      exact List.mem_of_getElem? hz
    · intro hy
      obtain ⟨i, hi⟩ := List.mem_iff_getElem?.mp hy
      obtain ⟨z, hz⟩ : ∃ z, l[i]? = some z := ⟨_, List.getElem?_eq_getElem (by have := (List.getElem?_eq_some_iff.mp hi).1; omega)⟩
      rw [inj _ _ _ b (hB i z y hz hi)]
      exact List.mem_of_getElem? hz
  unfold ins1
  by_cases hx : x ∈ l
  · rw [if_pos hx, if_pos (e.mp hx)]
    exact ⟨hl, hB⟩
  · rw [if_neg hx, if_neg (fun z => hx (e.mpr z))]
    refine ⟨by rw [List.length_append, List.length_append, hl]; rfl, fun i u v hu hv => ?_⟩
    rcases Nat.lt_or_ge i l.length with hi | hi
    · rw [List.getElem?_append_left hi] at hu
      rw [List.getElem?_append_left (by omega)] at hv
      exact hB i u v hu hv
    · rw [List.getElem?_append_right hi] at hu
      rw [List.getElem?_append_right (by omega), ← hl] at hv
      have h0 : i - l.length = 0 := by
        have := (List.getElem?_eq_some_iff.mp hu).1
        simp only [List.length_cons, List.length_nil] at this
        omega
      rw [h0] at hu hv
      cases hu
      cases hv
      exact b
theorem lr_fold : ∀ {r r' l l' : List Nat}, LR B r r' → LR B l l' → LR B (r.foldl ins1 l) (r'.foldl ins1 l')
  | [], [], _, _, _, h => h
  | [], _ :: _, _, _, h, _ => by cases h.1
  | _ :: _, [], _, _, h, _ => by cases h.1
  | x :: r, y :: r', l, l', h, g => by
    rw [List.foldl_cons, List.foldl_cons]
    refine lr_fold ⟨?_, fun i u v hu hv => h.2 (i + 1) u v (by simpa using hu) (by simpa using hv)⟩ (lr_ins fn inj g (h.2 0 x y rfl rfl))
    have := h.1
    simpa using this
theorem lr_bfs {N N' : List (List Nat)} (b0 : B 0 0) (next : ∀ c d p x y : Nat, B c d → (N.getD c [])[p]? = some x → (N'.getD d [])[p]? = some y → B x y) (len : ∀ c d, B c d → (N.getD c []).length = (N'.getD d []).length) : ∀ i, LR B (bfsN N 0 i) (bfsN N' 0 i)
  | 0 => ⟨rfl, fun i x y hx hy => by
      match i, hx, hy with
      | 0, hx, hy =>
        cases hx
        cases hy
        exact b0
      | i + 1, hx, hy => cases hx⟩
  | i + 1 => by
    have ih := lr_bfs b0 next len i
    have hb : B ((bfsN N 0 i).getD i 0) ((bfsN N' 0 i).getD i 0) := by
      rcases Nat.lt_or_ge i (bfsN N 0 i).length with h | h
      · exact ih.2 i _ _ (at_getD h) (at_getD (by rw [← ih.1]; exact h))
      · rw [List.getD_eq_getElem?_getD, List.getD_eq_getElem?_getD, List.getElem?_eq_none h, List.getElem?_eq_none (by rw [← ih.1]; exact h)]
        exact b0
    exact lr_fold fn inj ⟨len _ _ hb, fun p x y hx hy => next _ _ p x y hb hx hy⟩ ih
theorem canon_eq {N N' : List (List Nat)} (C : Canon N) (C' : Canon N') (h0 : 0 < N.length) (h0' : 0 < N'.length) (b0 : B 0 0) (next : ∀ c d p x y : Nat, B c d → (N.getD c [])[p]? = some x → (N'.getD d [])[p]? = some y → B x y) (len : ∀ c d, B c d → (N.getD c []).length = (N'.getD d []).length) :
    N = N' ∧ ∀ c, c < N.length → B c c := by
  have full : ∀ {R : List (List Nat)}, Canon R → 0 < R.length → bfsN R 0 R.length = List.range R.length := fun {R} C h0 => by
    obtain ⟨⟨k, e, hk⟩, hj⟩ := canon_bfs C h0 R.length (Nat.le_refl _)
    have h1 := bfs_len h0 C.lt R.length
    rw [e, List.length_range] at h1
    have h2 : R.length ≤ k := by
      rcases Nat.lt_or_ge k R.length with h | h
      · exfalso
        obtain ⟨r, row, hr, hrow, hm⟩ := C.reach k hk h
        obtain ⟨k', e', hk'⟩ := hj r (by omega)
        have : k ∈ bfsN R 0 R.length := (mem_bfs _).mpr (.inr ⟨r, by omega, by
          rw [e', range_getD hk', List.getD_eq_getElem?_getD, hrow]
          exact hm⟩)
        rw [e] at this
        exact absurd (List.mem_range.mp this) (Nat.lt_irrefl _)
      · exact h
    rw [e, show k = R.length by omega]
  have L := lr_bfs fn inj b0 next len
  have e1 := full C h0
  have e2 := full C' h0'
  have l1 := (L N.length).1
  have l2 := (L N'.length).1
  rw [e1, List.length_range] at l1
  rw [e2, List.length_range] at l2
  have g1 := bfs_len h0' C'.lt N.length
  have g2 := bfs_len h0 C.lt N'.length
  have hn : N.length = N'.length := by omega
  have Bd : ∀ c, c < N.length → B c c := fun c hc => by
    have := (L N.length).2 c c c
    rw [e1, hn, e2] at this
    exact this (List.getElem?_range (by omega)) (List.getElem?_range (by omega))
  refine ⟨List.ext_getElem? fun c => ?_, Bd⟩
  rcases Nat.lt_or_ge c N.length with hc | hc
  · rw [row_of hc, row_of (rs := N') (i := c) (by omega)]
    refine congrArg some (List.ext_getElem? fun p => ?_)
    have hl := len c c (Bd c hc)
    rcases Nat.lt_or_ge p (N.getD c []).length with hp | hp
    · obtain ⟨x, hx⟩ : ∃ x, (N.getD c [])[p]? = some x := ⟨_, List.getElem?_eq_getElem hp⟩
      obtain ⟨y, hy⟩ : ∃ y, (N'.getD c [])[p]? = some y := ⟨_, List.getElem?_eq_getElem (by omega)⟩
      have hx2 : x < N.length := C.lt _ (getD_mem hc) _ (List.mem_of_getElem? hx)
      rw [hx, hy, fn _ _ _ (next c c p x y (Bd c hc) hx hy) (Bd x hx2)]
    · rw [List.getElem?_eq_none hp, List.getElem?_eq_none (by omega)]
  · rw [List.getElem?_eq_none hc, List.getElem?_eq_none (by omega)]
end
structure Bis (nx nx' : List (List Nat)) (ot ot' : List (List V)) (b b' : Nat) (A : Nat → Nat → Prop) : Prop where
  b : A b b'
  lt : ∀ s c, A s c → s < nx.length ∧ c < nx'.length
  out : ∀ s c, A s c → ot'.getD c [] = ot.getD s []
  next : ∀ s c p x y : Nat, A s c → (nx.getD s [])[p]? = some x → (nx'.getD c [])[p]? = some y → A x y
theorem AlR.bis {nx nx' : List (List Nat)} {ot ot' : List (List V)} {b b' : Nat} {A : Nat → Nat → Prop} (R : AlR nx nx' ot ot' b b' A) : Bis nx nx' ot ot' b b' A := ⟨R.b, R.lt, R.out, R.next⟩
theorem Bis.symm {nx nx' : List (List Nat)} {ot ot' : List (List V)} {b b' : Nat} {A : Nat → Nat → Prop} (R : Bis nx nx' ot ot' b b' A) : Bis nx' nx ot' ot b' b (fun s c => A c s) :=
  ⟨R.b, fun s c h => (R.lt c s h).symm, fun s c h => (R.out c s h).symm, fun s c p x y h hx hy => R.next c s p y x h hy hx⟩
structure Lst (nm : List Str) (b : Nat) (nx : List (List Nat)) (ot : List (List V)) (tr : Bool) (l cs : List Nat) : Prop where
  W : Wf nm b nx ot tr
  B : BfsE nx b l
  e : cs = clsN (rnR nx l) (kosF (rnO ot l)) l.length
  S : Stab (rnR nx l) cs
  C : ClsOf (kosF (rnO ot l)) cs
theorem Lst.al {nm : List Str} {b : Nat} {nx : List (List Nat)} {ot : List (List V)} {tr : Bool} {l cs : List Nat} (L : Lst nm b nx ot tr l cs) : AlR nx (lsR (rnR nx l) cs) ot (lsO (rnO ot l) cs) b 0 (Al l cs) := al_ok L.W L.B L.S L.C
theorem Lst.W2 {nm : List Str} {b : Nat} {nx : List (List Nat)} {ot : List (List V)} {tr : Bool} {l cs : List Nat} (L : Lst nm b nx ot tr l cs) : Wf nm 0 (lsR (rnR nx l) cs) (lsO (rnO ot l) cs) tr := wf_ls (wf_rn L.W L.B) (canon_rn L.B) L.S
theorem Lst.C2 {nm : List Str} {b : Nat} {nx : List (List Nat)} {ot : List (List V)} {tr : Bool} {l cs : List Nat} (L : Lst nm b nx ot tr l cs) : Canon (lsR (rnR nx l) cs) := canon_ls (canon_rn L.B) L.S
theorem kosF_len (ot : List (List V)) : (kosF ot).length = ot.length := List.length_map ..
theorem kosF_at {ot : List (List V)} {l : List Nat} {i s : Nat} (h : l[i]? = some s) : (kosF (rnO ot l))[i]? = some ((ot.getD s []).map fun v => (vB v).getD 0) := by
  unfold kosF rnO
  rw [List.map_map, List.getElem?_map, h]
  rfl
theorem rn_at {nx : List (List Nat)} {l : List Nat} {i s : Nat} (h : l[i]? = some s) : (rnR nx l).getD i [] = (nx.getD s []).map fun x => l.idxOf x := by
  unfold rnR
  rw [List.getD_eq_getElem?_getD, List.getElem?_map, h]
  rfl
theorem kr_len (nx : List (List Nat)) (ot : List (List V)) (l : List Nat) : (kosF (rnO ot l)).length = (rnR nx l).length := by
  rw [kosF_len, rnR_len]
  exact List.length_map ..
theorem Wf.row {nm : List Str} {b : Nat} {nx : List (List Nat)} {ot : List (List V)} {tr : Bool} (W : Wf nm b nx ot tr) {s : Nat} (h : s < nx.length) : (nx.getD s []).length = 2 ^ nm.length := W.nr _ (getD_mem h)
theorem same_cls {nm : List Str} {b b' : Nat} {nx nx' : List (List Nat)} {ot ot' : List (List V)} {tr : Bool} {l cs l' cs' : List Nat} (L : Lst nm b nx ot tr l cs) (L' : Lst nm b' nx' ot' tr l' cs') {A : Nat → Nat → Prop} (hA : Bis nx nx' ot ot' b b' A)
    {s s' t t' c i j : Nat} (h1 : Al l cs s c) (h2 : Al l cs s' c) (a1 : A s t) (a2 : A s' t') (hi : l'[i]? = some t) (hj : l'[j]? = some t') : cs'[i]? = cs'[j]? := by
  rw [L'.e]
  have al := L.al
  refine cls_coarse (T := fun i j => ∃ s s' t t' c : Nat, Al l cs s c ∧ Al l cs s' c ∧ A s t ∧ A s' t' ∧ l'[i]? = some t ∧ l'[j]? = some t') (kr_len nx' ot' l') ⟨?_, ?_, ?_, ?_⟩ l'.length i j ⟨s, s', t, t', c, h1, h2, a1, a2, hi, hj⟩
  · rintro i j ⟨s, s', t, t', c, h1, h2, a1, a2, hi, hj⟩
    rw [rnR_len]
    exact ⟨(List.getElem?_eq_some_iff.mp hi).1, (List.getElem?_eq_some_iff.mp hj).1⟩
  · rintro i j ⟨s, s', t, t', c, h1, h2, a1, a2, hi, hj⟩
    rw [kosF_at hi, kosF_at hj, hA.out _ _ a1, hA.out _ _ a2, ← al.out _ _ h1, ← al.out _ _ h2]
  · rintro i j p x y ⟨s, s', t, t', c, h1, h2, a1, a2, hi, hj⟩ hx hy
    rw [rn_at hi, List.getElem?_map] at hx
    rw [rn_at hj, List.getElem?_map] at hy
    obtain ⟨u, hu, rfl⟩ := Option.map_eq_some_iff.mp hx
    obtain ⟨v, hv, rfl⟩ := Option.map_eq_some_iff.mp hy
    have hp := (List.getElem?_eq_some_iff.mp hu).1
    rw [L'.W.row (hA.lt _ _ a1).2] at hp
    obtain ⟨x1, hx1⟩ : ∃ x1, (nx.getD s [])[p]? = some x1 := ⟨_, List.getElem?_eq_getElem (by rw [L.W.row (hA.lt _ _ a1).1]; exact hp)⟩
    obtain ⟨y1, hy1⟩ : ∃ y1, (nx.getD s' [])[p]? = some y1 := ⟨_, List.getElem?_eq_getElem (by rw [L.W.row (hA.lt _ _ a2).1]; exact hp)⟩
    obtain ⟨z, hz⟩ : ∃ z, ((lsR (rnR nx l) cs).getD c [])[p]? = some z := ⟨_, List.getElem?_eq_getElem (by rw [L.W2.row (al.lt _ _ h1).2]; exact hp)⟩
    exact ⟨x1, y1, u, v, z, al.next _ _ p _ _ h1 hx1 hz, al.next _ _ p _ _ h2 hy1 hz, hA.next _ _ p _ _ a1 hx1 hu, hA.next _ _ p _ _ a2 hy1 hv, at_idx (L'.B.next hi (List.mem_of_getElem? hu)), at_idx (L'.B.next hj (List.mem_of_getElem? hv))⟩
  · rintro i j ⟨s, s', t, t', c, h1, h2, a1, a2, hi, hj⟩
    rw [rn_at hi, rn_at hj, List.length_map, List.length_map, L'.W.row (hA.lt _ _ a1).2, L'.W.row (hA.lt _ _ a2).2]
theorem least_eq {nm : List Str} {b b' : Nat} {nx nx' : List (List Nat)} {ot ot' : List (List V)} {tr : Bool} {l cs l' cs' : List Nat} (L : Lst nm b nx ot tr l cs) (L' : Lst nm b' nx' ot' tr l' cs') {A : Nat → Nat → Prop} (hA : Bis nx nx' ot ot' b b' A) :
    lsR (rnR nx l) cs = lsR (rnR nx' l') cs' ∧ lsO (rnO ot l) cs = lsO (rnO ot' l') cs' := by
  have al := L.al
  have al' := L'.al
  have W := L.W2
  have W' := L'.W2
  have fn : ∀ c d d' : Nat, (∃ s t, Al l cs s c ∧ A s t ∧ Al l' cs' t d) → (∃ s t, Al l cs s c ∧ A s t ∧ Al l' cs' t d') → d = d' := by
    rintro c d d' ⟨s, t, h1, h2, ⟨i, h3, h4⟩⟩ ⟨s', t', g1, g2, ⟨j, g3, g4⟩⟩
    have := same_cls L L' hA h1 g1 h2 g2 h3 g3
    rw [h4, g4] at this
    exact Option.some.inj this
  have inj : ∀ c c' d : Nat, (∃ s t, Al l cs s c ∧ A s t ∧ Al l' cs' t d) → (∃ s t, Al l cs s c' ∧ A s t ∧ Al l' cs' t d) → c = c' := by
    rintro c c' d ⟨s, t, ⟨i, h3, h4⟩, h2, h1⟩ ⟨s', t', ⟨j, g3, g4⟩, g2, g1⟩
    have := same_cls L' L hA.symm h1 g1 h2 g2 h3 g3
    rw [h4, g4] at this
    exact Option.some.inj this
  have next : ∀ c d p x y : Nat, (∃ s t, Al l cs s c ∧ A s t ∧ Al l' cs' t d) → ((lsR (rnR nx l) cs).getD c [])[p]? = some x → ((lsR (rnR nx' l') cs').getD d [])[p]? = some y → ∃ s t, Al l cs s x ∧ A s t ∧ Al l' cs' t y := by
    rintro c d p x y ⟨s, t, h1, h2, h3⟩ hx hy
    have hp := (List.getElem?_eq_some_iff.mp hx).1
    rw [W.row (al.lt _ _ h1).2] at hp
    obtain ⟨u, hu⟩ : ∃ u, (nx.getD s [])[p]? = some u := ⟨_, List.getElem?_eq_getElem (by rw [L.W.row (hA.lt _ _ h2).1]; exact hp)⟩
    obtain ⟨v, hv⟩ : ∃ v, (nx'.getD t [])[p]? = some v := ⟨_, List.getElem?_eq_getElem (by rw [L'.W.row (hA.lt _ _ h2).2]; exact hp)⟩
    exact ⟨u, v, al.next _ _ p _ _ h1 hu hx, hA.next _ _ p _ _ h2 hu hv, al'.next _ _ p _ _ h3 hv hy⟩
  obtain ⟨e, hB⟩ := canon_eq fn inj L.C2 L'.C2 W.b W'.b ⟨b, b', al.b, hA.b, al'.b⟩ next (by
    rintro c d ⟨s, t, h1, h2, h3⟩
    rw [W.row (al.lt _ _ h1).2, W'.row (al'.lt _ _ h3).2])
  refine ⟨e, List.ext_getElem? fun c => ?_⟩
  have el := congrArg List.length e
  have o1 := W.ol
  have o2 := W'.ol
  rcases Nat.lt_or_ge c (lsO (rnO ot l) cs).length with hc | hc
  · obtain ⟨s, t, h1, h2, h3⟩ := hB c (by omega)
    rw [row_of hc, row_of (rs := lsO (rnO ot' l') cs') (i := c) (by omega), al.out _ _ h1, al'.out _ _ h3, hA.out _ _ h2]
  · rw [List.getElem?_eq_none hc, List.getElem?_eq_none (by omega)]
theorem least_apart {nm : List Str} {b : Nat} {nx : List (List Nat)} {ot : List (List V)} {tr : Bool} {l cs : List Nat} (L : Lst nm b nx ot tr l cs) : (clsN (lsR (rnR nx l) cs) (kosF (lsO (rnO ot l) cs)) (lsR (rnR nx l) cs).length).Nodup := by
  have al := L.al
  have W := L.W2
  have hk : (kosF (lsO (rnO ot l) cs)).length = (lsR (rnR nx l) cs).length := by rw [kosF_len, W.ol]
  have S := cls_stab hk
  have F := frsts_ok L.S.nn
  have fl : (frsts cs).length = (lsR (rnR nx l) cs).length := (List.length_map ..).symm
  have cl : cs.length = l.length := by rw [L.S.len, rnR_len]
  -- a class of the least machine has a state
  have ex : ∀ c, c < (lsR (rnR nx l) cs).length → ∃ i s : Nat, l[i]? = some s ∧ cs[i]? = some c := fun c hc => by
    obtain ⟨f, hf⟩ : ∃ f, (frsts cs)[c]? = some f := ⟨_, List.getElem?_eq_getElem (by omega)⟩
    have h1 := (F.at_ c f hf).1
    exact ⟨f, _, List.getElem?_eq_getElem (by rw [← cl]; exact (List.getElem?_eq_some_iff.mp h1).1), h1⟩
  have k0 : ∀ (n : Nat) (c d : Nat), (clsN (lsR (rnR nx l) cs) (kosF (lsO (rnO ot l) cs)) n)[c]? = (clsN (lsR (rnR nx l) cs) (kosF (lsO (rnO ot l) cs)) n)[d]? → c < (lsR (rnR nx l) cs).length → d < (lsR (rnR nx l) cs).length → (kosF (lsO (rnO ot l) cs))[c]? = (kosF (lsO (rnO ot l) cs))[d]? := by
    intro n
    induction n with
    | zero =>
      intro c d e hc hd
      have gc := row_of (rs := kosF (lsO (rnO ot l) cs)) (i := c) (by omega)
      have gd := row_of (rs := kosF (lsO (rnO ot l) cs)) (i := d) (by omega)
      rw [gc, gd, (numb_iff gc gd).mp e]
    | succ n ih =>
      intro c d e hc hd
      have lc := cls_len hk n
      have cc := at_getD (l := clsN (lsR (rnR nx l) cs) (kosF (lsO (rnO ot l) cs)) n) (i := c) (by omega)
      have cd := at_getD (l := clsN (lsR (rnR nx l) cs) (kosF (lsO (rnO ot l) cs)) n) (i := d) (by omega)
      have := congrArg Prod.fst ((numb_iff (refn_get cc (row_of hc)) (refn_get cd (row_of hd))).mp e)
      exact ih c d (by rw [cc, cd, Int.ofNat.inj this]) hc hd
  have key : ∀ (c d : Nat), c < (lsR (rnR nx l) cs).length → d < (lsR (rnR nx l) cs).length → (clsN (lsR (rnR nx l) cs) (kosF (lsO (rnO ot l) cs)) (lsR (rnR nx l) cs).length)[c]? = (clsN (lsR (rnR nx l) cs) (kosF (lsO (rnO ot l) cs)) (lsR (rnR nx l) cs).length)[d]? → c = d := by
    intro c d hc hd e
    obtain ⟨i, s, hi, ci⟩ := ex c hc
    obtain ⟨j, s', hj, cj⟩ := ex d hd
    have z := cls_coarse (T := fun i j => ∃ s s' c d : Nat, l[i]? = some s ∧ l[j]? = some s' ∧ cs[i]? = some c ∧ cs[j]? = some d ∧ (clsN (lsR (rnR nx l) cs) (kosF (lsO (rnO ot l) cs)) (lsR (rnR nx l) cs).length)[c]? = (clsN (lsR (rnR nx l) cs) (kosF (lsO (rnO ot l) cs)) (lsR (rnR nx l) cs).length)[d]?) (kr_len nx ot l) ⟨?_, ?_, ?_, ?_⟩ l.length i j ⟨s, s', c, d, hi, hj, ci, cj, e⟩
    · rw [← L.e, ci, cj] at z
      exact Option.some.inj z
    · rintro i j ⟨s, s', c, d, hi, hj, ci, cj, e⟩
      rw [rnR_len]
      exact ⟨(List.getElem?_eq_some_iff.mp hi).1, (List.getElem?_eq_some_iff.mp hj).1⟩
    · rintro i j ⟨s, s', c, d, hi, hj, ci, cj, e⟩
      have a1 : Al l cs s c := ⟨i, hi, ci⟩
      have a2 : Al l cs s' d := ⟨j, hj, cj⟩
      have hc := (al.lt _ _ a1).2
      have hd := (al.lt _ _ a2).2
      have ke := k0 _ c d e hc hd
      have g : ∀ {c s : Nat}, Al l cs s c → (kosF (lsO (rnO ot l) cs))[c]? = some ((ot.getD s []).map fun v => (vB v).getD 0) := fun {c s} a => by
        have hc := (al.lt _ _ a).2
        unfold kosF
        rw [List.getElem?_map, row_of (rs := lsO (rnO ot l) cs) (i := c) (by rw [W.ol]; exact hc), al.out _ _ a]
        rfl
      rw [kosF_at hi, kosF_at hj, ← g a1, ← g a2, ke]
    · rintro i j p x y ⟨s, s', c, d, hi, hj, ci, cj, e⟩ hx hy
      have a1 : Al l cs s c := ⟨i, hi, ci⟩
      have a2 : Al l cs s' d := ⟨j, hj, cj⟩
      have hc := (al.lt _ _ a1).2
      have hd := (al.lt _ _ a2).2
      rw [rn_at hi, List.getElem?_map] at hx
      rw [rn_at hj, List.getElem?_map] at hy
      obtain ⟨u, hu, rfl⟩ := Option.map_eq_some_iff.mp hx
      obtain ⟨v, hv, rfl⟩ := Option.map_eq_some_iff.mp hy
      have hp := (List.getElem?_eq_some_iff.mp hu).1
      rw [L.W.row (al.lt _ _ a1).1] at hp
      obtain ⟨y1, hy1⟩ : ∃ y1, ((lsR (rnR nx l) cs).getD c [])[p]? = some y1 := ⟨_, List.getElem?_eq_getElem (by rw [W.row hc]; exact hp)⟩
      obtain ⟨y2, hy2⟩ : ∃ y2, ((lsR (rnR nx l) cs).getD d [])[p]? = some y2 := ⟨_, List.getElem?_eq_getElem (by rw [W.row hd]; exact hp)⟩
      obtain ⟨i', h1, h2⟩ := al.next _ _ p _ _ a1 hu hy1
      obtain ⟨j', h3, h4⟩ := al.next _ _ p _ _ a2 hv hy2
      have nd := L.B.nodup
      rw [idx_at nd h1, idx_at nd h3]
      refine ⟨u, v, y1, y2, h1, h3, h2, h4, ?_⟩
      have cc := at_getD (l := clsN (lsR (rnR nx l) cs) (kosF (lsO (rnO ot l) cs)) (lsR (rnR nx l) cs).length) (i := c) (by rw [S.len]; exact hc)
      have rr := S.row cc (e ▸ cc)
      have r1 := congrArg (fun z : List Nat => z[p]?) rr
      simp only [List.getElem?_map, hy1, hy2, Option.map_some] at r1
      have l1 : y1 < (lsR (rnR nx l) cs).length := W.nl _ (getD_mem hc) _ (List.mem_of_getElem? hy1)
      have l2 : y2 < (lsR (rnR nx l) cs).length := W.nl _ (getD_mem hd) _ (List.mem_of_getElem? hy2)
      rw [at_getD (l := clsN _ _ _) (i := y1) (by rw [S.len]; exact l1), at_getD (l := clsN _ _ _) (i := y2) (by rw [S.len]; exact l2)]
      exact r1
    · rintro i j ⟨s, s', c, d, hi, hj, ci, cj, e⟩
      have a1 : Al l cs s c := ⟨i, hi, ci⟩
      have a2 : Al l cs s' d := ⟨j, hj, cj⟩
      rw [rn_at hi, rn_at hj, List.length_map, List.length_map, L.W.row (al.lt _ _ a1).1, L.W.row (al.lt _ _ a2).1]
  refine List.pairwise_iff_getElem.mpr fun c d hc hd hcd e => ?_
  exact absurd (key c d (by rw [← S.len]; exact hc) (by rw [← S.len]; exact hd) (by rw [List.getElem?_eq_getElem hc, List.getElem?_eq_getElem hd, e])) (by omega)
theorem least_ne {nm : List Str} {b : Nat} {nx : List (List Nat)} {ot ot' : List (List V)} {tr : Bool} {l cs cs' : List Nat} (L : Lst nm b nx ot tr l cs) (L' : Lst nm b nx ot' tr l cs') {s : Nat} (hs : s ∈ l) (hne : ot.getD s [] ≠ ot'.getD s []) : ¬ (lsR (rnR nx l) cs' = lsR (rnR nx l) cs ∧ lsO (rnO ot' l) cs' = lsO (rnO ot l) cs) := by
  rintro ⟨e1, e2⟩
  have al := L.al
  have al' := L'.al
  rw [e1, e2] at al'
  have C := canon_rn L.B
  have cl : cs.length = l.length := by rw [L.S.len, rnR_len]
  have cl' : cs'.length = l.length := by rw [L'.S.len, rnR_len]
  have key : ∀ (n i : Nat), i ≤ n → i < l.length → cs[i]? = cs'[i]? := by
    intro n
    induction n with
    | zero =>
      intro i hi hl
      obtain ⟨j, h1, h2⟩ := al.b
      obtain ⟨j', h3, h4⟩ := al'.b
      have nd := L.B.nodup
      have z := L.B.zero
      have e0 : i = 0 := by omega
      rw [← idx_at nd h1, idx_at nd z] at h2
      rw [← idx_at nd h3, idx_at nd z] at h4
      rw [e0, h2, h4]
    | succ n ih =>
      intro i hi hl
      rcases Nat.eq_zero_or_pos i with h0 | h0
      · exact ih i (by omega) hl
      · obtain ⟨r, row, hr, hrow, hm⟩ := C.reach i h0 (by rw [rnR_len]; exact hl)
        have hrl : r < l.length := by omega
        have hr2 : l[r]? = some l[r] := List.getElem?_eq_getElem hrl
        obtain ⟨p, hp⟩ := List.mem_iff_getElem?.mp hm
        have erow : row = (nx.getD l[r] []).map fun x => l.idxOf x := by
          rw [← rn_at hr2, List.getD_eq_getElem?_getD, hrow]
          rfl
        rw [erow, List.getElem?_map] at hp
        obtain ⟨u, hu, e⟩ := Option.map_eq_some_iff.mp hp
        have hul : l[i]? = some u := by
          rw [← e]
          exact at_idx (L.B.next hr2 (List.mem_of_getElem? hu))
        obtain ⟨c, hc⟩ : ∃ c, cs[r]? = some c := ⟨_, List.getElem?_eq_getElem (by omega)⟩
        have hc' := ih r (by omega) hrl
        rw [hc] at hc'
        have a1 : Al l cs l[r] c := ⟨r, hr2, hc⟩
        have a2 : Al l cs' l[r] c := ⟨r, hr2, hc'.symm⟩
        have hpl := (List.getElem?_eq_some_iff.mp hu).1
        rw [L.W.row (al.lt _ _ a1).1] at hpl
        obtain ⟨y, hy⟩ : ∃ y, ((lsR (rnR nx l) cs).getD c [])[p]? = some y := ⟨_, List.getElem?_eq_getElem (by rw [L.W2.row (al.lt _ _ a1).2]; exact hpl)⟩
        obtain ⟨j, h1, h2⟩ := al.next _ _ p _ _ a1 hu hy
        obtain ⟨j', h3, h4⟩ := al'.next _ _ p _ _ a2 hu hy
        have nd := L.B.nodup
        rw [← idx_at nd h1, idx_at nd hul] at h2
        rw [← idx_at nd h3, idx_at nd hul] at h4
        rw [h2, h4]
  obtain ⟨i, hi⟩ := List.mem_iff_getElem?.mp hs
  have hil := (List.getElem?_eq_some_iff.mp hi).1
  obtain ⟨c, hc⟩ : ∃ c, cs[i]? = some c := ⟨_, List.getElem?_eq_getElem (by omega)⟩
  have hc' := key i i (Nat.le_refl _) hil
  rw [hc] at hc'
  exact hne ((al.out _ _ ⟨i, hi, hc⟩).symm.trans (al'.out _ _ ⟨i, hi, hc'.symm⟩))
theorem eqvs_inj : ∀ {r r' : List V}, (∀ v ∈ r, ∀ w ∈ r', eqV v w = true → v = w) → eqvs r r' = true → r = r'
  | [], [], _, _ => rfl
  | [], _ :: _, _, e => by cases e
  | _ :: _, [], _, e => by cases e
  | x :: r, y :: r', h, e => by
    have e : (eqV x y && eqvs r r') = true := e
    rw [Bool.and_eq_true] at e
    rw [h x List.mem_cons_self y List.mem_cons_self e.1, eqvs_inj (fun v hv w hw => h v (List.mem_cons_of_mem _ hv) w (List.mem_cons_of_mem _ hw)) e.2]
theorem rows_eqB {H : Hp} {p q : Addr} {rs rs' : List (List V)} (R : RowsE H p rs) (S : RowsE H q rs') (hf : ∀ r ∈ rs, ∀ v ∈ r, flatV v = true) (hf' : ∀ r ∈ rs', ∀ v ∈ r, flatV v = true) (inj : ∀ r ∈ rs, ∀ v ∈ r, ∀ r' ∈ rs', ∀ w ∈ r', eqV v w = true → v = w) :
    ∃ b, EqB H 3 (.ref p) (.ref q) b ∧ (b = true ↔ rs = rs') := by
  obtain ⟨as, h1, h2, h3⟩ := R
  obtain ⟨bs, g1, g2, g3⟩ := S
  refine ⟨_, .inr ⟨p, q, as, bs, fun j => eqvs (rs.getD j []) (rs'.getD j []), rfl, rfl, h1, g1, rfl, fun j u v hu hv => ?_⟩, ?_⟩
  · have hj : j < rs.length := by rw [← h2]; exact (List.getElem?_eq_some_iff.mp hu).1
    have hj' : j < rs'.length := by rw [← g2]; exact (List.getElem?_eq_some_iff.mp hv).1
    obtain ⟨a, e1, e2⟩ := h3 j _ (row_of hj)
    obtain ⟨c, e3, e4⟩ := g3 j _ (row_of hj')
    rw [hu] at e1
    rw [hv] at e3
    cases e1
    cases e3
    refine .inr ⟨a, c, _, _, eqJ (rs.getD j []) (rs'.getD j []), rfl, rfl, e2, e4, (eqvs_range _ _).symm, fun i x y hx hy => .inl ⟨hf _ (getD_mem hj) x (List.mem_of_getElem? hx), hf' _ (getD_mem hj') y (List.mem_of_getElem? hy), ?_⟩⟩
    unfold eqJ
    rw [hx, hy]
  · rw [Bool.and_eq_true, List.all_eq_true]
    constructor
    · rintro ⟨ha, hl⟩
      have hl : as.length = bs.length := eq_of_beq hl
      refine List.ext_getElem? fun j => ?_
      rcases Nat.lt_or_ge j rs.length with hj | hj
      · have hj' : j < rs'.length := by omega
        have := ha j (List.mem_range.mpr (by omega))
        rw [row_of hj, row_of hj', eqvs_inj (fun v hv w hw => inj _ (getD_mem hj) v hv _ (getD_mem hj') w hw) this]
      · rw [List.getElem?_eq_none hj, List.getElem?_eq_none (by omega)]
    · intro e
      subst e
      refine ⟨fun j hj => ?_, by rw [h2, g2]; exact beq_self_eq_true _⟩
      have hj := List.mem_range.mp hj
      refine eqvs_self (List.all_eq_true.mpr fun v hv => hf _ (getD_mem (i := j) (by omega)) v hv)
theorem kind_eqV {tr : Bool} {v w : V} (h : KindOf tr v) (h' : KindOf tr w) (e : eqV v w = true) : v = w := by
  rcases h with ⟨ht, x, rfl⟩ | ⟨ht, x, rfl⟩ <;> rcases h' with ⟨ht', y, rfl⟩ | ⟨ht', y, rfl⟩
  · have e : (x == y) = true := e
    rw [eq_of_beq e]
  · rw [ht] at ht'; cases ht'
  · rw [ht] at ht'; cases ht'
  · have e : (x == y) = true := e
    rw [eq_of_beq e]
theorem m4_neB {H : Hp} {a c : Addr} {nm : List Str} {b : Nat} {nx nx' : List (List Nat)} {ot ot' : List (List V)} {tr : Bool} (M : M4 H a nm b nx ot) (N : M4 H c nm b nx' ot') (ho : ∀ r ∈ ot, ∀ v ∈ r, KindOf tr v) (ho' : ∀ r ∈ ot', ∀ v ∈ r, KindOf tr v) :
    ∃ xs ys e, H a = some (.tup xs) ∧ H c = some (.tup ys) ∧ (∀ (j : Nat) (u v : V), xs[j]? = some u → ys[j]? = some v → EqB H 3 u v (e j)) ∧ (((List.range (min xs.length ys.length)).all e && xs.length == ys.length) = true ↔ nx = nx' ∧ ot = ot') := by
  obtain ⟨pn, ps, po, h1, h2, h3, h4⟩ := M.ex
  obtain ⟨qn, qs, qo, g1, g2, g3, g4⟩ := N.ex
  have nat : ∀ {nx : List (List Nat)} {r : List V} {v : V}, r ∈ nx.map nrow → v ∈ r → ∃ z : Nat, v = natV z := fun {nx r v} hr hv => by
    obtain ⟨r', _, rfl⟩ := List.mem_map.mp hr
    obtain ⟨z, _, rfl⟩ := List.mem_map.mp hv
    exact ⟨z, rfl⟩
  obtain ⟨b2, z2, i2⟩ := rows_eqB h3 g3 (fun r hr v hv => by obtain ⟨z, rfl⟩ := nat hr hv; rfl) (fun r hr v hv => by obtain ⟨z, rfl⟩ := nat hr hv; rfl) (fun r hr v hv r' hr' w hw e => by
    obtain ⟨z, rfl⟩ := nat hr hv
    obtain ⟨z', rfl⟩ := nat hr' hw
    have e : ((z : Int) == (z' : Int)) = true := e
    exact congrArg V.int (eq_of_beq e))
  obtain ⟨b3, z3, i3⟩ := rows_eqB h4 g4 (fun r hr v hv => kind_flat (ho r hr v hv)) (fun r hr v hv => kind_flat (ho' r hr v hv)) (fun r hr v hv r' hr' w hw e => kind_eqV (ho r hr v hv) (ho' r' hr' w hw) e)
  refine ⟨_, _, fun j => match j with | 2 => b2 | 3 => b3 | _ => true, h1, g1, fun j u v hu hv => ?_, ?_⟩
  · match j, hu, hv with
    | 0, hu, hv =>
      cases hu
      cases hv
      refine .inr ⟨pn, qn, _, _, fun _ => true, rfl, rfl, h2, g2, ?_, fun i x y hx hy => ?_⟩
      · rw [beq_self_eq_true, Bool.and_true]
        exact (List.all_eq_true.mpr fun _ _ => rfl).symm
      · rw [hx] at hy
        cases hy
        rw [List.getElem?_map] at hx
        obtain ⟨z, _, rfl⟩ := Option.map_eq_some_iff.mp hx
        exact .inl ⟨rfl, rfl, (eqV_self rfl).symm⟩
    | 1, hu, hv =>
      cases hu
      cases hv
      exact .inl ⟨rfl, rfl, (eqV_self rfl).symm⟩
    | 2, hu, hv =>
      cases hu
      cases hv
      exact z2
    | 3, hu, hv =>
      cases hu
      cases hv
      exact z3
    | j + 4, hu, hv => cases hu
  · have inj : nx.map nrow = nx'.map nrow → nx = nx' := fun e => by
      refine List.ext_getElem? fun i => ?_
      have e1 := congrArg (fun l => l[i]?) e
      simp only [List.getElem?_map] at e1
      cases h : nx[i]? with
      | none =>
        rw [h] at e1
        cases h' : nx'[i]? with
        | none => rfl
        | some r => rw [h'] at e1; cases e1
      | some r =>
        rw [h] at e1
        cases h' : nx'[i]? with
        | none => rw [h'] at e1; cases e1
        | some r' =>
          rw [h'] at e1
          have e2 : nrow r = nrow r' := Option.some.inj e1
          have e3 := congrArg (List.map fun v => match v with | .int z => z.toNat | _ => 0) e2
          unfold nrow at e3
          rw [List.map_map, List.map_map] at e3
          have e4 : r.map (fun z : Nat => (z : Int).toNat) = r'.map (fun z : Nat => (z : Int).toNat) := e3
          simp only [Int.toNat_natCast, List.map_id'] at e4
          rw [e4]
    have hb : ((List.range (min 4 4)).all (fun j => match j with | 2 => b2 | 3 => b3 | _ => true) && (4 : Nat) == 4) = (b2 && b3) := by
      cases b2 <;> cases b3 <;> rfl
    show (((List.range (min 4 4)).all (fun j => match j with | 2 => b2 | 3 => b3 | _ => true) && (4 : Nat) == 4) = true) ↔ _
    rw [hb, Bool.and_eq_true, i2, i3]
    exact ⟨fun h => ⟨inj h.1, h.2⟩, fun h => ⟨by rw [h.1], h.2⟩⟩
theorem OffT.seq {pw : Addr} {K : PySem.W.Frag} {H H' : Hp} {a : Addr} {xs : List V} (e : OffT pw H H') (ht : ∃ ps, H pw = some (.tbl ps)) (h : SqL K H a xs) : SqL K H' a xs := by
  obtain ⟨pz, hpz⟩ := ht
  rcases h with (h | ⟨o, h⟩) | h
  · exact .inl (.inl (e _ _ h (ne_of h hpz fun z => nomatch z)))
  · exact .inl (.inr ⟨o, e _ _ h (ne_of h hpz fun z => nomatch z)⟩)
  · exact .inr h
theorem OffT.tup {pw : Addr} {H H' : Hp} (e : OffT pw H H') (ht : ∃ ps, H pw = some (.tbl ps)) (b : Addr) (xs : List V) (h : H b = some (.tup xs)) : H' b = some (.tup xs) := by
  obtain ⟨pz, hpz⟩ := ht
  exact e _ _ h (ne_of h hpz fun z => nomatch z)
set_option genInjectivity false in
set_option genSizeOfSpec false in
structure Adr where
  a_state_number : Addr
  f_state_number : FuncData
  a_numbered : Addr
  f_numbered : FuncData
  a_classes_of : Addr
  f_classes_of : FuncData
  a_firsts_of : Addr
  f_firsts_of : FuncData
  a_law_cell_at : Addr
  f_law_cell_at : FuncData
  a_law_numbers : Addr
  f_law_numbers : FuncData
  a_law_blown : Addr
  f_law_blown : FuncData
  a_law_led_to : Addr
  f_law_led_to : FuncData
  a_law_marked : Addr
  f_law_marked : FuncData
  a_alike_classes : Addr
  f_alike_classes : FuncData
  a_law_names : Addr
  f_law_names : FuncData
  a_law_machine : Addr
  f_law_machine : FuncData
  a_law_apart : Addr
  f_law_apart : FuncData
  a_law_turned : Addr
  f_law_turned : FuncData
  a_machine_found : Addr
  f_machine_found : FuncData
  a_least : Addr
  f_least : FuncData
  a_law : Addr
  f_law : FuncData
  c_least : Addr
  p_least : Addr
structure Df (K : PySem.W.Frag) (mg : Str → Option Value) (x : Str) (st : Stmt) (ps : List Str) (f : Addr) (fd : FuncData) : Prop where
  F : Fun K x x st f fd
  m : mg x = some (.ref f)
  b : Binds K fd ps []
set_option genInjectivity false in
set_option genSizeOfSpec false in
structure Txt (K : PySem.W.Frag) (w : World) (mg : Str → Option Value) (t : Adr) : Prop where
  d_state_number : Df K mg "state_number" s_state_number ["state", "states", "numbers"] t.a_state_number t.f_state_number
  d_numbered : Df K mg "numbered" s_numbered ["marks"] t.a_numbered t.f_numbered
  d_classes_of : Df K mg "classes_of" s_classes_of ["states", "classes"] t.a_classes_of t.f_classes_of
  d_firsts_of : Df K mg "firsts_of" s_firsts_of ["classes"] t.a_firsts_of t.f_firsts_of
  d_law_cell_at : Df K mg "_law_cell_at" s_law_cell_at ["script", "k"] t.a_law_cell_at t.f_law_cell_at
  d_law_numbers : Df K mg "_law_numbers" s_law_numbers ["cell", "many", "most"] t.a_law_numbers t.f_law_numbers
  d_law_blown : Df K mg "_law_blown" s_law_blown ["machine", "numbers", "many"] t.a_law_blown t.f_law_blown
  d_law_led_to : Df K mg "_law_led_to" s_law_led_to ["begin", "nexts"] t.a_law_led_to t.f_law_led_to
  d_law_marked : Df K mg "_law_marked" s_law_marked ["rows"] t.a_law_marked t.f_law_marked
  d_alike_classes : Df K mg "alike_classes" s_alike_classes ["steps", "out"] t.a_alike_classes t.f_alike_classes
  d_law_names : Df K mg "_law_names" s_law_names ["cell", "many"] t.a_law_names t.f_law_names
  d_law_machine : Df K mg "_law_machine" s_law_machine ["cell", "rows", "names", "states", "truths"] t.a_law_machine t.f_law_machine
  d_law_apart : Df K mg "_law_apart" s_law_apart ["machine"] t.a_law_apart t.f_law_apart
  d_law_turned : Df K mg "_law_turned" s_law_turned ["machine", "cell"] t.a_law_turned t.f_law_turned
  d_machine_found : Df K mg "machine_found" s_machine_found ["names", "begin", "step_of"] t.a_machine_found t.f_machine_found
  d_least : Df K mg "least" s_least ["machine"] t.a_least t.f_least
  d_law : Df K mg "law" s_law ["script"] t.a_law t.f_law
  k_least : t.f_least.code = .ref t.c_least
  z_abs : mg "abs" = none
  z_bool : mg "bool" = none
  z_enumerate : mg "enumerate" = none
  z_isinstance : mg "isinstance" = none
  z_len : mg "len" = none
  z_list : mg "list" = none
  z_max : mg "max" = none
  z_range : mg "range" = none
  z_set : mg "set" = none
  z_sorted : mg "sorted" = none
  z_tuple : mg "tuple" = none
  z_zip : mg "zip" = none
set_option genInjectivity false in
set_option genSizeOfSpec false in
structure Tbs (mg : Str → Option Value) (base : Heap) (t : Adr) : Prop where
  c_least : PySem.W.CodeHd base t.c_least t.p_least
  B : BltAt mg base
theorem sc_state_number : FnScope ["state", "states", "numbers"] ["state", "states", "numbers"] (defScope s_state_number) := ⟨rfl, rfl, rfl, by decide +kernel, rfl, by decide +kernel, by decide +kernel⟩
theorem sc_numbered : FnScope ["marks", "numbers"] ["marks"] (defScope s_numbered) := ⟨rfl, rfl, rfl, by decide +kernel, rfl, by decide +kernel, by decide +kernel⟩
theorem sc_classes_of : FnScope ["states", "classes"] ["states", "classes"] (defScope s_classes_of) := ⟨rfl, rfl, rfl, by decide +kernel, rfl, by decide +kernel, by decide +kernel⟩
theorem sc_firsts_of : FnScope ["classes", "firsts", "state", "number"] ["classes"] (defScope s_firsts_of) := ⟨rfl, rfl, rfl, by decide +kernel, rfl, by decide +kernel, by decide +kernel⟩
theorem sc_law_cell_at : FnScope ["script", "k"] ["script", "k"] (defScope s_law_cell_at) := ⟨rfl, rfl, rfl, by decide +kernel, rfl, by decide +kernel, by decide +kernel⟩
theorem sc_law_numbers : FnScope ["cell", "many", "most", "found", "rest", "k", "one", "two"] ["cell", "many", "most"] (defScope s_law_numbers) := ⟨rfl, rfl, rfl, by decide +kernel, rfl, by decide +kernel, by decide +kernel⟩
theorem sc_law_blown : FnScope ["machine", "numbers", "many", "amount", "base", "order", "place", "k", "nexts", "out", "row", "letter", "fit", "at"] ["machine", "numbers", "many"] (defScope s_law_blown) := ⟨rfl, rfl, rfl, by decide +kernel, rfl, by decide +kernel, by decide +kernel⟩
theorem sc_law_led_to : FnScope ["begin", "nexts", "there", "seen", "k", "state"] ["begin", "nexts"] (defScope s_law_led_to) := ⟨rfl, rfl, rfl, by decide +kernel, rfl, by decide +kernel, by decide +kernel⟩
theorem sc_law_marked : FnScope ["rows", "numbers", "found", "row"] ["rows"] (defScope s_law_marked) := ⟨rfl, rfl, rfl, by decide +kernel, rfl, by decide +kernel, by decide +kernel⟩
theorem sc_alike_classes : FnScope ["steps", "out", "classes", "many"] ["steps", "out"] (defScope s_alike_classes) := ⟨rfl, rfl, rfl, by decide +kernel, rfl, by decide +kernel, by decide +kernel⟩
theorem sc_law_names : FnScope ["cell", "many", "xs", "menu", "some", "base", "at", "turn"] ["cell", "many"] (defScope s_law_names) := ⟨rfl, rfl, rfl, by decide +kernel, rfl, by decide +kernel, by decide +kernel⟩
theorem sc_law_machine : FnScope ["cell", "rows", "names", "states", "truths", "letters", "xs", "nexts", "out", "k", "some"] ["cell", "rows", "names", "states", "truths"] (defScope s_law_machine) := ⟨rfl, rfl, rfl, by decide +kernel, rfl, by decide +kernel, by decide +kernel⟩
theorem sc_law_apart : FnScope ["machine", "marks", "turn", "rows", "k"] ["machine"] (defScope s_law_apart) := ⟨rfl, rfl, rfl, by decide +kernel, rfl, by decide +kernel, by decide +kernel⟩
theorem sc_law_turned : FnScope ["machine", "cell", "there", "state", "letter", "row", "out"] ["machine", "cell"] (defScope s_law_turned) := ⟨rfl, rfl, rfl, by decide +kernel, rfl, by decide +kernel, by decide +kernel⟩
theorem sc_machine_found : FnScope ["names", "begin", "step_of", "states", "numbers", "steps", "out", "told"] ["names", "begin", "step_of"] (defScope s_machine_found) := ⟨rfl, rfl, rfl, by decide +kernel, rfl, by decide +kernel, by decide +kernel⟩
theorem sc_least : FnScope ["machine", "found", "steps", "out", "classes", "firsts", "least_steps", "least_out"] ["machine"] (defScope s_least) := ⟨rfl, rfl, rfl, by decide +kernel, rfl, by decide +kernel, by decide +kernel⟩
theorem sc_law : FnScope ["script", "shape", "names", "states", "truths", "machine", "many", "other", "found"] ["script"] (defScope s_law) := ⟨rfl, rfl, rfl, by decide +kernel, rfl, by decide +kernel, by decide +kernel⟩
section
variable {P : Program} {w : World} {K : PySem.W.Frag} {mg : Str → Option Value} {base : Heap} {t : Adr}
noncomputable def sp_state_number (K : PySem.W.Frag) : Sp := fun vs H Q _ => ∃ (s : Int) (st nd : Addr) (l : List Int), vs = [.int s, .ref st, .ref nd] ∧ H st = some (.lst (l.map V.int)) ∧ H nd = some (.dK (nk l)) ∧ l.Nodup ∧ l.length < 1000 ∧
  ∀ H', H' st = some (.lst ((ins1 l s).map V.int)) → H' nd = some (.dK (nk (ins1 l s))) → (∀ b o, H b = some o → b ≠ st → b ≠ nd → H' b = some o) → (∀ b, H b = none → H' b = none) → Q (.int ((ins1 l s).idxOf s : Int)) H'
theorem ok_state_number (T : Txt K w mg t) (TB : Tbs mg base t) : FnOk P w K mg base CX0 1 t.a_state_number t.f_state_number ["state", "states", "numbers"] (sp_state_number K) := by
  refine T.d_state_number.F.ok sc_state_number (fun vs H Q E h => ?_) (fun cdv A outer s H vs Q E hr h => ?_)
  · obtain ⟨s, st, nd, l, rfl, hst, hnd, hn, hl, k⟩ := h
    rfl
  · obtain ⟨s, st, nd, l, rfl, hst, hnd, hn, hl, k⟩ := h
    have hu := hu_of hr
    refine ⟨_, @QSs.out _ _ _ (qss_cons (qs_if (qt_cmpR (op_notIn_dict hu) (qv 0) (qv 2) (by with_unfolding_all rfl))
        (qss_cons (qs_dput hu (qv 2) (qv 0) (qe_callBF call_len_seq (by rfl) T.z_len bt_len (qa_c (qv 1) qa_nil)) rfl)
        (qss_one (qs_expr (qe_bmF PySem.F.plainAttrs_list PySem.F.slot_list_append PySem.F.type_list_append mt_append (qv 1) (qa_c (qv 0) qa_nil))))) qss_nil)
        (qss_one (qs_ret (qe_dget hu (qv 2) (qv 0) (fun _ _ => rfl))))), ?_⟩
    clear hu hr
    try dsimp only [L2.cxK, L2.cxK2]
    refine L2.let2 ?_
    intro U1
    have sn : st ≠ nd := ne_of hst hnd (fun z => nomatch z)
    refine ⟨_, rfl, _, rfl, nd, valV (nk l) (.inl s), rfl, .inl ⟨nk l, .inl s, .inl hnd, rfl, rfl⟩, _, rfl, ?_⟩
    by_cases hs : s ∈ l
    · have e1 : ins1 l s = l := if_pos hs
      rw [e1] at k
      rw [nk_val hs hn]
      refine iteF ⟨_, rfl, _, rfl, nd, _, rfl, .inl ⟨nk l, .inl s, .inl hnd, rfl, (nk_val hs hn).symm⟩, k H hst hnd (fun _ _ e _ _ => e) fun _ e => e⟩
    · have e1 : ins1 l s = l ++ [s] := if_neg hs
      rw [e1] at k
      have hn2 : (l ++ [s]).Nodup := e1 ▸ ins1_nodup hn s
      rw [nk_none hs]
      refine iteT ⟨_, rfl, st, _, rfl, .inl (SqL.of hst), _, rfl, _, rfl, nd, _, rfl, DPut.k (k := .inl s) hnd (by rw [nk_len]; exact small1000 (by omega)), ?_⟩
      rw [List.length_map, nk_put hs]
      have hst2 : upd H nd (.dK (nk (l ++ [s]))) st = some (.lst (l.map V.int)) := by rw [upd_ne sn]; exact hst
      refine ⟨_, rfl, .inl ⟨rfl, _, SqL.of hst2⟩, _, rfl, st, _, _, rfl, rfl, hst2, by rw [List.length_map]; exact small1000 (by omega), ?_⟩
      have hnd3 : upd (upd H nd (.dK (nk (l ++ [s])))) st (.lst (l.map V.int ++ [.int s])) nd = some (.dK (nk (l ++ [s]))) := by rw [upd_ne sn.symm]; exact upd_same
      refine ⟨_, rfl, _, rfl, nd, _, rfl, .inl ⟨_, .inl s, .inl hnd3, rfl, (nk_val (by simp) hn2).symm⟩, k _ ?_ hnd3 (fun b o e h1 h2 => ?_) fun b e => ?_⟩
      · rw [upd_same, List.map_append]
        rfl
      · rw [upd_ne h1, upd_ne h2]
        exact e
      · rw [upd_ne (fun z => by rw [z, hst] at e; cases e), upd_ne (fun z => by rw [z, hnd] at e; cases e)]
        exact e
noncomputable def sp_numbered (K : PySem.W.Frag) : Sp := fun vs H Q _ => ∃ (Kk : Type) (_ : DecidableEq Kk) (kn : KN Kk) (a : Addr) (as : List Addr) (ks : List Kk), vs = [.ref a] ∧ (H a = some (.lst (as.map V.ref)) ∨ H a = some (.tup (as.map V.ref))) ∧ as.length = ks.length ∧ (∀ (i : Nat) (b : Addr) (k : Kk), as[i]? = some b → ks[i]? = some k → kn.at_ H k b) ∧ ks.length ≤ 1000 ∧
  ∀ p H', H p = none → H' p = some (.lst ((ks.map fun k => ((seenL ks).idxOf k : Int)).map V.int)) → Same H H' → Q (.ref p) H'
theorem ok_numbered (T : Txt K w mg t) (TB : Tbs mg base t) : FnOk P w K mg base CX0 1 t.a_numbered t.f_numbered ["marks"] (sp_numbered K) := by
  refine T.d_numbered.F.ok sc_numbered (fun vs H Q E h => ?_) (fun cdv A outer s H vs Q E hr h => ?_)
  · obtain ⟨Kk, _, kn, a, as, ks, rfl, ha, hl, hat, hz, k⟩ := h
    rfl
  · obtain ⟨Kk, _, kn, a, as, ks, rfl, ha, hl, hat, hz, k⟩ := h
    have hu := hu_of hr
    refine ⟨_, @QSs.out _ _ _ (qss_cons (qs_set (i := 1) sc_numbered.nd rfl (Or.inr rfl) qe_dnew)
        (qss_one (qs_ret (qe_comp (⟨by rfl, by decide +kernel, by decide +kernel, by rfl, by decide +kernel, by decide +kernel, by rfl, by decide +kernel⟩ : CompSc (defScope s_numbered) _ ["marks", "numbers"] "mark" ["numbers"] [1]) (show QI _ _ _ (iSeqV K _) from qi_seqV (qv 0)) (fun _ _ _ _ => qf_nil) (fun _ _ _ _ => (qe_setN (hu2_of hr) (qv 1) (qa_c (qv 0) (qa_c (qe_callBF call_lenN (by rfl) T.z_len bt_len (qa_c (qv 1) qa_nil)) qa_nil)))))))), ?_⟩
    clear hu hr
    try dsimp only [L2.cxK, L2.cxK2]
    refine L2.let2 ?_
    intro U1
    refine fun d hd => ?_
    have hda : a ≠ d := by rcases ha with h | h <;> exact ne_of_none h hd
    have s1 := same_upd (o := .dK []) hd
    refine gName_go ?_
    have n0 : NumD kn (upd H d (.dK [])) d (numKV (seenL (ks.take 0))) := ⟨List.nodup_nil, (show 0 < sizeLine by decide), .inl ⟨rfl, upd_same⟩⟩
    have step : ∀ (i : Nat) (b : Addr) (kk : Kk) (H1 : Hp) (R : VK), as[i]? = some b → ks[i]? = some kk → NumD kn H1 d (numKV (seenL (ks.take i))) → (∀ b o, H b = some o → H1 b = some o) → (∀ H2, NumD kn H2 d (numKV (seenL (ks.take (i + 1)))) → (∀ b o, H b = some o → H2 b = some o) → R (V.int ((seenL ks).idxOf kk : Int)) H2) → tBMN (tVar 1) (tCons (tVar 0) (tCons (tCB rLenN (tCons (tVar 1) tNil)) tNil)) (selS [1] [some (.ref a), some (.ref d)] (some (.ref b))) H1 R := by
      intro i b kk H1 R hb hk n1 o1 hR
      have hi : i < ks.length := (List.getElem?_eq_some_iff.mp hk).1
      have e1 : seenL (ks.take (i + 1)) = ins1 (seenL (ks.take i)) kk := by rw [take_snoc hk, seenL_snoc]
      obtain ⟨r, er⟩ := seenL_take ks (i + 1)
      have hsl : (seenL (ks.take i)).length ≤ 1000 := by
        have := seen_len (ks.take i)
        rw [List.length_take] at this
        omega
      have at1 : kn.at_ H1 kk b := kn.keep _ _ _ _ (fun b xs e => o1 b _ e) (hat i b kk hb hk)
      refine ⟨_, rfl, ⟨Kk, _, kn, d, _, rfl, n1⟩, _, rfl, _, rfl, Kk, _, kn, d, _, rfl, n1, Kk, _, kn, d, b, kk, _, _, rfl, rfl, n1, at1, ?_, fun y hy => ?_, fun hn H' n' o' _ => ?_⟩
      · rw [numKV_len]
        exact small1000 (by have := seen_len (ks.take i); rw [List.length_take] at this; omega)
      · by_cases hm : kk ∈ seenL (ks.take i)
        · rw [numKV_val _ _ hm (seenL_nodup _)] at hy
          cases hy
          have e2 : seenL (ks.take (i + 1)) = seenL (ks.take i) := by rw [e1]; exact if_pos hm
          have := hR H1 (by rw [e2]; exact n1) o1
          rw [er, e2, idx_pre hm] at this
          exact this
        · rw [numKV_none _ _ hm] at hy
          cases hy
      · have hm : kk ∉ seenL (ks.take i) := fun z => by
          rw [numKV_val _ _ z (seenL_nodup _)] at hn
          cases hn
        have e2 : seenL (ks.take (i + 1)) = seenL (ks.take i) ++ [kk] := by rw [e1]; exact if_neg hm
        have := hR H' (by rw [e2, numKV_snoc]; rw [numKV_len] at n'; exact n') (fun c o e => o' c o (o1 c o e) (ne_of_none e hd))
        rw [er, e2, idx_pre (by simp), List.idxOf_append, if_neg hm, List.idxOf_cons_self, Nat.zero_add] at this
        rw [numKV_len]
        exact this
    have fin : ∀ (zs : List V) (H1 : Hp), zs = (ks.take as.length).map (fun k => V.int ((seenL ks).idxOf k : Int)) → (∀ b o, H b = some o → H1 b = some o) → ∀ p, H1 p = none → Q (.ref p) (upd H1 p (.lst zs)) := by
      intro zs H1 ez o1 p hp
      have s2 : Same H H1 := o1
      refine k p _ (s2.free hp) ?_ (s2.trans (same_upd hp))
      rw [upd_same, ez, hl, List.take_length, List.map_map]
      rfl
    have zl : ∀ i, ((ks.take i).map (fun k => V.int ((seenL ks).idxOf k : Int))).length ≤ sizeLine := fun i => by
      rw [List.length_map, List.length_take]
      exact Nat.le_of_lt (small1000 (by omega))
    have item : ∀ (i : Nat) (x : V), (as.map V.ref)[i]? = some x → ∃ b kk, x = .ref b ∧ as[i]? = some b ∧ ks[i]? = some kk := fun i x hx => by
      rw [List.getElem?_map] at hx
      obtain ⟨b, hb, rfl⟩ := Option.map_eq_some_iff.mp hx
      have hi := (List.getElem?_eq_some_iff.mp hb).1
      exact ⟨b, ks[i]'(by omega), rfl, hb, List.getElem?_eq_getElem (by omega)⟩
    rcases ha with ha | ha
    · refine ⟨a, rfl, .inl ⟨⟨_, SqL.of (s1 _ _ ha)⟩, comp_list (K := K) (a := a) (xs := as.map V.ref) (fun i zs H' => zs = (ks.take i).map (fun k => V.int ((seenL ks).idxOf k : Int)) ∧ NumD kn H' d (numKV (seenL (ks.take i))) ∧ ∀ b o, H b = some o → H' b = some o) ⟨rfl, n0, s1⟩ (fun i zs H' h => by rw [h.1]; exact zl i) (fun i zs H' h => SqL.of (h.2.2 _ _ ha)) (fun i x zs H1 R hR hx h => ?_) (fun zs H1 h => ?_)⟩⟩
      · obtain ⟨b, kk, rfl, hb, hk⟩ := item i x hx
        unfold tYes
        try dsimp only
        rw [if_pos rfl]
        refine step i b kk H1 _ hb hk h.2.1 h.2.2 fun H2 n2 o2 => hR _ _ ⟨?_, n2, o2⟩
        rw [h.1, take_snoc hk, List.map_append]
        rfl
      · rw [List.length_map] at h
        exact fin zs H1 h.1 h.2.2
    · refine ⟨a, rfl, .inr ⟨⟨_, SqT.of (s1 _ _ ha)⟩, comp_tup (K := K) (a := a) (xs := as.map V.ref) (fun i zs H' => zs = (ks.take i).map (fun k => V.int ((seenL ks).idxOf k : Int)) ∧ NumD kn H' d (numKV (seenL (ks.take i))) ∧ ∀ b o, H b = some o → H' b = some o) ⟨rfl, n0, s1⟩ (fun i zs H' h => by rw [h.1]; exact zl i) (fun i zs H' h => SqT.of (h.2.2 _ _ ha)) (fun i x zs H1 R hR hx h => ?_) (fun zs H1 h => ?_)⟩⟩
      · obtain ⟨b, kk, rfl, hb, hk⟩ := item i x hx
        unfold tYes
        try dsimp only
        rw [if_pos rfl]
        refine step i b kk H1 _ hb hk h.2.1 h.2.2 fun H2 n2 o2 => hR _ _ ⟨?_, n2, o2⟩
        rw [h.1, take_snoc hk, List.map_append]
        rfl
      · rw [List.length_map] at h
        exact fin zs H1 h.1 h.2.2
noncomputable def sp_classes_of (K : PySem.W.Frag) : Sp := fun vs H Q _ => ∃ (a b : Addr) (ss : List Nat) (cs : List Int), vs = [.ref a, .ref b] ∧ H a = some (.tup (ss.map fun s : Nat => V.int (s : Int))) ∧ H b = some (.lst (cs.map V.int)) ∧ (∀ s ∈ ss, s < cs.length) ∧ ss.length ≤ 1000 ∧ cs.length ≤ 1000 ∧
  ∀ p H', H p = none → H' p = some (.tup ((ss.map fun s => cs.getD s 0).map V.int)) → Same H H' → Q (.ref p) H'
theorem ok_classes_of (T : Txt K w mg t) (TB : Tbs mg base t) : FnOk P w K mg base CX0 1 t.a_classes_of t.f_classes_of ["states", "classes"] (sp_classes_of K) := by
  refine T.d_classes_of.F.ok sc_classes_of (fun vs H Q E h => ?_) (fun cdv A outer s H vs Q E hr h => ?_)
  · obtain ⟨a, b, ss, cs, rfl, ha, hb, hs, hl, hc, k⟩ := h
    rfl
  · obtain ⟨a, b, ss, cs, rfl, ha, hb, hs, hl, hc, k⟩ := h
    have hu := hu_of hr
    refine ⟨_, @QSs.out _ _ _ (qss_one (qs_ret (qe_callTF call_tuple_of (by rfl) T.z_tuple bt_tuple (qa_c (qe_comp (⟨by rfl, by decide +kernel, by decide +kernel, by rfl, by decide +kernel, by decide +kernel, by rfl, by decide +kernel⟩ : CompSc (defScope s_classes_of) _ ["states", "classes"] "state" ["classes"] [1]) (qi_tup (qv 0)) (fun _ _ _ _ => qf_nil) (fun _ _ _ _ => (qe_ix (show IxR _ (rIxL K) from ix_list) (qv 1) (qv 0) (fun _ _ => rfl)))) qa_nil)))), ?_⟩
    clear hu hr
    try dsimp only [L2.cxK, L2.cxK2]
    refine ⟨_, rfl, a, rfl, ⟨_, SqT.of ha⟩, comp_tmap (xs := ss.map fun s : Nat => V.int (s : Int)) (fI fun z => V.int (cs.getD z.toNat 0)) (SqT.of ha) (by rw [List.length_map]; exact Nat.le_of_lt (small1000 (by omega))) (fun v hv R hR => ?_) (fun l hl2 => ?_)⟩
    · obtain ⟨s, hs', rfl⟩ := List.mem_map.mp hv
      have hsl := hs s hs'
      exact ⟨_, rfl, _, rfl, b, _, _, _, rfl, rfl, SqL.of hb, atI_nat (by rw [List.getElem?_map, List.getElem?_eq_getElem hsl]; rfl), by
        have e : fI (fun z => V.int (cs.getD z.toNat 0)) (V.int (s : Int)) = V.int cs[s] := by
          show V.int (cs.getD (s : Int).toNat 0) = _
          rw [Int.toNat_natCast, List.getD_eq_getElem?_getD, List.getElem?_eq_getElem hsl]
          rfl
        rw [e] at hR
        exact hR⟩
    · refine ⟨l, _, rfl, .inl ⟨SqL.of upd_same, fun p hp => ?_⟩⟩
      have s2 := (same_upd (o := .lst ((ss.map fun s : Nat => V.int (s : Int)).map (fI fun z => V.int (cs.getD z.toNat 0)))) hl2)
      refine k p _ (s2.free hp) ?_ (s2.trans (same_upd hp))
      rw [upd_same, List.map_map, List.map_map]
      rfl
noncomputable def sp_firsts_of (K : PySem.W.Frag) : Sp := fun vs H Q _ => ∃ (a : Addr) (cs : List Int), vs = [.ref a] ∧ H a = some (.lst (cs.map V.int)) ∧ cs.length ≤ 1000 ∧
  ∀ p H', H p = none → H' p = some (.lst ((frstL cs 0 []).map fun i : Nat => V.int (i : Int))) → Same H H' → Q (.ref p) H'
theorem ok_firsts_of (T : Txt K w mg t) (TB : Tbs mg base t) : FnOk P w K mg base CX0 1 t.a_firsts_of t.f_firsts_of ["classes"] (sp_firsts_of K) := by
  refine T.d_firsts_of.F.ok sc_firsts_of (fun vs H Q E h => ?_) (fun cdv A outer s H vs Q E hr h => ?_)
  · obtain ⟨a, cs, rfl, ha, hl, k⟩ := h
    rfl
  · obtain ⟨a, cs, rfl, ha, hl, k⟩ := h
    have hu := hu_of hr
    refine ⟨_, @QSs.out _ _ _ (qss_cons (qs_set (i := 1) sc_firsts_of.nd rfl (Or.inl rfl) (qe_lst qa_nil))
        (qss_cons (qs_for PassesOwn.never rfl (qi_enumL rfl T.z_enumerate (qv 0)) (qg_pair rfl (qg_name (i := 2) sc_firsts_of.nd rfl (Or.inl rfl)) (qg_name (i := 3) sc_firsts_of.nd rfl (Or.inl rfl)))
        (qss_one (qs_if (qt_cmpR op_eq (qv 3) (qe_callBF call_len_seq (by rfl) T.z_len bt_len (qa_c (qv 1) qa_nil)) (nomark _))
        (qss_one (qs_expr (qe_bmF PySem.F.plainAttrs_list PySem.F.slot_list_append PySem.F.type_list_append mt_append (qv 1) (qa_c (qv 2) qa_nil)))) qss_nil)))
        (qss_one (qs_ret (qv 1))))), ?_⟩
    clear hu hr
    try dsimp only [L2.cxK, L2.cxK2]
    refine L2.let3 ?_
    intro U2 U1
    refine ⟨by show 0 ≤ sizeLine; decide, fun p hp => ?_⟩
    have s1 := same_upd (o := .lst []) hp
    refine gName_go ?_
    refine ⟨_, rfl, a, _, rfl, SqL.of (s1 _ _ ha), for_enumL (K := K) (a := a) (xs := cs.map V.int) (fun i σ H' => ∃ (acc : List Nat) (u2 u3 : Option V), σ = [some (.ref a), some (.ref p), u2, u3] ∧ H' p = some (.lst (acc.map fun i : Nat => V.int (i : Int))) ∧ frstL cs 0 [] = frstL (cs.drop i) i acc ∧ acc.length ≤ i ∧ i ≤ cs.length ∧ Same H H') ⟨[], none, none, rfl, upd_same, rfl, Nat.le_refl _, Nat.zero_le _, s1⟩ (fun i σ H' _ ⟨_, _, _, _, _, _, _, _, s⟩ => SqL.of (s _ _ ha)) ?_ ?_⟩
    · rintro i x σ H1 q hx hq hz_
      refine hideG fun Gz hGz => ?_
      obtain ⟨acc, u2, u3, rfl, hp1, hf, hal, hi, s2⟩ := hz_
      refine hGz ?_
      clear hGz Gz
      rw [List.getElem?_map] at hx
      obtain ⟨c, hc, rfl⟩ := Option.map_eq_some_iff.mp hx
      have hil : i < cs.length := (List.getElem?_eq_some_iff.mp hc).1
      have sq := same_upd (o := .tup [.int i, .int c]) hq
      have hp2 := sq _ _ hp1
      have hf2 : frstL cs 0 [] = frstL (cs.drop (i + 1)) (i + 1) (if c = (acc.length : Int) then acc ++ [i] else acc) := by
        rw [hf, List.drop_eq_getElem_cons hil, (List.getElem?_eq_some_iff.mp hc).2]
        rfl
      refine ⟨_, rfl, _, rfl, p, _, rfl, .inl (SqL.of hp2), rfl, _, rfl, ?_⟩
      rw [List.length_map]
      by_cases h : c = (acc.length : Int)
      · rw [if_pos h] at hf2
        rw [decide_eq_true (by rw [h])]
        refine iteT ⟨_, rfl, .inl ⟨rfl, _, SqL.of hp2⟩, _, rfl, p, _, _, rfl, rfl, hp2, by rw [List.length_map]; exact small1000 (by omega), acc ++ [i], _, _, rfl, ?_, hf2, by rw [List.length_append]; show _ + 1 ≤ _; omega, hil, same_put (s2.trans sq) hp⟩
        rw [upd_same, List.map_append]
        rfl
      · rw [if_neg h] at hf2
        rw [decide_eq_false (fun z => h (by injection z))]
        exact iteF ⟨acc, _, _, rfl, hp2, hf2, by omega, hil, s2.trans sq⟩
    · rintro σ H1 hz_
      refine hideG fun Gz hGz => ?_
      obtain ⟨acc, u2, u3, rfl, hp1, hf, hal, hi, s2⟩ := hz_
      refine hGz ?_
      clear hGz Gz
      rw [List.length_map, List.drop_length] at hf
      exact ⟨_, rfl, k p H1 hp (by rw [hp1, hf]; rfl) s2⟩
noncomputable def sp_law_cell_at (K : PySem.W.Frag) : Sp := fun vs H Q _ => ∃ (a : Addr) (ns : List Int) (j : Nat), vs = [.ref a, .int (j : Int)] ∧ SqL K H a (ns.map V.int) ∧ ∀ v : Int, Q (.int v) H
theorem ok_law_cell_at (T : Txt K w mg t) (TB : Tbs mg base t) : FnOk P w K mg base CX0 1 t.a_law_cell_at t.f_law_cell_at ["script", "k"] (sp_law_cell_at K) := by
  refine T.d_law_cell_at.F.ok sc_law_cell_at (fun vs H Q E h => ?_) (fun cdv A outer s H vs Q E hr h => ?_)
  · obtain ⟨a, ns, j, rfl, hS, k⟩ := h
    rfl
  · obtain ⟨a, ns, j, rfl, hS, k⟩ := h
    have hu := hu_of hr
    refine ⟨_, @QSs.out _ _ _ (qss_cons (qs_if (qt_cmpR op_lt (qv 1) (qe_callBF call_len_seq (by rfl) T.z_len bt_len (qa_c (qv 0) qa_nil)) (nomark _))
        (qss_one (qs_ret (qe_ix ix_list (qv 0) (qv 1) (fun _ _ => rfl)))) qss_nil)
        (qss_one (qs_ret qe_int))), ?_⟩
    clear hu hr
    try dsimp only [L2.cxK, L2.cxK2]
    refine L2.let2 ?_
    intro U1
    refine ⟨_, rfl, _, rfl, a, _, rfl, .inl hS, _, _, rfl, rfl, _, rfl, ite2 (fun h => ?_) (fun h => ?_)⟩
    · have hj : j < ns.length := by
        have := of_decide_eq_true h
        rw [List.length_map] at this
        omega
      exact ⟨_, rfl, _, rfl, a, _, _, _, rfl, rfl, hS, atI_nat (by rw [List.getElem?_map, List.getElem?_eq_getElem hj]; rfl), k _⟩
    · exact k 0
noncomputable def sp_law_numbers (K : PySem.W.Frag) : Sp := fun vs H Q _ => ∃ (cell : Int) (many most : Nat), vs = [.int cell, .int (many : Int), .int (most : Int)] ∧ many ≤ 1000 ∧ 1 ≤ most ∧ most ≤ 1000003 ∧ ∀ p (ns : List Int) H', H p = none → H' p = some (.lst (ns.map V.int)) → ns.length = many → (∀ x ∈ ns, 0 ≤ x ∧ x < (most : Int)) → Same H H' → Q (.ref p) H'
theorem ok_law_numbers (T : Txt K w mg t) (TB : Tbs mg base t) : FnOk P w K mg base CX0 1 t.a_law_numbers t.f_law_numbers ["cell", "many", "most"] (sp_law_numbers K) := by
  refine T.d_law_numbers.F.ok sc_law_numbers (fun vs H Q E h => ?_) (fun cdv A outer s H vs Q E hr h => ?_)
  · obtain ⟨cell, many, most, rfl, hmany, hm1, hm2, k⟩ := h
    rfl
  · obtain ⟨cell, many, most, rfl, hmany, hm1, hm2, k⟩ := h
    have hu := hu_of hr
    refine ⟨_, @QSs.out _ _ _ (qss_cons (qs_set (i := 3) sc_law_numbers.nd rfl (Or.inl rfl) (qe_lst qa_nil))
        (qss_cons (qs_set (i := 4) sc_law_numbers.nd rfl (Or.inl rfl) (qe_callBF call_abs (by rfl) T.z_abs bt_abs (qa_c (qv 0) qa_nil)))
        (qss_cons (qs_if (qt_cmpR op_ge (qv 4) (qe_op op_pow qe_int qe_int) (nomark _))
        (qss_cons (qs_set (i := 4) sc_law_numbers.nd rfl (Or.inl rfl) (qe_op op_sub (qv 4) (qe_op op_pow qe_int qe_int)))
        (qss_cons (qs_for PassesOwn.never rfl (qi_rangeF rfl T.z_range (qa_c (qv 1) qa_nil)) (qg_name (i := 5) sc_law_numbers.nd rfl (Or.inl rfl))
        (qss_cons (qs_expr (qe_bmF PySem.F.plainAttrs_list PySem.F.slot_list_append PySem.F.type_list_append mt_append (qv 3) (qa_c (qe_op op_mod (qv 4) (qv 2)) qa_nil)))
        (qss_one (qs_set (i := 4) sc_law_numbers.nd rfl (Or.inl rfl) (qe_op op_fdivB (qv 4) (qv 2))))))
        (qss_one (qs_ret (qv 3))))) qss_nil)
        (qss_cons (qs_set (i := 6) sc_law_numbers.nd rfl (Or.inl rfl) (qe_op op_mod (qe_op op_add (qe_op op_mulB (qv 0) qe_int) qe_int) qe_int))
        (qss_cons (qs_set (i := 7) sc_law_numbers.nd rfl (Or.inl rfl) (qe_op op_mod (qe_op op_add (qe_op op_mulB (qv 0) qe_int) qe_int) qe_int))
        (qss_cons (qs_for PassesOwn.never rfl (qi_rangeF rfl T.z_range (qa_c (qv 1) qa_nil)) (qg_name (i := 5) sc_law_numbers.nd rfl (Or.inl rfl))
        (qss_cons (qs_set (i := 6) sc_law_numbers.nd rfl (Or.inl rfl) (qe_op op_mod (qe_op op_add (qe_op op_add (qe_op op_mulB (qv 6) qe_int) (qv 7)) (qv 5)) qe_int))
        (qss_cons (qs_set (i := 7) sc_law_numbers.nd rfl (Or.inl rfl) (qe_op op_mod (qe_op op_add (qe_op op_mulB (qv 7) (qv 7)) (qv 6)) qe_int))
        (qss_one (qs_expr (qe_bmF PySem.F.plainAttrs_list PySem.F.slot_list_append PySem.F.type_list_append mt_append (qv 3) (qa_c (qe_op op_mod (qe_op op_fdivB (qe_op op_add (qv 6) (qv 7)) qe_int) (qv 2)) qa_nil)))))))
        (qss_one (qs_ret (qv 3))))))))), ?_⟩
    clear hu hr
    try dsimp only [L2.cxK, L2.cxK2]
    refine L2.let7 ?_
    intro U6 U5 U4 U3 U2 U1
    refine ⟨by show 0 ≤ sizeLine; decide, fun p hp => ?_⟩
    refine ⟨_, rfl, _, rfl, ?_⟩
    refine ⟨_, rfl, _, _, rfl, rfl, ⟨by decide, by decide, by decide⟩, _, _, rfl, rfl, _, rfl, ite2 (fun _ => ?_) (fun _ => ?_)⟩
    · refine ⟨_, rfl, _, _, rfl, rfl, ⟨by decide, by decide, by decide⟩, _, _, rfl, rfl, ?_⟩
      refine ⟨_, rfl, (many : Int), rfl, by omega, by omega, for_range (fun i σ H2 => ∃ (r : Int) (u : Option V) (ns : List Int), σ = [some (.int cell), some (.int many), some (.int most), some (.ref p), some (.int r), u, none, none] ∧ H2 p = some (.lst (ns.map V.int)) ∧ ns.length = i ∧ (∀ x ∈ ns, 0 ≤ x ∧ x < (most : Int)) ∧ Same H H2 ∧ i ≤ many) ⟨_, none, [], rfl, upd_same, rfl, (fun _ h => nomatch h), same_upd hp, Nat.zero_le _⟩ ?_ ?_⟩
      · rintro i σ H2 hi hz_
        refine hideG fun Gz hGz => ?_
        obtain ⟨r, u, ns, rfl, h2, hl, hb, s2, hi2⟩ := hz_
        refine hGz ?_
        clear hGz Gz
        rw [Int.toNat_natCast] at hi
        refine ⟨_, rfl, .inl ⟨rfl, _, SqL.of h2⟩, _, rfl, _, rfl, _, _, rfl, rfl, (by show (0 : Int) < most; omega), p, _, _, rfl, rfl, h2, ?_, ?_⟩
        · rw [List.length_map, hl]
          exact small1000 (by omega)
        · refine ⟨_, rfl, _, rfl, _, _, rfl, rfl, .of (by omega) (by omega), _, _, ns ++ [r % most], rfl, ?_, ?_, ?_, ?_, hi⟩
          · rw [upd_same, List.map_append]
            rfl
          · rw [List.length_append, hl]
            rfl
          · exact snoc_all hb ⟨Int.emod_nonneg _ (by omega), Int.emod_lt_of_pos _ (by omega)⟩
          · exact same_put s2 hp
      · rintro σ H2 hz_
        refine hideG fun Gz hGz => ?_
        obtain ⟨r, u, ns, rfl, h2, hl, hb, s2, hi2⟩ := hz_
        refine hGz ?_
        clear hGz Gz
        rw [Int.toNat_natCast] at hl
        exact ⟨_, rfl, k p ns H2 hp h2 hl hb s2⟩
    · refine ⟨_, rfl, _, _, rfl, rfl, .inr (.inr ⟨by decide, by decide⟩), _, _, rfl, rfl, _, _, rfl, rfl, (by show (0 : Int) < 2147483629; decide), ?_⟩
      refine ⟨_, rfl, _, _, rfl, rfl, .inr (.inr ⟨by decide, by decide⟩), _, _, rfl, rfl, _, _, rfl, rfl, (by show (0 : Int) < 1000000007; decide), ?_⟩
      refine ⟨_, rfl, (many : Int), rfl, by omega, by omega, for_range (fun i σ H2 => ∃ (r one two : Int) (u : Option V) (ns : List Int), σ = [some (.int cell), some (.int many), some (.int most), some (.ref p), some (.int r), u, some (.int one), some (.int two)] ∧ 0 ≤ one ∧ one < 2147483629 ∧ 0 ≤ two ∧ two < 1000000007 ∧ H2 p = some (.lst (ns.map V.int)) ∧ ns.length = i ∧ (∀ x ∈ ns, 0 ≤ x ∧ x < (most : Int)) ∧ Same H H2 ∧ i ≤ many) ⟨_, _, _, none, [], rfl, Int.emod_nonneg _ (by decide), Int.emod_lt_of_pos _ (by decide), Int.emod_nonneg _ (by decide), Int.emod_lt_of_pos _ (by decide), upd_same, rfl, (fun _ h => nomatch h), same_upd hp, Nat.zero_le _⟩ ?_ ?_⟩
      · rintro i σ H2 hi hz_
        refine hideG fun Gz hGz => ?_
        obtain ⟨r, one, two, u, ns, rfl, o0, o1, t0, t1, h2, hl, hb, s2, hi2⟩ := hz_
        refine hGz ?_
        clear hGz Gz
        rw [Int.toNat_natCast] at hi
        refine ⟨_, rfl, _, _, rfl, rfl, .inr (.inr ⟨by decide, by decide⟩), _, rfl, _, _, rfl, rfl, _, rfl, _, _, rfl, rfl, _, _, rfl, rfl, (by show (0 : Int) < 2147483629; decide), ?_⟩
        dsimp only
        generalize h1e : (one * 69069 + two + (0 + (i : Int))) % 2147483629 = one'
        have p0 : 0 ≤ one' := by omega
        have p1 : one' < 2147483629 := by omega
        refine ⟨_, rfl, _, rfl, _, _, rfl, rfl, .inr (.inl ⟨by omega, by omega⟩), _, rfl, _, _, rfl, rfl, _, _, rfl, rfl, (by show (0 : Int) < 1000000007; decide), ?_⟩
        dsimp only
        generalize h2e : (two * two + one') % 1000000007 = two'
        have q0 : 0 ≤ two' := by omega
        have q1 : two' < 1000000007 := by omega
        refine ⟨_, rfl, .inl ⟨rfl, _, SqL.of h2⟩, _, rfl, _, rfl, _, _, rfl, rfl, _, _, rfl, rfl, .of (by decide) (by decide), _, rfl, _, _, rfl, rfl, (by show (0 : Int) < most; omega), p, _, _, rfl, rfl, h2, ?_, ?_⟩
        · rw [List.length_map, hl]
          exact small1000 (by omega)
        · refine ⟨_, one', two', _, ns ++ [(one' + two') / 16 % most], rfl, p0, p1, q0, q1, ?_, ?_, ?_, ?_, hi⟩
          · rw [upd_same, List.map_append]
            rfl
          · rw [List.length_append, hl]
            rfl
          · exact snoc_all hb ⟨Int.emod_nonneg _ (by omega), Int.emod_lt_of_pos _ (by omega)⟩
          · exact same_put s2 hp
      · rintro σ H2 hz_
        refine hideG fun Gz hGz => ?_
        obtain ⟨r, one, two, u, ns, rfl, o0, o1, t0, t1, h2, hl, hb, s2, hi2⟩ := hz_
        refine hGz ?_
        clear hGz Gz
        rw [Int.toNat_natCast] at hl
        exact ⟨_, rfl, k p ns H2 hp h2 hl hb s2⟩
noncomputable def sp_law_blown (K : PySem.W.Frag) : Sp := fun vs H Q _ => ∃ (m pq : Addr) (nm : List Str) (b : Nat) (nx : List (List Nat)) (ot : List (List V)) (tr : Bool) (ns : List Int) (many : Nat), vs = [.ref m, .ref pq, .int (many : Int)] ∧ M4 H m nm b nx ot ∧ Wf nm b nx ot tr ∧ H pq = some (.lst (ns.map V.int)) ∧ ns.length = 3 * many ∧ nx.length ≤ many ∧ many ≤ 62 ∧
  ∀ m' b' nx' ot' H', M4 H' m' nm b' nx' ot' → Wf nm b' nx' ot' tr → nx'.length = many → (∃ A, Bis nx' nx ot' ot b' b A) → Same H H' → Q (.ref m') H'
theorem ok_law_blown (T : Txt K w mg t) (TB : Tbs mg base t) : FnOk P w K mg base CX0 1 t.a_law_blown t.f_law_blown ["machine", "numbers", "many"] (sp_law_blown K) := by
  refine T.d_law_blown.F.ok sc_law_blown (fun vs H Q E h => ?_) (fun cdv A outer s H vs Q E hr h => ?_)
  · obtain ⟨m, pq, nm, b, nx, ot, tr, ns, many, rfl, M, W, hq, hns, hle, h11, k⟩ := h
    rfl
  · obtain ⟨m, pq, nm, b, nx, ot, tr, ns, many, rfl, M, W, hq, hns, hle, h11, k⟩ := h
    have hu := hu_of hr
    refine ⟨_, @QSs.out _ _ _ (qss_cons (qs_set (i := 3) sc_law_blown.nd rfl (Or.inr rfl) (qe_callBF call_len_seq (by rfl) T.z_len bt_len (qa_c (qe_ix ix_tup (qv 0) qe_int (fun _ _ => rfl)) qa_nil)))
        (qss_cons (qs_set (i := 4) sc_law_blown.nd rfl (Or.inr rfl) (qe_comp (⟨by rfl, by decide +kernel, by decide +kernel, by rfl, by decide +kernel, by decide +kernel, by rfl, by decide +kernel⟩ : CompSc (defScope s_law_blown) _ ["machine", "numbers", "many", "amount", "base", "order", "place", "k", "nexts", "out", "row", "letter", "fit", "at"] "k" ["amount", "numbers"] [3, 1]) (qi_rangeF rfl T.z_range (qa_c (qv 2) qa_nil)) (fun _ _ _ _ => qf_nil) (fun _ _ _ _ => (qe_ifExp (qt_cmpR op_lt (qv 0) (qv 1) (nomark _)) (qv 0) (qe_op op_mod (qe_ix (show IxR _ (rIxL K) from ix_list) (qv 2) (qv 0) (fun _ _ => rfl)) (qv 1))))))
        (qss_cons (qs_setC2 (i := 5) sc_law_blown.nd rfl rfl (⟨by rfl, by decide +kernel, by decide +kernel, by rfl, by decide +kernel, by decide +kernel, by rfl, by decide +kernel⟩ : CompSc (defScope s_law_blown) _ ["machine", "numbers", "many", "amount", "base", "order", "place", "k", "nexts", "out", "row", "letter", "fit", "at"] "x" [] []) (⟨by rfl, by decide +kernel⟩ : Two _ "x" "k" []) (qi_list (qe_callBF call_sortedP (by rfl) T.z_sorted bt_sorted (qa_c (qe_comp (⟨by rfl, by decide +kernel, by decide +kernel, by rfl, by decide +kernel, by decide +kernel, by rfl, by decide +kernel⟩ : CompSc (defScope s_law_blown) _ ["machine", "numbers", "many", "amount", "base", "order", "place", "k", "nexts", "out", "row", "letter", "fit", "at"] "k" ["numbers", "many"] [1, 2]) (qi_rangeF rfl T.z_range (qa_c (qv 2) qa_nil)) (fun _ _ _ _ => qf_nil) (fun _ _ _ _ => (qe_tup (qa_c (qe_ix (show IxR _ (rIxL K) from ix_list) (qv 1) (qe_op op_add (qv 2) (qv 0)) (fun _ _ => rfl)) (qa_c (qv 0) qa_nil))))) qa_nil))) (fun _ _ _ _ => qf_nil) (fun _ _ _ _ => (qv 1)))
        (qss_cons (qs_set (i := 6) sc_law_blown.nd rfl (Or.inl rfl) qe_dnew)
        (qss_cons (qs_for PassesOwn.never rfl (qi_rangeF rfl T.z_range (qa_c (qv 2) qa_nil)) (qg_name (i := 7) sc_law_blown.nd rfl (Or.inr rfl))
        (qss_one (qs_dput hu (qv 6) (qe_ix ix_list (qv 5) (qv 7) (fun _ _ => rfl)) (qv 7) rfl)))
        (qss_cons (qs_set (i := 8) sc_law_blown.nd rfl (Or.inl rfl) (qe_lst qa_nil))
        (qss_cons (qs_set (i := 9) sc_law_blown.nd rfl (Or.inl rfl) (qe_lst qa_nil))
        (qss_cons (qs_for PassesOwn.never rfl (qi_list (qv 5)) (qg_name (i := 7) sc_law_blown.nd rfl (Or.inr rfl))
        (qss_cons (qs_set (i := 10) sc_law_blown.nd rfl (Or.inl rfl) (qe_lst qa_nil))
        (qss_cons (qs_for PassesOwn.never rfl (qi_rangeF rfl T.z_range (qa_c (qe_callBF call_len_seq (by rfl) T.z_len bt_len (qa_c (qe_ix ix_tup (qe_ix ix_tup (qv 0) qe_int (fun _ _ => rfl)) qe_int (fun _ _ => rfl)) qa_nil)) qa_nil)) (qg_name (i := 11) sc_law_blown.nd rfl (Or.inr rfl))
        (qss_cons (qs_setC (i := 12) sc_law_blown.nd rfl rfl (⟨by rfl, by decide +kernel, by decide +kernel, by rfl, by decide +kernel, by decide +kernel, by rfl, by decide +kernel⟩ : CompSc (defScope s_law_blown) _ ["machine", "numbers", "many", "amount", "base", "order", "place", "k", "nexts", "out", "row", "letter", "fit", "at"] "j" ["base", "letter", "machine", "k"] [4, 11, 0, 7]) (qi_rangeF rfl T.z_range (qa_c (qv 2) qa_nil)) (fun _ _ _ _ => (qf_one (qt_cmpR op_eq (qe_ix (show IxR _ (rIxL K) from ix_list) (qv 1) (qv 0) (fun _ _ => rfl)) (qe_ix (show IxR _ (rIxT K) from ix_tup) (qe_ix (show IxR _ (rIxT K) from ix_tup) (qe_ix (show IxR _ (rIxT K) from ix_tup) (qv 3) qe_int (fun _ _ => rfl)) (qe_ix (show IxR _ (rIxL K) from ix_list) (qv 1) (qv 4) (fun _ _ => rfl)) (fun _ _ => rfl)) (qv 2) (fun _ _ => rfl)) (nomark _)))) (fun _ _ _ _ => (qv 0)))
        (qss_cons (qs_set (i := 13) sc_law_blown.nd rfl (Or.inl rfl) (qe_op op_fdivB (qe_ix ix_list (qv 1) (qe_op op_add (qe_op op_mulB qe_int (qv 2)) (qv 7)) (fun _ _ => rfl)) (qe_op op_add (qv 11) qe_int)))
        (qss_one (qs_expr (qe_bmF PySem.F.plainAttrs_list PySem.F.slot_list_append PySem.F.type_list_append mt_append (qv 10) (qa_c (qe_dget hu (qv 6) (qe_ix ix_list (qv 12) (qe_op op_mod (qv 13) (qe_callBF call_len_seq (by rfl) T.z_len bt_len (qa_c (qv 12) qa_nil))) (fun _ _ => rfl)) (fun _ _ => rfl)) qa_nil)))))))
        (qss_cons (qs_expr (qe_bmF PySem.F.plainAttrs_list PySem.F.slot_list_append PySem.F.type_list_append mt_append (qv 8) (qa_c (qe_callTF call_tuple_of (by rfl) T.z_tuple bt_tuple (qa_c (qv 10) qa_nil)) qa_nil)))
        (qss_one (qs_expr (qe_bmF PySem.F.plainAttrs_list PySem.F.slot_list_append PySem.F.type_list_append mt_append (qv 9) (qa_c (qe_ix ix_tup (qe_ix ix_tup (qv 0) qe_int (fun _ _ => rfl)) (qe_ix ix_list (qv 4) (qv 7) (fun _ _ => rfl)) (fun _ _ => rfl)) qa_nil))))))))
        (qss_one (qs_ret (qe_tup (qa_c (qe_ix ix_tup (qv 0) qe_int (fun _ _ => rfl)) (qa_c (qe_dget hu (qv 6) (qe_ix ix_tup (qv 0) qe_int (fun _ _ => rfl)) (fun _ _ => rfl)) (qa_c (qe_callTF call_tuple_of (by rfl) T.z_tuple bt_tuple (qa_c (qv 8) qa_nil)) (qa_c (qe_callTF call_tuple_of (by rfl) T.z_tuple bt_tuple (qa_c (qv 9) qa_nil)) qa_nil))))))))))))))), ?_⟩
    clear hu
    try dsimp only [L2.cxK, L2.cxK2]
    refine L2.let9 ?_
    intro U8 U7 U6 U5 U4 U3 U2 U1
    refine hideG fun Gz hGz => ?_
    obtain ⟨pn, ps, po, hm, hnm, RS, RO⟩ := M.ex
    refine hGz ?_
    clear hGz Gz
    obtain ⟨as, has, las, _⟩ := id RS
    rw [List.length_map] at las
    have hb := W.b
    refine ⟨_, rfl, m, _, 2, _, rfl, rfl, SqT.of hm, rfl, ps, _, rfl, .inr (SqT.of has), ?_⟩
    rw [las]
    have hL8 := p8 W.n3
    have hns2 : (ns.map V.int).length = 3 * many := by rw [List.length_map]; exact hns
    refine ⟨_, rfl, (many : Int), rfl, by omega, by omega, comp_rmap (n := many) (fun i => natV (bsf ns nx.length i)) (Nat.le_of_lt (small1000 (by omega))) (fun i hi R hR => ?_) (fun pb hpb => ?_)⟩
    · refine ⟨_, rfl, _, rfl, _, _, rfl, rfl, _, rfl, ite2 (fun h => ⟨_, rfl, ?_⟩) (fun h => ⟨_, rfl, _, rfl, pq, _, _, .int (ns.getD i 0), rfl, rfl, SqL.of hq, ?_, _, rfl, _, _, rfl, rfl, (by show (0 : Int) < nx.length; omega), ?_⟩)⟩
      · have h := of_decide_eq_true h
        have e : bsf ns nx.length i = i := by
          unfold bsf
          rw [if_pos (by omega)]
        rw [Int.zero_add]
        rw [e] at hR
        exact hR
      · rw [Int.zero_add]
        exact atI_nat (ints_at (by omega))
      · have h : ¬ 0 + (i : Int) < nx.length := fun z => h (decide_eq_true z)
        have e : ((bsf ns nx.length i : Nat) : Int) = ns.getD i 0 % (nx.length : Int) := by
          unfold bsf
          rw [if_neg (by omega), Int.toNat_of_nonneg (Int.emod_nonneg _ (by omega))]
        have e2 : natV (bsf ns nx.length i) = .int (ns.getD i 0 % (nx.length : Int)) := congrArg V.int e
        rw [e2] at hR
        exact hR
    have s1 := same_upd (o := .lst ((List.range many).map fun i => natV (bsf ns nx.length i))) hpb
    have hb1 : (upd H pb (.lst ((List.range many).map fun i => natV (bsf ns nx.length i)))) pb = some (.lst ((List.range many).map fun i => natV (bsf ns nx.length i))) := upd_same
    generalize upd H pb (.lst ((List.range many).map fun i => natV (bsf ns nx.length i))) = H1 at *
    refine ⟨_, rfl, (many : Int), rfl, by omega, by omega, comp_range (n := many) (fun i zs H2 => ∃ as : List Addr, zs = as.map V.ref ∧ as.length = i ∧ i ≤ many ∧ (∀ (n : Nat) a, as[n]? = some a → ∃ x : Int, H2 a = some (.tup [.int x, .int (n : Int)])) ∧ Same H1 H2) ⟨[], rfl, rfl, Nat.zero_le _, (fun n a h => by cases h), Same.refl H1⟩ ?_ ?_ ?_⟩
    · rintro i zs H2 hz_
      refine hideG fun Gz hGz => ?_
      obtain ⟨as, rfl, l, l2, _⟩ := hz_
      refine hGz ?_
      clear hGz Gz
      rw [List.length_map]
      exact Nat.le_of_lt (small1000 (by omega))
    · rintro i zs H2 R hR hi hz_
      refine hideG fun Gz hGz => ?_
      obtain ⟨as, rfl, l, l2, hall, s2⟩ := hz_
      refine hGz ?_
      clear hGz Gz
      refine yesT ⟨_, rfl, _, rfl, _, rfl, _, _, rfl, rfl, pq, _, _, .int (ns.getD (many + i) 0), rfl, rfl, SqL.of (s2 _ _ (s1 _ _ hq)), ?_, _, rfl, by show 2 ≤ sizeLine; decide, fun a ha => hR _ _ ⟨as ++ [a], ?_, ?_, hi, fun n c hc => ?_, s2.trans (same_upd ha)⟩⟩
      · rw [show (many : Int) + (0 + (i : Int)) = ((many + i : Nat) : Int) by omega]
        exact atI_nat (ints_at (by omega))
      · rw [List.map_append]
        rfl
      · rw [List.length_append, l]
        rfl
      · by_cases e : n < as.length
        · rw [List.getElem?_append_left e] at hc
          obtain ⟨x, hx⟩ := hall n c hc
          exact ⟨x, same_upd ha _ _ hx⟩
        · rw [List.getElem?_append_right (by omega)] at hc
          have e0 : n - as.length = 0 := by
            have := (List.getElem?_eq_some_iff.mp hc).1
            simp only [List.length_cons, List.length_nil] at this
            omega
          rw [e0] at hc
          cases hc
          have en : n = i := by omega
          subst en
          exact ⟨_, by rw [upd_same, Int.zero_add]⟩
    rintro zs H2 hz_ l0 hl0
    refine hideG fun Gz hGz => ?_
    obtain ⟨as2, rfl, l2, _, hall2, s2⟩ := hz_
    refine hGz ?_
    clear hGz Gz
    have s3 := same_upd (o := .lst (as2.map V.ref)) hl0
    have hl3 : (upd H2 l0 (.lst (as2.map V.ref))) l0 = some (.lst (as2.map V.ref)) := upd_same
    have hall3 : ∀ (n : Nat) a, as2[n]? = some a → ∃ x : Int, (upd H2 l0 (.lst (as2.map V.ref))) a = some (.tup [.int x, .int (n : Int)]) := fun n a h => let ⟨x, hx⟩ := hall2 n a h; ⟨x, s3 _ _ hx⟩
    have s13 := s1.trans (s2.trans s3)
    have s23 := s2.trans s3
    generalize upd H2 l0 (.lst (as2.map V.ref)) = H3 at *
    have hmem3 : ∀ a ∈ as2, ∃ x y : Int, H3 a = some (.tup [.int x, .int y]) := fun a ha => by
      obtain ⟨n, hn⟩ := List.mem_iff_getElem?.mp ha
      obtain ⟨x, hx⟩ := hall3 n a hn
      exact ⟨x, _, hx⟩
    refine ⟨l0, as2, rfl, hl3, hmem3, by omega, fun l4 bs hl4 perm => ?_⟩
    have s4 := same_upd (o := .lst (bs.map V.ref)) hl4
    have hl4' : (upd H3 l4 (.lst (bs.map V.ref))) l4 = some (.lst (bs.map V.ref)) := upd_same
    have hmem4 : ∀ a ∈ as2, ∃ x y : Int, (upd H3 l4 (.lst (bs.map V.ref))) a = some (.tup [.int x, .int y]) := fun a ha => let ⟨x, y, h⟩ := hmem3 a ha; ⟨x, y, s4 _ _ h⟩
    have hsnd : as2.map (sndOf (upd H3 l4 (.lst (bs.map V.ref)))) = (List.range many).map fun (n : Nat) => (n : Int) := by
      refine List.ext_getElem? fun n => ?_
      rw [List.getElem?_map, List.getElem?_map]
      by_cases hn : n < many
      · rw [List.getElem?_range hn, List.getElem?_eq_getElem (by omega)]
        obtain ⟨x, hx⟩ := hall3 n _ (List.getElem?_eq_getElem (by omega))
        exact congrArg some (sndOf_eq (s4 _ _ hx))
      · rw [List.getElem?_eq_none (by omega), List.getElem?_eq_none (by rw [List.length_range]; omega)]
        rfl
    have s14 := s13.trans s4
    have s1_4 := s23.trans s4
    generalize upd H3 l4 (.lst (bs.map V.ref)) = H4 at *
    refine ⟨l4, rfl, ⟨_, SqL.of hl4'⟩, comp2_list (xs := bs.map V.ref) (fun i zs H5 => H5 = H4 ∧ i ≤ bs.length ∧ zs = ((bs.take i).map (sndOf H4)).map V.int) ⟨rfl, Nat.zero_le _, rfl⟩ ?_ ?_ ?_ ?_⟩
    · rintro i zs H5 hz_
      refine hideG fun Gz hGz => ?_
      obtain ⟨_, hi, rfl⟩ := hz_
      refine hGz ?_
      clear hGz Gz
      rw [List.length_map, List.length_map, List.length_take, perm.length_eq]
      exact Nat.le_of_lt (small1000 (by omega))
    · rintro i zs H5 hz_
      refine hideG fun Gz hGz => ?_
      obtain ⟨rfl, _, _⟩ := hz_
      refine hGz ?_
      clear hGz Gz
      exact SqL.of hl4'
    · rintro i v zs H5 R hR hv hz_
      refine hideG fun Gz hGz => ?_
      obtain ⟨rfl, hi, rfl⟩ := hz_
      refine hGz ?_
      clear hGz Gz
      rw [List.getElem?_map] at hv
      obtain ⟨a, ha, rfl⟩ := Option.map_eq_some_iff.mp hv
      obtain ⟨x, y, hxy⟩ := hmem4 a (perm.mem_iff.mp (List.mem_of_getElem? ha))
      refine ⟨a, _, _, rfl, SqT.of hxy, yesT ⟨_, rfl, hR _ _ ⟨rfl, (List.getElem?_eq_some_iff.mp ha).1, ?_⟩⟩⟩
      rw [take_snoc ha, List.map_append, List.map_append, List.map_cons, List.map_nil, sndOf_eq hxy]
      rfl
    rintro zs H5 hz_ lo hlo
    refine hideG fun Gz hGz => ?_
    obtain ⟨rfl, _, rfl⟩ := hz_
    refine hGz ?_
    clear hGz Gz
    rw [List.length_map, List.take_length]
    obtain ⟨ord, eord, pord⟩ := ord_of (zs := bs.map (sndOf H5)) (many := many) (by rw [← hsnd]; exact perm.map _)
    rw [eord]
    have ol : ord.length = many := by rw [pord.length_eq, List.length_range]
    have omem : ∀ o ∈ ord, o < many := fun o h => List.mem_range.mp (pord.mem_iff.mp h)
    have s5 := same_upd (o := .lst (ord.map natV)) hlo
    have hlo5 : (upd H5 lo (.lst (ord.map natV))) lo = some (.lst (ord.map natV)) := upd_same
    have hb5 := (s1_4.trans s5) _ _ hb1
    have s05 := s14.trans s5
    generalize upd H5 lo (.lst (ord.map natV)) = H6 at *
    clear hmem3 hmem4 hall2 hall3 hsnd eord s4 s3 s2 hl3 hl4 hl4' hl0 s13 s23 s14 s1_4 s5 hlo
    refine fun d hd => ?_
    have s6 := same_upd (o := .dK []) hd
    have hbs : ∀ j, j < many → ((List.range many).map fun i => natV (bsf ns nx.length i))[j]? = some (.int (bsf ns nx.length j : Nat)) := fun j hj => range_at (f := fun i => natV (bsf ns nx.length i)) hj
    have bpos : 0 < nx.length := by omega
    refine ⟨_, rfl, (many : Int), rfl, by omega, by omega, for_range (n := many) (fun i σ H7 => ∃ uk kvs, σ = [some (.ref m), some (.ref pq), some (.int many), some (.int nx.length), some (.ref pb), some (.ref lo), some (.ref d), uk, none, none, none, none, none, none] ∧ H7 d = some (.dK kvs) ∧ kvs.length ≤ i ∧ i ≤ many ∧ (∀ (n o : Nat), n < i → ord[n]? = some o → ∃ q : Nat, q < many ∧ ord[q]? = some o ∧ valV kvs (.inl (o : Int)) = some (.int (q : Int))) ∧ Same H6 H7) ⟨none, [], rfl, upd_same, Nat.le_refl _, Nat.zero_le _, (fun n o h => absurd h (Nat.not_lt_zero _)), s6⟩ ?_ ?_⟩
    · rintro i σ H7 hi hz_
      refine hideG fun Gz hGz => ?_
      obtain ⟨uk, kvs, rfl, hd7, kl, _, hall, s7⟩ := hz_
      refine hGz ?_
      clear hGz Gz
      have hoi : ord[i]? = some ord[i] := List.getElem?_eq_getElem (by omega)
      refine ⟨_, rfl, _, rfl, _, rfl, _, rfl, lo, _, _, .int (ord[i] : Nat), rfl, rfl, SqL.of (s7 _ _ hlo5), ?_, d, _, rfl, dput_int hd7 (small1000 (by omega)), _, _, rfl, upd_same, ?_, hi, fun n o hn ho => ?_, same_put s7 hd⟩
      · rw [Int.zero_add]
        exact atI_nat (nat_get hoi)
      · exact Nat.le_trans (length_putK _ _ _) (by omega)
      · rw [valV_put]
        by_cases e : (Sum.inl (o : Int) : Key) = .inl ((ord[i] : Nat) : Int)
        · rw [if_pos e]
          exact ⟨i, hi, by have e2 : o = ord[i] := Int.ofNat.inj (Sum.inl.inj e); rw [e2]; exact hoi, by rw [Int.zero_add]⟩
        · rw [if_neg e]
          refine hall n o ?_ ho
          by_cases en : n = i
          · subst en
            rw [hoi] at ho
            exact absurd (by rw [Option.some.inj ho]) e
          · omega
    rintro σ H7 hz_
    refine hideG fun Gz hGz => ?_
    obtain ⟨uk, kvs, rfl, hd7, kl, _, hall, s7⟩ := hz_
    refine hGz ?_
    clear hGz Gz
    have plc : ∀ o : Nat, o < many → ∃ q : Nat, q < many ∧ ord[q]? = some o ∧ valV kvs (.inl (o : Int)) = some (.int (q : Int)) := fun o ho => by
      obtain ⟨n, hn⟩ := List.mem_iff_getElem?.mp (pord.mem_iff.mpr (List.mem_range.mpr ho))
      exact hall n o (by have := (List.getElem?_eq_some_iff.mp hn).1; omega) hn
    have s07 := s05.trans s7
    have hb7 := s7 _ _ hb5
    have hlo7 := s7 _ _ hlo5
    clear hall s7 s6
    refine ⟨by show 0 ≤ sizeLine; decide, fun pnx hpnx => ⟨by show 0 ≤ sizeLine; decide, fun pou hpou => ?_⟩⟩
    have v1 := same_upd (o := .lst []) hpnx
    have v2 := same_upd (o := .lst []) hpou
    have hne : pnx ≠ pou := ne_of_none (upd_same (H := H7) (a := pnx) (o := .lst [])) hpou
    have hpou7 : H7 pou = none := v1.free hpou
    refine ⟨_, rfl, lo, rfl, ⟨_, SqL.of ((v1.trans v2) _ _ hlo7)⟩, for_list (K := K) (a := lo) (xs := ord.map natV) (fun i σ H8 => ∃ uk ur ul uf ua nxs ots, σ = [some (.ref m), some (.ref pq), some (.int many), some (.int nx.length), some (.ref pb), some (.ref lo), some (.ref d), uk, some (.ref pnx), some (.ref pou), ur, ul, uf, ua] ∧ RowsL H8 pnx (nxs.map nrow) ∧ RowsL H8 pou ots ∧ nxs.length = i ∧ ots.length = i ∧ i ≤ many ∧ (∀ r ∈ nxs, r.length = 2 ^ nm.length ∧ ∀ s ∈ r, s < many) ∧ (∀ r ∈ ots, r ∈ ot) ∧ (∀ (n o : Nat), n < i → ord[n]? = some o → ots.getD n [] = ot.getD (bsf ns nx.length o) [] ∧ ∀ p s t : Nat, (nxs.getD n [])[p]? = some s → (nx.getD (bsf ns nx.length o) [])[p]? = some t → ∃ o', ord[s]? = some o' ∧ bsf ns nx.length o' = t) ∧ Same H7 H8) ⟨uk, none, none, none, none, [], [], rfl, RowsL.nil (v2 _ _ upd_same), RowsL.nil upd_same, rfl, rfl, Nat.zero_le _, (fun r h => by cases h), (fun r h => by cases h), (fun n o h => absurd h (Nat.not_lt_zero _)), v1.trans v2⟩ (fun i σ H8 _ ⟨_, _, _, _, _, _, _, _, _, _, _, _, _, _, _, _, s8⟩ => SqL.of (s8 _ _ hlo7)) ?_ ?_⟩
    · rintro i v σ H8 hv hz_
      refine hideG fun Gz hGz => ?_
      obtain ⟨uk, ur, ul, uf, ua, nxs, ots, rfl, RN, RO8, ln, lo8, li, hnx, hot, hrel, s8⟩ := hz_
      refine hGz ?_
      clear hGz Gz
      obtain ⟨o, rfl, ho⟩ := nats_item hv
      have hi : i < many := by have := (List.getElem?_eq_some_iff.mp ho).1; omega
      have om := omem o (List.mem_of_getElem? ho)
      have bo := bsf_lt (ns := ns) (i := o) bpos
      refine ⟨by show 0 ≤ sizeLine; decide, fun pr hpr => ?_⟩
      have w1 := same_upd (o := .lst []) hpr
      have s81 := s8.trans w1
      have M8 := M.same (s07.trans s81)
      refine hideG fun Gz hGz => ?_
      obtain ⟨_, ps', po', hm', _, RS', RO'⟩ := M8.ex
      refine hGz ?_
      clear hGz Gz
      refine hideG fun Gz hGz => ?_
      obtain ⟨cs0, a0, z1, z2, z3⟩ := rowE_at RS' (i := 0) (by rw [List.length_map]; exact bpos)
      refine hGz ?_
      clear hGz Gz
      rw [nrow_getD] at z3
      have hL0 : (nrow (nx.getD 0 [])).length = 2 ^ nm.length := by rw [nrow_len]; exact W.nr _ (getD_mem bpos)
      refine hideG fun Gz hGz => ?_
      obtain ⟨cs3, a3, p1, p2, p3⟩ := rowE_at RS' (i := bsf ns nx.length o) (by rw [List.length_map]; exact bo)
      refine hGz ?_
      clear hGz Gz
      rw [nrow_getD] at p3
      have hL3 : (nx.getD (bsf ns nx.length o) []).length = 2 ^ nm.length := W.nr _ (getD_mem bo)
      have hnl3 := W.nl _ (getD_mem bo)
      generalize hrw3 : nx.getD (bsf ns nx.length o) [] = rw3 at *
      have hb8 := s81 _ _ hb7
      have hq8 := (s07.trans s81) _ _ hq
      have hd8 := s81 _ _ hd7
      have hr8 : (upd H8 pr (.lst [])) pr = some (.lst []) := upd_same
      have RN1 := RN.same w1
      have RO1 := RO8.same w1
      have pnr : ∀ {q : Addr} {xs : List V}, H8 q = some (.lst xs) → q ≠ pr := fun h e => by rw [e, hpr] at h; cases h
      have pnx_r : pnx ≠ pr := pnr RN.choose_spec.1
      have pou_r : pou ≠ pr := pnr RO8.choose_spec.1
      generalize upd H8 pr (.lst []) = H9 at *
      refine ⟨_, rfl, m, _, 2, _, rfl, rfl, SqT.of hm', rfl, ps', _, 0, _, rfl, rfl, SqT.of z1, z2, a0, _, rfl, .inr (SqT.of z3), _, rfl, by omega, by omega, ?_⟩
      rw [hL0]
      refine for_range (n := 2 ^ nm.length) (fun n σ H10 => ∃ ul uf ua rr, σ = [some (.ref m), some (.ref pq), some (.int many), some (.int nx.length), some (.ref pb), some (.ref lo), some (.ref d), some (.int o), some (.ref pnx), some (.ref pou), some (.ref pr), ul, uf, ua] ∧ H10 pr = some (.lst (nrow rr)) ∧ rr.length = n ∧ n ≤ 2 ^ nm.length ∧ (∀ s ∈ rr, s < many) ∧ (∀ p s t : Nat, rr[p]? = some s → rw3[p]? = some t → ∃ o', ord[s]? = some o' ∧ bsf ns nx.length o' = t) ∧ SameBut1 pr H9 H10) ⟨ul, uf, ua, [], rfl, hr8, rfl, Nat.zero_le _, (fun s h => by cases h), (fun p s t h => by cases h), SameBut1.refl⟩ ?_ ?_
      · rintro n σ H10 hn hz_
        refine hideG fun Gz hGz => ?_
        obtain ⟨ul, uf, ua, rr, rfl, hr10, lr, _, hrr, hrl, s10⟩ := hz_
        refine hGz ?_
        clear hGz Gz
        have g : ∀ {q : Addr} {u : HO}, H9 q = some u → u ≠ .lst [] ∨ q ≠ pr → H10 q = some u := fun h1 h2 => s10.get h1 (h2.elim (fun h e => by rw [e, hr8] at h1; exact h (Option.some.inj h1).symm) id)
        obtain ⟨t, ht⟩ : ∃ t, rw3[n]? = some t := ⟨rw3[n], List.getElem?_eq_getElem (by omega)⟩
        have tl := hnl3 t (List.mem_of_getElem? ht)
        have hb10 : H10 pb = some (.lst ((List.range many).map fun i => natV (bsf ns nx.length i))) := g hb8 (.inr (pnr (s8 _ _ hb7)))
        have hq10 := g hq8 (.inr (pnr ((s07.trans s8) _ _ hq)))
        have hm10 := g hm' (.inl (fun z => nomatch z))
        have p110 := g p1 (.inl (fun z => nomatch z))
        have p310 := g p3 (.inl (fun z => nomatch z))
        have hd10 := g hd8 (.inl (fun z => nomatch z))
        have hbn : ∀ j, j < many → atI ((List.range many).map fun i => natV (bsf ns nx.length i)) (j : Int) = some (.int (bsf ns nx.length j : Nat)) := fun j hj => atI_nat (hbs j hj)
        refine ⟨_, rfl, (many : Int), rfl, by omega, by omega, comp_range (n := many) (fun i zs H11 => H11 = H10 ∧ i ≤ many ∧ zs = ((List.range i).filter fun j => decide (bsf ns nx.length j = t)).map natV) ⟨rfl, Nat.zero_le _, rfl⟩ ?_ ?_ ?_⟩
        · rintro i zs H11 hz_
          refine hideG fun Gz hGz => ?_
          obtain ⟨_, hi', rfl⟩ := hz_
          refine hGz ?_
          clear hGz Gz
          rw [List.length_map]
          refine Nat.le_of_lt (small1000 ?_)
          have := List.length_filter_le (fun j => decide (bsf ns nx.length j = t)) (List.range i)
          rw [List.length_range] at this
          omega
        · rintro j zs H11 R hR hj hz_
          refine hideG fun Gz hGz => ?_
          obtain ⟨rfl, _, rfl⟩ := hz_
          refine hGz ?_
          clear hGz Gz
          refine ⟨_, rfl, _, rfl, pb, _, _, .int (bsf ns nx.length j : Nat), rfl, rfl, SqL.of hb10, by rw [Int.zero_add]; exact hbn j hj, _, rfl, m, _, 2, _, rfl, rfl, SqT.of hm10, rfl, _, rfl, _, rfl, pb, _, _, .int (bsf ns nx.length o : Nat), rfl, rfl, SqL.of hb10, hbn o om, ps', _, _, _, rfl, rfl, SqT.of p110, p2, _, rfl, a3, _, _, .int (t : Nat), rfl, rfl, SqT.of p310, by rw [Int.zero_add]; exact atI_nat (nrow_get ht), rfl, _, rfl, ?_⟩
          rw [dec_natV]
          by_cases e : bsf ns nx.length j = t
          · rw [decide_eq_true e]
            refine iteT ⟨_, rfl, hR _ _ ⟨rfl, hj, ?_⟩⟩
            rw [List.range_succ, List.filter_append, List.map_append, Int.zero_add]
            simp [e]
          · rw [decide_eq_false e]
            refine iteF (hR _ _ ⟨rfl, hj, ?_⟩)
            rw [List.range_succ, List.filter_append, List.map_append]
            simp [e]
        · rintro zs H11 hz_ pf hpf
          refine hideG fun Gz hGz => ?_
          obtain ⟨rfl, _, rfl⟩ := hz_
          refine hGz ?_
          clear hGz Gz
          have hF : ∀ f ∈ (List.range many).filter fun j => decide (bsf ns nx.length j = t), f < many ∧ bsf ns nx.length f = t := fun f hf => ⟨List.mem_range.mp (List.mem_filter.mp hf).1, of_decide_eq_true (List.mem_filter.mp hf).2⟩
          have tF : t ∈ (List.range many).filter fun j => decide (bsf ns nx.length j = t) := by
            refine List.mem_filter.mpr ⟨List.mem_range.mpr (by omega), ?_⟩
            unfold bsf
            rw [if_pos tl]
            simp
          generalize (List.range many).filter (fun j => decide (bsf ns nx.length j = t)) = F at *
          have Fpos : 0 < F.length := List.length_pos_of_mem tF
          have x1 := same_upd (o := .lst (F.map natV)) hpf
          refine ⟨_, rfl, _, rfl, _, _, rfl, rfl, .inr (.inl ⟨by decide, by decide⟩), _, rfl, _, _, rfl, rfl, pq, _, _, .int (ns.getD (2 * many + o) 0), rfl, rfl, SqL.of (x1 _ _ hq10), ?_, _, rfl, _, _, rfl, rfl, _, _, rfl, rfl, .of (by omega) ?_, ?_⟩
          · rw [show (2 : Int) * (many : Int) + (o : Int) = ((2 * many + o : Nat) : Int) by omega]
            exact atI_nat (ints_at (by omega))
          · have : n < 8 := by omega
            have h250 : (8 : Int) + 1 < 2 ^ 250 := by decide
            omega
          dsimp only
          generalize ns.getD (2 * many + o) 0 / (0 + (n : Int) + 1) = av at *
          have m0 : 0 ≤ av % (F.length : Int) := Int.emod_nonneg _ (by omega)
          have m1 : av % (F.length : Int) < F.length := Int.emod_lt_of_pos _ (by omega)
          obtain ⟨j, hj⟩ : ∃ j : Nat, av % (F.length : Int) = (j : Int) := ⟨(av % (F.length : Int)).toNat, by omega⟩
          have jl : j < F.length := by omega
          obtain ⟨q, hql, hqo, hqv⟩ := plc F[j] (hF _ (List.getElem_mem jl)).1
          refine ⟨_, rfl, .inl ⟨rfl, _, SqL.of (x1 _ _ hr10)⟩, _, rfl, _, rfl, _, rfl, _, rfl, pf, _, rfl, .inl (SqL.of upd_same), _, _, rfl, rfl, (by show (0 : Int) < ((F.map natV).length : Int); rw [List.length_map]; omega), pf, _, _, .int (F[j] : Nat), rfl, rfl, SqL.of upd_same, ?_, d, _, rfl, dget_int (x1 _ _ hd10) hqv, pr, _, _, rfl, rfl, x1 _ _ hr10, ?_, _, _, _, rr ++ [q], rfl, ?_, ?_, hn, ?_, ?_, (s10.same x1).put⟩
          · rw [List.length_map, hj]
            exact atI_nat (nat_get (List.getElem?_eq_getElem jl))
          · rw [nrow_len]
            exact small1000 (by omega)
          · rw [upd_same]
            unfold nrow
            rw [List.map_append]
            rfl
          · rw [List.length_append, lr]
            rfl
          · intro s hs
            rcases List.mem_append.mp hs with hs | hs
            · exact hrr s hs
            · have : s = q := by simpa using hs
              rw [this]; exact hql
          · intro p' s' t' hs' ht'
            rw [List.getElem?_append] at hs'
            split at hs'
            · exact hrl p' s' t' hs' ht'
            · have h0 : p' = n := by
                have := (List.getElem?_eq_some_iff.mp hs').1
                rw [List.length_singleton] at this
                omega
              subst h0
              rw [lr, Nat.sub_self] at hs'
              cases hs'
              rw [ht] at ht'
              cases ht'
              exact ⟨_, hqo, (hF _ (List.getElem_mem jl)).2⟩
      · rintro σ H10 hz_
        refine hideG fun Gz hGz => ?_
        obtain ⟨ul, uf, ua, rr, rfl, hr10, lr, _, hrr, hrl, s10⟩ := hz_
        refine hGz ?_
        clear hGz Gz
        have s810 : Same H8 H10 := fun a o h => s10 a o (fun e => by rw [e, hpr] at h; cases h) (w1 a o h)
        obtain ⟨asn, n1, n2, n3⟩ := RN.same s810
        have ll : asn.length = i := by rw [n2, List.length_map, ln]
        refine ⟨_, rfl, .inl ⟨rfl, _, SqL.of n1⟩, _, rfl, pr, _, rfl, .inl ⟨SqL.of hr10, fun l3 hl3 => ?_⟩⟩
        have y1 := same_upd (o := .tup (nrow rr)) hl3
        refine ⟨pnx, _, _, rfl, rfl, y1 _ _ n1, small1000 (by omega), ?_⟩
        have RN11 := RowsL.more (y1 _ _ n1) n2 (fun i r hr => let ⟨a, g1, g2⟩ := n3 i r hr; ⟨a, g1, y1 _ _ g2⟩) (upd_same (H := H10) (a := l3) (o := .tup (nrow rr)))
        have RO11 := ((RO8.same s810).same y1).other (o := .lst (asn ++ [.ref l3])) (y1 _ _ n1) hne.symm
        have s711 : Same H7 (upd (upd H10 l3 (.tup (nrow rr))) pnx (.lst (asn ++ [.ref l3]))) := same_put ((s8.trans s810).trans y1) hpnx
        generalize upd (upd H10 l3 (.tup (nrow rr))) pnx (.lst (asn ++ [.ref l3])) = H11 at *
        obtain ⟨aso, o1, o2, o3⟩ := RO11
        have ll2 : aso.length = i := by rw [o2, lo8]
        refine hideG fun Gz hGz => ?_
        obtain ⟨_, ps11, po11, hm11, _, _, RO11'⟩ := (M.same (s07.trans s711)).ex
        refine hGz ?_
        clear hGz Gz
        have bo' : bsf ns nx.length o < ot.length := by rw [W.ol]; exact bo
        refine hideG fun Gz hGz => ?_
        obtain ⟨cs5, a5, e1, e2, e3⟩ := rowE_at RO11' bo'
        refine hGz ?_
        clear hGz Gz
        refine ⟨_, rfl, .inl ⟨rfl, _, SqL.of o1⟩, _, rfl, m, _, 3, _, rfl, rfl, SqT.of hm11, rfl, _, rfl, _, rfl, pb, _, _, .int (bsf ns nx.length o : Nat), rfl, rfl, SqL.of (s711 _ _ hb7), atI_nat (hbs o om), po11, _, _, _, rfl, rfl, SqT.of e1, e2, pou, _, _, rfl, rfl, o1, small1000 (by omega), _, _, _, _, _, nxs ++ [rr], ots ++ [ot.getD (bsf ns nx.length o) []], rfl, ?_, RowsL.more o1 o2 o3 e3, ?_, ?_, hi, ?_, ?_, ?_, same_put s711 hpou7⟩
        · rw [List.map_append]
          exact RN11.other o1 hne
        · rw [List.length_append, ln]
          rfl
        · rw [List.length_append, lo8]
          rfl
        · intro r hr
          rcases List.mem_append.mp hr with hr | hr
          · exact hnx r hr
          · have : r = rr := by simpa using hr
            rw [this]
            exact ⟨lr, hrr⟩
        · intro r hr
          rcases List.mem_append.mp hr with hr | hr
          · exact hot r hr
          · have : r = ot.getD (bsf ns nx.length o) [] := by simpa using hr
            rw [this]
            exact getD_mem bo'
        · intro n o' hn' ho'
          by_cases e : n < i
          · have h := hrel n o' e ho'
            have h1 : (ots ++ [ot.getD (bsf ns nx.length o) []]).getD n [] = ots.getD n [] := by rw [List.getD_eq_getElem?_getD, List.getElem?_append_left (by omega), ← List.getD_eq_getElem?_getD]
            have h2 : (nxs ++ [rr]).getD n [] = nxs.getD n [] := by rw [List.getD_eq_getElem?_getD, List.getElem?_append_left (by omega), ← List.getD_eq_getElem?_getD]
            rw [h1, h2]
            exact h
          · have e : n = i := by omega
            subst e
            rw [ho] at ho'
            cases ho'
            have h1 : (ots ++ [ot.getD (bsf ns nx.length o) []]).getD n [] = ot.getD (bsf ns nx.length o) [] := by rw [List.getD_eq_getElem?_getD, List.getElem?_append_right (by omega), lo8, Nat.sub_self]; rfl
            have h2 : (nxs ++ [rr]).getD n [] = rr := by rw [List.getD_eq_getElem?_getD, List.getElem?_append_right (by omega), ln, Nat.sub_self]; rfl
            rw [h1, h2]
            refine ⟨rfl, ?_⟩
            rw [hrw3]
            exact hrl
    · rintro σ H8 hz_
      refine hideG fun Gz hGz => ?_
      obtain ⟨uk, ur, ul, uf, ua, nxs, ots, rfl, RN, RO8, ln, lo8, li, hnx, hot, hrel, s8⟩ := hz_
      refine hGz ?_
      clear hGz Gz
      rw [List.length_map, ol] at ln lo8
      obtain ⟨asn, n1, n2, n3⟩ := RN
      obtain ⟨aso, o1, o2, o3⟩ := RO8
      obtain ⟨q, hql, hqo, hqv⟩ := plc b (by omega)
      have s08 := s07.trans s8
      have hm8 := s08 _ _ hm
      refine ⟨_, rfl, m, _, 0, _, rfl, rfl, SqT.of hm8, rfl, _, rfl, _, rfl, m, _, 1, _, rfl, rfl, SqT.of hm8, rfl, d, _, rfl, dget_int (s8 _ _ hd7) hqv, _, rfl, pnx, _, rfl, .inl ⟨SqL.of n1, fun t1 ht1 => ?_⟩⟩
      have x1 := same_upd (o := .tup asn) ht1
      refine ⟨_, rfl, pou, _, rfl, .inl ⟨SqL.of (x1 _ _ o1), fun t2 ht2 => ?_⟩⟩
      have x2 := same_upd (o := .tup aso) ht2
      refine ⟨by show 4 ≤ sizeLine; decide, fun m' hm' => ?_⟩
      have x3 := same_upd (o := .tup [.ref pn, .int (q : Int), .ref t1, .ref t2]) hm'
      have x := (x1.trans x2).trans x3
      refine k m' q nxs ots _ ⟨⟨pn, t1, t2, upd_same, (s08.trans x) _ _ hnm, ?_, ?_⟩⟩ ⟨W.n3, by omega, by omega, by omega, fun r hr => (hnx r hr).1, fun r hr s hs => by rw [ln]; exact (hnx r hr).2 s hs, fun r hr => W.or r (hot r hr), fun r hr => W.ok r (hot r hr), fun r hr => W.bit r (hot r hr)⟩ ln ⟨fun s c => ∃ o, ord[s]? = some o ∧ bsf ns nx.length o = c, ?_⟩ (s08.trans x)
      · exact RowsL.tup (p := pnx) n2 (fun i r hr => let ⟨a, g1, g2⟩ := n3 i r hr; ⟨a, g1, x _ _ g2⟩) ((x2.trans x3) _ _ upd_same)
      · exact RowsL.tup (p := pou) o2 (fun i r hr => let ⟨a, g1, g2⟩ := o3 i r hr; ⟨a, g1, x _ _ g2⟩) (x3 _ _ upd_same)
      · rw [List.length_map, ol] at hrel
        refine ⟨⟨b, hqo, by unfold bsf; rw [if_pos hb]⟩, ?_, ?_, ?_⟩
        · rintro s c hz_
          refine hideG fun Gz hGz => ?_
          obtain ⟨o, h1, rfl⟩ := hz_
          refine hGz ?_
          clear hGz Gz
          exact ⟨by rw [ln, ← ol]; exact (List.getElem?_eq_some_iff.mp h1).1, bsf_lt bpos⟩
        · rintro s c hz_
          refine hideG fun Gz hGz => ?_
          obtain ⟨o, h1, rfl⟩ := hz_
          refine hGz ?_
          clear hGz Gz
          exact (hrel s o (by rw [← ol]; exact (List.getElem?_eq_some_iff.mp h1).1) h1).1.symm
        · rintro s c p x y hz_ hx hy
          refine hideG fun Gz hGz => ?_
          obtain ⟨o, h1, rfl⟩ := hz_
          refine hGz ?_
          clear hGz Gz
          exact (hrel s o (by rw [← ol]; exact (List.getElem?_eq_some_iff.mp h1).1) h1).2 p x y hx hy
noncomputable def sp_law_led_to (K : PySem.W.Frag) : Sp := fun vs H Q _ => ∃ (b : Nat) (ps : Addr) (nx : List (List Nat)), vs = [.int (b : Int), .ref ps] ∧ RowsE H ps (nx.map nrow) ∧ b < nx.length ∧ (∀ row ∈ nx, row.length ≤ 8 ∧ ∀ s ∈ row, s < nx.length) ∧ nx.length ≤ 200 ∧
  ∀ p (l : List Nat) H', H p = none → H' p = some (.lst (l.map natV)) → BfsE nx b l → Same H H' → Q (.ref p) H'
theorem ok_law_led_to (T : Txt K w mg t) (TB : Tbs mg base t) : FnOk P w K mg base CX0 1 t.a_law_led_to t.f_law_led_to ["begin", "nexts"] (sp_law_led_to K) := by
  refine T.d_law_led_to.F.ok sc_law_led_to (fun vs H Q E h => ?_) (fun cdv A outer s H vs Q E hr h => ?_)
  · obtain ⟨b, ps, nx, rfl, Rs, hb, hnx, h2, k⟩ := h
    rfl
  · obtain ⟨b, ps, nx, rfl, Rs, hb, hnx, h2, k⟩ := h
    have hu := hu_of hr
    refine ⟨_, @QSs.out _ _ _ (qss_cons (qs_set (i := 2) sc_law_led_to.nd rfl (Or.inl rfl) (qe_lst (qa_c (qv 0) qa_nil)))
        (qss_cons (qs_set (i := 3) sc_law_led_to.nd rfl (Or.inl rfl) (qe_disp (qps_cons (qv 0) qe_bl qps_nil) rfl rfl (fun z => nomatch z) (by decide)))
        (qss_cons (qs_set (i := 4) sc_law_led_to.nd rfl (Or.inl rfl) qe_int)
        (qss_cons (qs_while PassesOwn.never (qt_cmpR op_lt (qv 4) (qe_callBF call_len_seq (by rfl) T.z_len bt_len (qa_c (qv 2) qa_nil)) (nomark _))
        (qss_cons (qs_for PassesOwn.never rfl (qi_tup (qe_ix ix_tup (qv 1) (qe_ix ix_list (qv 2) (qv 4) (fun _ _ => rfl)) (fun _ _ => rfl))) (qg_name (i := 5) sc_law_led_to.nd rfl (Or.inl rfl))
        (qss_one (qs_if (qt_cmpR (op_notIn_dict hu) (qv 5) (qv 3) (by with_unfolding_all rfl))
        (qss_cons (qs_dput hu (qv 3) (qv 5) qe_bl rfl)
        (qss_one (qs_expr (qe_bmF PySem.F.plainAttrs_list PySem.F.slot_list_append PySem.F.type_list_append mt_append (qv 2) (qa_c (qv 5) qa_nil))))) qss_nil)))
        (qss_one (qs_set (i := 4) sc_law_led_to.nd rfl (Or.inl rfl) (qe_op op_add (qv 4) qe_int)))))
        (qss_one (qs_ret (qv 2))))))), ?_⟩
    clear hu
    try dsimp only [L2.cxK, L2.cxK2]
    refine L2.let5 ?_
    intro U4 U3 U2 U1
    have hr : ∀ row ∈ nx, ∀ s ∈ row, s < nx.length := fun row h => (hnx row h).2
    obtain ⟨bs, hps, hbs, hsb⟩ := rows_refs Rs
    refine ⟨_, rfl, by show 1 ≤ sizeLine; decide, fun p hp => ?_⟩
    have s1 := same_upd (o := .lst [.int (b : Int)]) hp
    refine gName_go ?_
    refine fun d hd => ?_
    have hdp : p ≠ d := ne_of_none upd_same hd
    have hdH : H d = none := s1.free hd
    have s2 := s1.trans (same_upd (o := .dK []) hd)
    refine ⟨_, rfl, upd_same, [(.inl (b : Int), .bl true)], rfl, by show 1 ≤ 15; decide, gName_go ?_⟩
    have em : mergeK [] [((.inl (b : Int) : Key), V.bl true)] = trK [b] := rfl
    rw [em, upd_upd]
    have s3 : Same H (upd (upd H p (.lst [.int (b : Int)])) d (.dK (trK [b]))) := s1.trans (same_upd hd)
    have hp3 : upd (upd H p (.lst [.int (b : Int)])) d (.dK (trK [b])) p = some (.lst ((bfsN nx b 0).map natV)) := by rw [upd_ne hdp]; exact upd_same
    have hd3 : upd (upd H p (.lst [.int (b : Int)])) d (.dK (trK [b])) d = some (.dK (trK (bfsN nx b 0))) := upd_same
    generalize upd (upd H p (.lst [.int (b : Int)])) d (.dK (trK [b])) = H3 at *
    refine while_w (fun σ H2 => ∃ (i : Nat) (u5 : Option V), σ = [some (.int (b : Int)), some (.ref ps), some (.ref p), some (.ref d), some (.int (i : Int)), u5] ∧ H2 p = some (.lst ((bfsN nx b i).map natV)) ∧ H2 d = some (.dK (trK (bfsN nx b i))) ∧ (∀ j, j < i → j < (bfsN nx b j).length) ∧ i ≤ (bfsN nx b i).length ∧ Same H H2) (fun σ _ => match σ with | [_, _, _, _, some (.int m), _] => nx.length - m.toNat | _ => 0) ⟨0, none, rfl, hp3, hd3, (fun j hj => absurd hj (Nat.not_lt_zero _)), Nat.zero_le _, s3⟩ ?_
    rintro σ H4 hz_
    refine hideG fun Gz hGz => ?_
    obtain ⟨i, u5, rfl, hp4, hd4, hgo, hil, s4⟩ := hz_
    refine hGz ?_
    clear hGz Gz
    have hlen := bfs_len hb hr i
    have hnd := bfs_nodup nx b i
    have hltA := bfs_lt hb hr i
    have eN : bfsN nx b (i + 1) = bfsS nx (bfsN nx b i) i := rfl
    generalize hl0 : bfsN nx b i = l0 at *
    refine ⟨_, rfl, _, rfl, p, _, rfl, .inl (SqL.of hp4), _, _, rfl, rfl, _, rfl, ?_⟩
    rw [List.length_map]
    refine ite2 (fun hlt => ?_) (fun hlt => ?_)
    · have hlt' : i < l0.length := by
        have := of_decide_eq_true hlt
        omega
      refine ⟨fun σ' H' => ∃ (u5 : Option V), σ' = [some (.int (b : Int)), some (.ref ps), some (.ref p), some (.ref d), some (.int ((i + 1 : Nat) : Int)), u5] ∧ H' p = some (.lst ((bfsN nx b (i + 1)).map natV)) ∧ H' d = some (.dK (trK (bfsN nx b (i + 1)))) ∧ Same H H', ?_, ?_⟩
      · rintro σ' H' hz_
        refine hideG fun Gz hGz => ?_
        obtain ⟨u5, rfl, h5, h6, s5⟩ := hz_
        refine hGz ?_
        clear hGz Gz
        have hpre : l0.length ≤ (bfsN nx b (i + 1)).length := by
          obtain ⟨r, e⟩ := fold_pre (nx.getD (l0.getD i 0) []) l0
          rw [eN]
          unfold bfsS
          rw [e, List.length_append]
          omega
        refine ⟨nx.length - (i + 1), ?_, ?_, i + 1, u5, rfl, h5, h6, fun j hj => ?_, by omega, s5⟩
        · show nx.length - (i + 1) < nx.length - (i : Int).toNat
          rw [Int.toNat_natCast]
          omega
        · show _ = nx.length - ((i + 1 : Nat) : Int).toNat
          rw [Int.toNat_natCast]
        · by_cases hji : j = i
          · rw [hji, hl0]
            exact hlt'
          · exact hgo j (by omega)
      · have hps4 := s4 _ _ hps
        obtain ⟨si, hsi⟩ : ∃ si, l0[i]? = some si := ⟨_, List.getElem?_eq_getElem hlt'⟩
        have hsn : si < nx.length := hltA _ (List.mem_of_getElem? hsi)
        have hbl : bs.length = nx.length := by rw [hbs, List.length_map]
        obtain ⟨row, hrow⟩ : ∃ row, nx[si]? = some row := ⟨_, List.getElem?_eq_getElem hsn⟩
        obtain ⟨br, hbi⟩ : ∃ br, bs[si]? = some br := ⟨_, List.getElem?_eq_getElem (by omega)⟩
        have hbr := hsb _ _ _ (by rw [List.getElem?_map, hrow]; rfl) hbi
        obtain ⟨r8, rlt⟩ := hnx _ (List.mem_of_getElem? hrow)
        have eS : bfsN nx b (i + 1) = row.foldl ins1 l0 := by
          rw [eN]
          unfold bfsS
          rw [List.getD_eq_getElem?_getD, List.getD_eq_getElem?_getD, hsi]
          show (nx[si]?.getD []).foldl ins1 _ = _
          rw [hrow]
          rfl
        rw [eS]
        refine ⟨_, rfl, _, rfl, _, rfl, p, _, (i : Int), natV si, rfl, rfl, SqL.of hp4, atI_nat (by rw [List.getElem?_map, hsi]; rfl), ps, _, _, V.ref br, rfl, rfl, SqT.of hps4, atI_nat (by rw [List.getElem?_map, hbi]; rfl), _, rfl, ⟨_, SqT.of (s4 _ _ hbr)⟩, ?_⟩
        refine for_tup (K := K) (xs := nrow row) (fun j σ H5 => ∃ (u5 : Option V), σ = [some (.int (b : Int)), some (.ref ps), some (.ref p), some (.ref d), some (.int (i : Int)), u5] ∧ H5 p = some (.lst (((row.take j).foldl ins1 l0).map natV)) ∧ H5 d = some (.dK (trK ((row.take j).foldl ins1 l0))) ∧ Same H H5) ⟨u5, rfl, hp4, hd4, s4⟩ (fun j σ H5 _ ⟨_, _, _, _, s⟩ => SqT.of (s _ _ hbr)) ?_ ?_
        · rintro j x σ H5 hx hz_
          refine hideG fun Gz hGz => ?_
          obtain ⟨u6, rfl, hp5, hd5, s5⟩ := hz_
          refine hGz ?_
          clear hGz Gz
          unfold nrow at hx
          rw [List.getElem?_map] at hx
          obtain ⟨s', hs', rfl⟩ := Option.map_eq_some_iff.mp hx
          have e1 : (row.take (j + 1)).foldl ins1 l0 = ins1 ((row.take j).foldl ins1 l0) s' := by
            rw [take_snoc hs', List.foldl_append]
            rfl
          have hll : ((row.take j).foldl ins1 l0).length ≤ 300 := by
            have h7 : ∀ (r l : List Nat), (r.foldl ins1 l).length ≤ l.length + r.length := by
              intro r
              induction r with
              | nil => exact fun l => Nat.le_refl _
              | cons k r ih =>
                intro l
                have h1 := ih (ins1 l k)
                have h2 := ins1_len l k
                rw [List.foldl_cons, List.length_cons]
                omega
            have := h7 (row.take j) l0
            rw [List.length_take] at this
            omega
          rw [e1]
          generalize (row.take j).foldl ins1 l0 = l' at *
          refine ⟨_, rfl, _, rfl, d, valV (trK l') (.inl (s' : Int)), rfl, .inl ⟨trK l', .inl (s' : Int), .inl hd5, rfl, rfl⟩, _, rfl, ?_⟩
          by_cases hm : s' ∈ l'
          · rw [trK_val hm, show ins1 l' s' = l' from if_pos hm]
            exact iteF ⟨_, rfl, hp5, hd5, s5⟩
          · rw [trK_none hm, show ins1 l' s' = l' ++ [s'] from if_neg hm]
            refine iteT ⟨_, rfl, _, rfl, d, _, rfl, DPut.k (k := .inl (s' : Int)) hd5 (by unfold trK; rw [List.length_map]; exact small1000 (by omega)), ?_⟩
            rw [trK_put hm]
            have hp6 : upd H5 d (.dK (trK (l' ++ [s']))) p = some (.lst (l'.map natV)) := by rw [upd_ne hdp]; exact hp5
            refine ⟨_, rfl, .inl ⟨rfl, _, SqL.of hp6⟩, _, rfl, p, _, _, rfl, rfl, hp6, by rw [List.length_map]; exact small1000 (by omega), _, rfl, ?_, ?_, same_put (same_put s5 hdH) hp⟩
            · rw [upd_same, List.map_append]
              rfl
            · rw [upd_ne hdp.symm]
              exact upd_same
        · rintro σ H5 hz_
          refine hideG fun Gz hGz => ?_
          obtain ⟨u6, rfl, hp5, hd5, s5⟩ := hz_
          refine hGz ?_
          clear hGz Gz
          rw [show (nrow row).length = row.length from List.length_map .., List.take_length] at hp5 hd5
          exact ⟨_, rfl, _, _, rfl, rfl, _, rfl, hp5, hd5, s5⟩
    · have hle : l0.length = i := by
        have : ¬ (i : Int) < (l0.length : Int) := fun z => hlt (decide_eq_true z)
        omega
      exact ⟨_, rfl, k p l0 H4 hp hp4 ⟨by rw [hle, hl0], fun j hj => hgo j (by omega)⟩ s4⟩
noncomputable def sp_law_marked (K : PySem.W.Frag) : Sp := fun vs H Q _ => ∃ (Kk : Type) (_ : DecidableEq Kk) (kn : KN Kk) (a : Addr) (as : List Addr) (ks : List Kk), vs = [.ref a] ∧ (H a = some (.lst (as.map V.ref)) ∨ H a = some (.tup (as.map V.ref))) ∧ as.length = ks.length ∧ (∀ (i : Nat) (b : Addr) (k : Kk), as[i]? = some b → ks[i]? = some k → kn.at_ H k b) ∧ ks.length ≤ 1000 ∧
  ∀ p H', H p = none → H' p = some (.lst ((numb ks).map natV)) → Same H H' → Q (.ref p) H'
theorem ok_law_marked (T : Txt K w mg t) (TB : Tbs mg base t) : FnOk P w K mg base CX0 1 t.a_law_marked t.f_law_marked ["rows"] (sp_law_marked K) := by
  refine T.d_law_marked.F.ok sc_law_marked (fun vs H Q E h => ?_) (fun cdv A outer s H vs Q E hr h => ?_)
  · obtain ⟨Kk, _, kn, a, as, ks, rfl, ha, hl, hat, hz, k⟩ := h
    rfl
  · obtain ⟨Kk, _, kn, a, as, ks, rfl, ha, hl, hat, hz, k⟩ := h
    have hu := hu_of hr
    refine ⟨_, @QSs.out _ _ _ (qss_cons (qs_set (i := 1) sc_law_marked.nd rfl (Or.inl rfl) qe_dnew)
        (qss_cons (qs_set (i := 2) sc_law_marked.nd rfl (Or.inl rfl) (qe_lst qa_nil))
        (qss_cons (qs_for PassesOwn.never rfl (show QI _ _ _ (iSeqV K _) from qi_seqV (qv 0)) (qg_name (i := 3) sc_law_marked.nd rfl (Or.inl rfl))
        (qss_cons (qs_if (qt_cmpR (op_notInN (hu2_of hr)) (qv 3) (qv 1) (by with_unfolding_all rfl))
        (qss_one (qs_nput (hu2_of hr) (qv 1) (qv 3) (qe_callBF call_lenN (by rfl) T.z_len bt_len (qa_c (qv 1) qa_nil)) rfl)) qss_nil)
        (qss_one (qs_expr (qe_bmF PySem.F.plainAttrs_list PySem.F.slot_list_append PySem.F.type_list_append mt_append (qv 2) (qa_c (qe_nget (hu2_of hr) (qv 1) (qv 3) (fun _ _ => rfl)) qa_nil))))))
        (qss_one (qs_ret (qv 2)))))), ?_⟩
    clear hu hr
    try dsimp only [L2.cxK, L2.cxK2]
    refine L2.let4 ?_
    intro U3 U2 U1
    refine fun d hd => ?_
    have s1 := same_upd (o := .dK []) hd
    refine gName_go ⟨by show 0 ≤ sizeLine; decide, fun f hf => ?_⟩
    have s2 := s1.trans (same_upd (o := .lst []) hf)
    have hdf : d ≠ f := ne_of_none (upd_same (H := H) (a := d) (o := .dK [])) hf
    have hfH : H f = none := s1.free hf
    have n0 : NumD kn (upd (upd H d (.dK [])) f (.lst [])) d (numKV (seenL (ks.take 0))) := ⟨List.nodup_nil, (show 0 < sizeLine by decide), .inl ⟨rfl, by rw [upd_ne hdf]; exact upd_same⟩⟩
    have item : ∀ (i : Nat) (x : V), (as.map V.ref)[i]? = some x → ∃ b kk, x = .ref b ∧ as[i]? = some b ∧ ks[i]? = some kk := fun i x hx => by
      rw [List.getElem?_map] at hx
      obtain ⟨b, hb, rfl⟩ := Option.map_eq_some_iff.mp hx
      have hi := (List.getElem?_eq_some_iff.mp hb).1
      exact ⟨b, ks[i]'(by omega), rfl, hb, List.getElem?_eq_getElem (by omega)⟩
    refine gName_go ?_
    have fct : ∀ (i : Nat) (kk : Kk), ks[i]? = some kk → seenL (ks.take (i + 1)) = ins1 (seenL (ks.take i)) kk ∧ ∃ r, seenL ks = seenL (ks.take (i + 1)) ++ r ∧ (seenL (ks.take i)).length < 1000 ∧ i < 1000 := fun i kk hk => by
      obtain ⟨r, er⟩ := seenL_take ks (i + 1)
      have hi := (List.getElem?_eq_some_iff.mp hk).1
      have := seen_len (ks.take i)
      rw [List.length_take] at this
      exact ⟨by rw [take_snoc hk, seenL_snoc], r, er, by omega, by omega⟩
    have num_off : ∀ {H1 : Hp} {kvs : List (Kk × V)} {xs : List V} {o : HO}, NumD kn H1 d kvs → H1 f = some (.lst xs) → NumD kn (upd H1 f o) d kvs := fun {H1 kvs xs o} n e => by
      obtain ⟨n1, n2, n3⟩ := n
      refine ⟨n1, n2, ?_⟩
      rcases n3 with ⟨e1, e2⟩ | ⟨ys, e1, e2⟩
      · exact .inl ⟨e1, by rw [upd_ne hdf]; exact e2⟩
      · refine .inr ⟨ys, by rw [upd_ne hdf]; exact e1, ?_⟩
        have go : ∀ {l : List (Kk × V)} {m : List (Kk × Addr × Value)}, Paired (fun (p : Kk × V) (q : Kk × Addr × Value) => p.1 = q.1 ∧ kn.at_ H1 q.1 q.2.1 ∧ RelV p.2 q.2.2) l m → Paired (fun (p : Kk × V) (q : Kk × Addr × Value) => p.1 = q.1 ∧ kn.at_ (upd H1 f o) q.1 q.2.1 ∧ RelV p.2 q.2.2) l m := by
          intro l m pr
          induction pr with
          | nil => exact .nil
          | cons h _ ih => exact .cons ⟨h.1, kn.keep _ _ _ _ (fun b xs z => by rw [upd_ne (ne_of z e fun z => nomatch z)]; exact z) h.2.1, h.2.2⟩ ih
        exact go e2
    rcases ha with ha | ha
    · refine ⟨a, rfl, .inl ⟨⟨_, SqL.of (s2 _ _ ha)⟩, for_list (K := K) (a := a) (xs := as.map V.ref) (fun i σ H1 => ∃ u3, σ = [some (.ref a), some (.ref d), some (.ref f), u3] ∧ NumD kn H1 d (numKV (seenL (ks.take i))) ∧ H1 f = some (.lst ((ks.take i).map fun k => natV ((seenL ks).idxOf k))) ∧ Same H H1) ⟨none, rfl, n0, upd_same, s2⟩ (fun i σ H1 _ ⟨_, _, _, _, s⟩ => SqL.of (s _ _ ha)) ?_ ?_⟩⟩
      · rintro i x σ H1 hx hz_
        refine hideG fun Gz hGz => ?_
        obtain ⟨u3, rfl, n1, hf1, o1⟩ := hz_
        refine hGz ?_
        clear hGz Gz
        refine hideG fun Gz hGz => ?_
        obtain ⟨b, kk, rfl, hb, hk⟩ := item i x hx
        refine hGz ?_
        clear hGz Gz
        refine hideG fun Gz hGz => ?_
        obtain ⟨e1, r, er, hsl, hi⟩ := fct i kk hk
        refine hGz ?_
        clear hGz Gz
        have at1 : kn.at_ H1 kk b := kn.keep _ _ _ _ (fun b xs e => o1 b _ e) (hat i b kk hb hk)
        refine ⟨_, rfl, _, rfl, Kk, _, kn, d, b, kk, _, rfl, rfl, n1, at1, _, rfl, ?_⟩
        by_cases hm : kk ∈ seenL (ks.take i)
        · have hv := numKV_val _ _ hm (seenL_nodup (ks.take i))
          have e2 : seenL (ks.take (i + 1)) = seenL (ks.take i) := by rw [e1]; exact if_pos hm
          rw [hv]
          refine iteF ⟨_, rfl, .inl ⟨rfl, _, SqL.of hf1⟩, _, rfl, _, rfl, Kk, _, kn, d, b, kk, _, _, rfl, rfl, n1, at1, hv, f, _, _, rfl, rfl, hf1, ?_, _, rfl, ?_, ?_, same_put o1 hfH⟩
          · rw [List.length_map, List.length_take]
            exact small1000 (by omega)
          · rw [e2]
            exact num_off n1 hf1
          · rw [upd_same, take_snoc hk, List.map_append]
            show some (HO.lst (_ ++ [natV ((seenL (ks.take i)).idxOf kk)])) = some (HO.lst (_ ++ [natV ((seenL ks).idxOf kk)]))
            rw [er, e2, idx_pre hm]
        · have hv := numKV_none _ _ hm
          have e2 : seenL (ks.take (i + 1)) = seenL (ks.take i) ++ [kk] := by rw [e1]; exact if_neg hm
          rw [hv]
          refine iteT ⟨_, rfl, Kk, _, kn, d, _, rfl, n1, _, rfl, _, rfl, Kk, _, kn, d, b, kk, _, rfl, rfl, n1, at1, hv, ?_, fun H2 n2 o2 _ => ?_⟩
          · rw [numKV_len]
            exact small1000 (by omega)
          · have v2 : Same H H2 := fun c o e => o2 c o (o1 c o e) (ne_of_none e hd)
            have at2 : kn.at_ H2 kk b := kn.keep _ _ _ _ (fun b xs e => v2 b _ e) (hat i b kk hb hk)
            have hf2 := o2 _ _ hf1 hdf.symm
            rw [numKV_len] at n2
            rw [← numKV_snoc, ← e2] at n2
            have hv2 := numKV_val (seenL (ks.take (i + 1))) kk (by rw [e2]; simp) (seenL_nodup _)
            refine ⟨_, rfl, .inl ⟨rfl, _, SqL.of hf2⟩, _, rfl, _, rfl, Kk, _, kn, d, b, kk, _, _, rfl, rfl, n2, at2, hv2, f, _, _, rfl, rfl, hf2, ?_, _, rfl, ?_, ?_, same_put v2 hfH⟩
            · rw [List.length_map, List.length_take]
              exact small1000 (by omega)
            · exact num_off n2 hf2
            · rw [upd_same, take_snoc hk, List.map_append]
              show some (HO.lst (_ ++ [natV ((seenL (ks.take i ++ [kk])).idxOf kk)])) = some (HO.lst (_ ++ [natV ((seenL ks).idxOf kk)]))
              rw [← take_snoc hk, er, idx_pre (by rw [e2]; simp)]
      · rintro σ H1 hz_
        refine hideG fun Gz hGz => ?_
        obtain ⟨u3, rfl, n1, hf1, o1⟩ := hz_
        refine hGz ?_
        clear hGz Gz
        rw [List.length_map, hl, List.take_length] at hf1
        exact ⟨_, rfl, k f H1 hfH (by rw [hf1]; unfold numb; rw [List.map_map]; rfl) o1⟩
    · refine ⟨a, rfl, .inr ⟨⟨_, SqT.of (s2 _ _ ha)⟩, for_tup (K := K) (a := a) (xs := as.map V.ref) (fun i σ H1 => ∃ u3, σ = [some (.ref a), some (.ref d), some (.ref f), u3] ∧ NumD kn H1 d (numKV (seenL (ks.take i))) ∧ H1 f = some (.lst ((ks.take i).map fun k => natV ((seenL ks).idxOf k))) ∧ Same H H1) ⟨none, rfl, n0, upd_same, s2⟩ (fun i σ H1 _ ⟨_, _, _, _, s⟩ => SqT.of (s _ _ ha)) ?_ ?_⟩⟩
      · rintro i x σ H1 hx hz_
        refine hideG fun Gz hGz => ?_
        obtain ⟨u3, rfl, n1, hf1, o1⟩ := hz_
        refine hGz ?_
        clear hGz Gz
        refine hideG fun Gz hGz => ?_
        obtain ⟨b, kk, rfl, hb, hk⟩ := item i x hx
        refine hGz ?_
        clear hGz Gz
        refine hideG fun Gz hGz => ?_
        obtain ⟨e1, r, er, hsl, hi⟩ := fct i kk hk
        refine hGz ?_
        clear hGz Gz
        have at1 : kn.at_ H1 kk b := kn.keep _ _ _ _ (fun b xs e => o1 b _ e) (hat i b kk hb hk)
        refine ⟨_, rfl, _, rfl, Kk, _, kn, d, b, kk, _, rfl, rfl, n1, at1, _, rfl, ?_⟩
        by_cases hm : kk ∈ seenL (ks.take i)
        · have hv := numKV_val _ _ hm (seenL_nodup (ks.take i))
          have e2 : seenL (ks.take (i + 1)) = seenL (ks.take i) := by rw [e1]; exact if_pos hm
          rw [hv]
          refine iteF ⟨_, rfl, .inl ⟨rfl, _, SqL.of hf1⟩, _, rfl, _, rfl, Kk, _, kn, d, b, kk, _, _, rfl, rfl, n1, at1, hv, f, _, _, rfl, rfl, hf1, ?_, _, rfl, ?_, ?_, same_put o1 hfH⟩
          · rw [List.length_map, List.length_take]
            exact small1000 (by omega)
          · rw [e2]
            exact num_off n1 hf1
          · rw [upd_same, take_snoc hk, List.map_append]
            show some (HO.lst (_ ++ [natV ((seenL (ks.take i)).idxOf kk)])) = some (HO.lst (_ ++ [natV ((seenL ks).idxOf kk)]))
            rw [er, e2, idx_pre hm]
        · have hv := numKV_none _ _ hm
          have e2 : seenL (ks.take (i + 1)) = seenL (ks.take i) ++ [kk] := by rw [e1]; exact if_neg hm
          rw [hv]
          refine iteT ⟨_, rfl, Kk, _, kn, d, _, rfl, n1, _, rfl, _, rfl, Kk, _, kn, d, b, kk, _, rfl, rfl, n1, at1, hv, ?_, fun H2 n2 o2 _ => ?_⟩
          · rw [numKV_len]
            exact small1000 (by omega)
          · have v2 : Same H H2 := fun c o e => o2 c o (o1 c o e) (ne_of_none e hd)
            have at2 : kn.at_ H2 kk b := kn.keep _ _ _ _ (fun b xs e => v2 b _ e) (hat i b kk hb hk)
            have hf2 := o2 _ _ hf1 hdf.symm
            rw [numKV_len] at n2
            rw [← numKV_snoc, ← e2] at n2
            have hv2 := numKV_val (seenL (ks.take (i + 1))) kk (by rw [e2]; simp) (seenL_nodup _)
            refine ⟨_, rfl, .inl ⟨rfl, _, SqL.of hf2⟩, _, rfl, _, rfl, Kk, _, kn, d, b, kk, _, _, rfl, rfl, n2, at2, hv2, f, _, _, rfl, rfl, hf2, ?_, _, rfl, ?_, ?_, same_put v2 hfH⟩
            · rw [List.length_map, List.length_take]
              exact small1000 (by omega)
            · exact num_off n2 hf2
            · rw [upd_same, take_snoc hk, List.map_append]
              show some (HO.lst (_ ++ [natV ((seenL (ks.take i ++ [kk])).idxOf kk)])) = some (HO.lst (_ ++ [natV ((seenL ks).idxOf kk)]))
              rw [← take_snoc hk, er, idx_pre (by rw [e2]; simp)]
      · rintro σ H1 hz_
        refine hideG fun Gz hGz => ?_
        obtain ⟨u3, rfl, n1, hf1, o1⟩ := hz_
        refine hGz ?_
        clear hGz Gz
        rw [List.length_map, hl, List.take_length] at hf1
        exact ⟨_, rfl, k f H1 hfH (by rw [hf1]; unfold numb; rw [List.map_map]; rfl) o1⟩
noncomputable def sp_alike_classes (K : PySem.W.Frag) : Sp := fun vs H Q _ => ∃ (ps po : Addr) (nx : List (List Nat)) (ot : List (List V)) (kos : List (List Int)), vs = [.ref ps, .ref po] ∧ RowsE H ps (nx.map nrow) ∧ RowsE H po ot ∧ ot.map (fun r => r.map vB) = kos.map (fun k => k.map some) ∧ ot.length = nx.length ∧ (∀ row ∈ nx, row.length ≤ 8 ∧ ∀ s ∈ row, s < nx.length) ∧ 1 ≤ nx.length ∧ nx.length ≤ 200 ∧
  ∀ p (cs : List Nat) H', H p = none → H' p = some (.lst (cs.map natV)) → cs.length = nx.length → numb (refn nx cs) = cs → numb cs = cs → ClsOf kos cs → cs = clsN nx kos nx.length → Same H H' → Q (.ref p) H'
theorem ok_alike_classes (T : Txt K w mg t) (TB : Tbs mg base t) : FnOk P w K mg base CX0 2 t.a_alike_classes t.f_alike_classes ["steps", "out"] (sp_alike_classes K) := by
  have G_numbered : FnOk P w K mg base CX0 1 t.a_numbered t.f_numbered ["marks"] (sp_numbered K) := ok_numbered T TB
  have G_classes_of : FnOk P w K mg base CX0 1 t.a_classes_of t.f_classes_of ["states", "classes"] (sp_classes_of K) := ok_classes_of T TB
  refine T.d_alike_classes.F.ok sc_alike_classes (fun vs H Q E h => ?_) (fun cdv A outer s H vs Q E hr h => ?_)
  · obtain ⟨ps, po, nx, ot, kos, rfl, Rs, Ro, hk, hlo, hnx, h1, h2, k⟩ := h
    rfl
  · obtain ⟨ps, po, nx, ot, kos, rfl, Rs, Ro, hk, hlo, hnx, h1, h2, k⟩ := h
    have hu := hu_of hr
    refine ⟨_, @QSs.out _ _ _ (qss_cons (qs_set (i := 2) sc_alike_classes.nd rfl (Or.inr rfl) (qe_callF G_numbered (hr.mono (by decide)) rfl T.d_numbered.m T.d_numbered.F.kp T.d_numbered.b .nil pass0 (qa_c (qv 1) qa_nil)))
        (qss_cons (qs_set (i := 3) sc_alike_classes.nd rfl (Or.inl rfl) qe_int)
        (qss_cons (qs_while PassesOwn.never (qt_cmpR op_gt (qe_op op_add (qe_callBF (call_maxL rfl) (by rfl) T.z_max bt_max (qa_c (qv 2) qa_nil)) qe_int) (qv 3) (nomark _))
        (qss_cons (qs_set (i := 3) sc_alike_classes.nd rfl (Or.inl rfl) (qe_op op_add (qe_callBF (call_maxL rfl) (by rfl) T.z_max bt_max (qa_c (qv 2) qa_nil)) qe_int))
        (qss_one (qs_set (i := 2) sc_alike_classes.nd rfl (Or.inr rfl) (qe_callF G_numbered (hr.mono (by decide)) rfl T.d_numbered.m T.d_numbered.F.kp T.d_numbered.b .nil pass0 (qa_c (qe_comp2 (⟨by rfl, by decide +kernel, by decide +kernel, by rfl, by decide +kernel, by decide +kernel, by rfl, by decide +kernel⟩ : CompSc (defScope s_alike_classes) _ ["steps", "out", "classes", "many"] "mark" ["classes"] [2]) (⟨by rfl, by decide +kernel⟩ : Two _ "mark" "row" ["classes"]) (qi_zip (b1 := false) (b2 := true) rfl T.z_zip (qa_c (qv 2) (qa_c (qv 0) qa_nil))) (fun _ _ _ _ => qf_nil) (fun _ _ _ _ => (qe_tup (qa_c (qv 0) (qa_c (qe_callF G_classes_of (hr.mono (by decide)) rfl T.d_classes_of.m T.d_classes_of.F.kp T.d_classes_of.b .nil pass0 (qa_c (qv 1) (qa_c (qv 2) qa_nil))) qa_nil))))) qa_nil))))))
        (qss_one (qs_ret (qv 2)))))), ?_⟩
    clear hu hr
    try dsimp only [L2.cxK, L2.cxK2]
    refine L2.let4 ?_
    intro U3 U2 U1
    obtain ⟨bo, hpo, hbo, hob⟩ := rows_refs Ro
    obtain ⟨bs, hps, hbs, hsb⟩ := rows_refs Rs
    have hkl : kos.length = nx.length := by
      have := congrArg List.length hk
      rw [List.length_map, List.length_map] at this
      omega
    refine ⟨_, rfl, List Int, _, knT, po, bo, kos, rfl, .inr hpo, by omega, fun i b kk hb hkk => ?_, by omega, fun p0 H1 hp0 hp1 s1 => ?_⟩
    · have hi : i < ot.length := by have := (List.getElem?_eq_some_iff.mp hb).1; omega
      refine ⟨_, hob i _ b (List.getElem?_eq_getElem hi) hb, ?_⟩
      have e := congrArg (fun l => l[i]?) hk
      simp only [List.getElem?_map, List.getElem?_eq_getElem hi, hkk] at e
      exact Option.some.inj e
    rw [numb_ints] at hp1
    refine gName_go ?_
    have cls0 : ClsOf kos (numb kos) := fun i j a b ha hb e => (numb_iff ha hb).mp e
    refine while_w (fun σ H2 => ∃ (p : Addr) (cs : List Nat) (many n : Nat), σ = [some (.ref ps), some (.ref po), some (.ref p), some (.int (many : Int))] ∧ H2 p = some (.lst (cs.map natV)) ∧ H p = none ∧ cs.length = nx.length ∧ numb cs = cs ∧ ClsOf kos cs ∧ cs = clsN nx kos n ∧ n ≤ many ∧ many ≤ nx.length ∧ (many = 0 ∨ ((seenL cs).length ≤ many → numb (refn nx cs) = cs)) ∧ Same H H2) (fun σ _ => match σ with | [_, _, _, some (.int m)] => nx.length - m.toNat | _ => 0) ⟨p0, numb kos, 0, 0, rfl, hp1, hp0, by rw [numb_len]; exact hkl, numb_numb kos, cls0, rfl, Nat.le_refl _, Nat.zero_le _, .inl rfl, s1⟩ ?_
    rintro σ H2 hz_
    refine hideG fun Gz hGz => ?_
    obtain ⟨p, cs, many, n, rfl, hp2, hpH, hcl, hnn, hcls, hcn, hnm, hmy, hst, s2⟩ := hz_
    refine hGz ?_
    clear hGz Gz
    have hne : cs ≠ [] := fun z => by rw [z] at hcl; have : (0 : Nat) = nx.length := hcl; omega
    have mx : ∀ m ∈ (cs.map fun c : Nat => (c : Int)), (∀ n ∈ (cs.map fun c : Nat => (c : Int)), n ≤ m) → m + 1 = ((seenL cs).length : Int) := by
      intro m hm hx
      obtain ⟨c, hc, rfl⟩ := List.mem_map.mp hm
      have h3 : c ∈ numb cs := by rw [hnn]; exact hc
      have := numb_max h3 fun n hn => by
        rw [hnn] at hn
        have := hx _ (List.mem_map_of_mem hn)
        omega
      omega
    have hp2' : H2 p = some (.lst ((cs.map fun c : Nat => (c : Int)).map V.int)) := by rw [hp2, List.map_map]; rfl
    have hsl : (seenL cs).length ≤ nx.length := by have := seen_len cs; omega
    have hne' : (cs.map fun c : Nat => (c : Int)) ≠ [] := fun z => hne (List.map_eq_nil_iff.mp z)
    refine ⟨_, rfl, p, _, rfl, SqL.of hp2', hne', fun m hm hx => ⟨_, _, rfl, rfl, _, rfl, _, _, rfl, rfl, _, rfl, ?_⟩⟩
    have em := mx m hm hx
    refine ite2 (fun hgt => ?_) (fun hgt => ?_)
    · have hlt : many < (seenL cs).length := by
        have := of_decide_eq_true hgt
        omega
      refine ⟨fun σ' H' => ∃ (p' : Addr), σ' = [some (.ref ps), some (.ref po), some (.ref p'), some (.int ((seenL cs).length : Int))] ∧ H' p' = some (.lst ((numb (refn nx cs)).map natV)) ∧ H p' = none ∧ Same H H', ?_, ?_⟩
      · rintro σ' H' hz_
        refine hideG fun Gz hGz => ?_
        obtain ⟨p', rfl, hp', hpn, s'⟩ := hz_
        refine hGz ?_
        clear hGz Gz
        refine ⟨nx.length - (seenL cs).length, ?_, ?_, p', numb (refn nx cs), (seenL cs).length, n + 1, rfl, hp', hpn, ?_, numb_numb _, cls_ref hcl hkl hcls, by rw [hcn]; rfl, by omega, hsl, .inr fun hle => ?_, s'⟩
        · show nx.length - (seenL cs).length < nx.length - (many : Int).toNat
          rw [Int.toNat_natCast]
          omega
        · show _ = nx.length - ((seenL cs).length : Int).toNat
          rw [Int.toNat_natCast]
        · rw [numb_len, refn_len hcl, hcl]
        · rw [seen_numb] at hle
          have := refn_stays hcl hnn hle
          rw [this, this]
      · refine ⟨_, rfl, p, _, rfl, SqL.of hp2', hne', fun m2 hm2 hx2 => ⟨_, _, rfl, rfl, ?_⟩⟩
        have em2 := mx m2 hm2 hx2
        try dsimp only
        rw [em2]
        have hps2 := s2 _ _ hps
        refine ⟨_, rfl, _, rfl, p, ps, _, _, rfl, SqB.l hp2', SqB.t hps2, ?_⟩
        refine comp2_zipG (xs := (cs.map fun c : Nat => (c : Int)).map V.int) (ys := bs.map V.ref) (fun i zs H' => ∃ ds : List Addr, zs = ds.map V.ref ∧ ds.length = i ∧ i ≤ nx.length ∧ (∀ (j : Nat) (d : Addr) (kk : Int × List Int), ds[j]? = some d → (refn nx cs)[j]? = some kk → PairAt H' kk d) ∧ Same H2 H') ⟨[], rfl, rfl, Nat.zero_le _, (fun j d kk hd => by cases hd), Same.refl _⟩ ?_ ?_ ?_ ?_
        · rintro i zs H' hz_
          refine hideG fun Gz hGz => ?_
          obtain ⟨ds, rfl, hd, hi, _⟩ := hz_
          refine hGz ?_
          clear hGz Gz
          rw [List.length_map, hd]
          exact Nat.le_of_lt (small1000 (by omega))
        · rintro i zs H' ⟨ds, _, _, _, _, s'⟩
          exact ⟨SqB.l (s' _ _ hp2'), SqB.t (s' _ _ hps2)⟩
        · rintro i x y q zs H3 R hR hx' hy' hz_ hq
          refine hideG fun Gz hGz => ?_
          obtain ⟨ds, rfl, hdl, hi, hpa, s3⟩ := hz_
          refine hGz ?_
          clear hGz Gz
          rw [List.getElem?_map, List.getElem?_map] at hx'
          cases hc : cs[i]? with
          | none => rw [hc] at hx'; cases hx'
          | some c =>
          rw [hc] at hx'
          cases hx'
          rw [List.getElem?_map] at hy'
          obtain ⟨b, hb, rfl⟩ := Option.map_eq_some_iff.mp hy'
          have hil : i < nx.length := by have := (List.getElem?_eq_some_iff.mp hc).1; omega
          have hrow : nx[i]? = some nx[i] := List.getElem?_eq_getElem hil
          have hbr : H b = some (.tup (nrow nx[i])) := hsb i _ b (by rw [List.getElem?_map, hrow]; rfl) hb
          obtain ⟨r8, rlt⟩ := hnx nx[i] (List.getElem_mem hil)
          have sq := same_upd (o := .tup [.int (c : Int), .ref b]) hq
          have s4 := (s2.trans s3).trans sq
          unfold tYes
          try dsimp only
          rw [if_pos rfl]
          refine ⟨_, rfl, _, rfl, _, rfl, b, p, nx[i], cs.map fun c : Nat => (c : Int), rfl, s4 _ _ hbr, (s3.trans sq) _ _ hp2', fun s hs => by rw [List.length_map, hcl]; exact rlt s hs, by omega, by rw [List.length_map]; omega, fun t H5 ht0 ht s5 => ⟨by show 2 ≤ sizeLine; decide, fun d hd => hR _ _ ⟨ds ++ [d], by rw [List.map_append]; rfl, by rw [List.length_append, hdl]; rfl, hil, fun j d' kk hj hkk => ?_, ((s3.trans sq).trans s5).trans (same_upd hd)⟩⟩⟩
          have sd := same_upd (o := .tup [.int (c : Int), .ref t]) hd
          rw [List.getElem?_append] at hj
          split at hj
          · have := hpa j d' kk hj hkk
            exact knP.keep _ _ _ _ (fun b xs e => ((sq.trans s5).trans sd) _ _ e) this
          · rename_i hnl
            have hji : j = i := by
              have := (List.getElem?_eq_some_iff.mp hj).1
              rw [List.length_singleton] at this
              omega
            subst hji
            rw [hdl, Nat.sub_self] at hj
            cases hj
            rw [refn_get hc hrow] at hkk
            cases hkk
            refine ⟨t, upd_same, _, sd _ _ ht, ?_⟩
            rw [List.map_map, List.map_map, List.map_map]
            refine List.map_congr_left fun s _ => ?_
            show some ((cs.map fun c : Nat => (c : Int)).getD s 0) = some ((cs.getD s 0 : Nat) : Int)
            rw [List.getD_eq_getElem?_getD, List.getD_eq_getElem?_getD, List.getElem?_map]
            cases cs[s]? <;> rfl
        · rintro zs H3 hz_ l hl3
          refine hideG fun Gz hGz => ?_
          obtain ⟨ds, rfl, hdl, hi, hpa, s3⟩ := hz_
          refine hGz ?_
          clear hGz Gz
          have hzl : (((cs.map fun c : Nat => (c : Int)).map V.int).zip (bs.map V.ref)).length = nx.length := by
            rw [List.length_zip, List.length_map, List.length_map, List.length_map, hcl, hbs, List.length_map, Nat.min_self]
          rw [hzl] at hdl
          have sl := same_upd (o := .lst (ds.map V.ref)) hl3
          refine ⟨Int × List Int, _, knP, l, ds, refn nx cs, rfl, .inl upd_same, by rw [refn_len hcl]; omega, fun i b kk hb hkk => knP.keep _ _ _ _ (fun b xs e => sl _ _ e) (hpa i b kk hb hkk), by rw [refn_len hcl]; omega, fun p' H6 hp6 hq6 s6 => ?_⟩
          rw [numb_ints] at hq6
          have s26 := (s2.trans s3).trans (sl.trans s6)
          exact ⟨p', rfl, hq6, (s2.trans s3).free (sl.free hp6), s26⟩
    · have hle : (seenL cs).length ≤ many := by
        have : ¬ (many : Int) < m + 1 := fun z => hgt (decide_eq_true z)
        omega
      have hst' := hst.resolve_left (fun z => by
        have : (0 : Int) < m + 1 := by
          obtain ⟨c, _, rfl⟩ := List.mem_map.mp hm
          omega
        omega) hle
      exact ⟨_, rfl, k p cs H2 hpH hp2 hcl hst' hnn hcls (by rw [hcn] at hst' ⊢; exact (cls_stay hst' (by omega)).symm) s2⟩
noncomputable def NmOk (y : Str) : Prop := y.length ≤ 8 ∧ y.cps.toList ≠ [97, 101, 105, 111, 117]
noncomputable instance (y : Str) : Decidable (NmOk y) := inferInstanceAs (Decidable (_ ∧ _))
theorem NmOk.of {y : Str} (h : y.length ≤ 8) {c : Nat} {r : List Nat} (e : y.cps.toList = c :: r) (hc : c ≠ 97) : NmOk y := ⟨h, fun z => by
  rw [e] at z
  injection z with z _
  exact hc z⟩
noncomputable def menuS : List Str := ["x", "y", "ab", "aba", "nots", "adda", "lowly", "z", "orb", "xx", "samer", "pickaxes", "yesx", "subx", "a", "ba"]
theorem menu_ok : ∀ y ∈ menuS, NmOk y := by decide +kernel
noncomputable def sp_law_names (K : PySem.W.Frag) : Sp := fun vs H Q _ => ∃ (cell : Int) (many : Nat), vs = [.int cell, .int (many : Int)] ∧ many ≤ 3 ∧ ∀ p (ys : List Str) H', H p = none → H' p = some (.tup (ys.map V.str)) → ys.length ≤ 3 → (∀ y ∈ ys, NmOk y) → Same H H' → Q (.ref p) H'
theorem base_ok {cs : List Nat} (h1 : 1 ≤ cs.length) (h2 : cs.length ≤ 7) (h3 : ∀ c ∈ cs, c ≠ 97) {y : Str} (e : y.cps.toList = cs ∨ (∃ d, y.cps.toList = cs ++ [d]) ∨ ∃ d j, j < cs.length ∧ d ≠ 97 ∧ y.cps.toList = cs.take j ++ [d] ++ cs.drop (j + 1)) : NmOk y := by
  match cs, h1 with
  | c :: r, _ =>
    have hc := h3 c List.mem_cons_self
    rcases e with e | ⟨d, e⟩ | ⟨d, j, hj, hd, e⟩
    · exact .of (by rw [len_signs, e]; omega) e hc
    · exact .of (by rw [len_signs, e, List.length_append]; show (c :: r).length + 1 ≤ 8; omega) e hc
    · have hl : y.length ≤ 8 := by
        rw [len_signs, e]
        simp only [List.length_append, List.length_take, List.length_drop, List.length_cons, List.length_nil] at *
        omega
      cases j with
      | zero => exact .of hl e hd
      | succ j => exact .of hl e hc
theorem ok_law_names (T : Txt K w mg t) (TB : Tbs mg base t) : FnOk P w K mg base CX0 2 t.a_law_names t.f_law_names ["cell", "many"] (sp_law_names K) := by
  have G_law_numbers : FnOk P w K mg base CX0 1 t.a_law_numbers t.f_law_numbers ["cell", "many", "most"] (sp_law_numbers K) := ok_law_numbers T TB
  refine T.d_law_names.F.ok sc_law_names (fun vs H Q E h => ?_) (fun cdv A outer s H vs Q E hr h => ?_)
  · obtain ⟨cell, many, rfl, hmany, k⟩ := h
    rfl
  · obtain ⟨cell, many, rfl, hmany, k⟩ := h
    have hu := hu_of hr
    refine ⟨_, @QSs.out _ _ _ (qss_cons (qs_set (i := 2) sc_law_names.nd rfl (Or.inr rfl) (qe_callF G_law_numbers (hr.mono (by decide)) rfl T.d_law_numbers.m T.d_law_numbers.F.kp T.d_law_numbers.b .nil pass0 (qa_c (qv 0) (qa_c qe_int (qa_c qe_int qa_nil)))))
        (qss_cons (qs_set (i := 3) sc_law_names.nd rfl (Or.inr rfl) (qe_lst (qa_c qe_str (qa_c qe_str (qa_c qe_str (qa_c qe_str (qa_c qe_str (qa_c qe_str (qa_c qe_str (qa_c qe_str (qa_c qe_str (qa_c qe_str (qa_c qe_str (qa_c qe_str qa_nil))))))))))))))
        (qss_cons (qs_set (i := 3) sc_law_names.nd rfl (Or.inr rfl) (qe_op op_cat (qv 3) (qe_lst (qa_c qe_str (qa_c qe_str (qa_c qe_str (qa_c qe_str qa_nil)))))))
        (qss_cons (qs_setC (i := 4) sc_law_names.nd rfl rfl (⟨by rfl, by decide +kernel, by decide +kernel, by rfl, by decide +kernel, by decide +kernel, by rfl, by decide +kernel⟩ : CompSc (defScope s_law_names) _ ["cell", "many", "xs", "menu", "some", "base", "at", "turn"] "k" ["menu", "xs"] [3, 2]) (qi_rangeF rfl T.z_range (qa_c qe_int qa_nil)) (fun _ _ _ _ => qf_nil) (fun _ _ _ _ => (qe_ix (show IxR _ (rIxL K) from ix_list) (qv 1) (qe_op op_mod (qe_op op_add (qe_ix (show IxR _ (rIxL K) from ix_list) (qv 2) qe_int (fun _ _ => rfl)) (qe_op op_mulB (qv 0) (qe_op op_add qe_int (qe_op op_mod (qe_ix (show IxR _ (rIxL K) from ix_list) (qv 2) qe_int (fun _ _ => rfl)) qe_int)))) qe_int) (fun _ _ => rfl))))
        (qss_cons (qs_if (qt_cmpR op_eq (qe_op op_mod (qe_ix ix_list (qv 2) qe_int (fun _ _ => rfl)) qe_int) qe_int (nomark _))
        (qss_cons (qs_set (i := 5) sc_law_names.nd rfl (Or.inl rfl) (qe_bmF PySem.F.plainAttrs_str PySem.F.slot_str_join PySem.F.type_str_join mt_join qe_str (qa_c (qe_comp (⟨by rfl, by decide +kernel, by decide +kernel, by rfl, by decide +kernel, by decide +kernel, by rfl, by decide +kernel⟩ : CompSc (defScope s_law_names) _ ["cell", "many", "xs", "menu", "some", "base", "at", "turn"] "k" ["xs"] [2]) (qi_rangeF rfl T.z_range (qa_c (qe_op op_add qe_int (qe_op op_mod (qe_ix ix_list (qv 2) qe_int (fun _ _ => rfl)) qe_int)) qa_nil)) (fun _ _ _ _ => qf_nil) (fun _ _ _ _ => (qe_ix ix_str qe_str (qe_op op_mod (qe_ix (show IxR _ (rIxL K) from ix_list) (qv 1) (qe_op op_add qe_int (qv 0)) (fun _ _ => rfl)) qe_int) (fun _ _ => rfl)))) qa_nil)))
        (qss_cons (qs_set (i := 6) sc_law_names.nd rfl (Or.inl rfl) (qe_op op_mod (qe_ix ix_list (qv 2) qe_int (fun _ _ => rfl)) (qe_callBF call_len_str (by rfl) T.z_len bt_len (qa_c (qv 5) qa_nil))))
        (qss_one (qs_set (i := 4) sc_law_names.nd rfl (Or.inl rfl) (qe_lst (qa_c (qv 5) (qa_c (qe_op op_add_str (qv 5) (qe_ix ix_str qe_str (qe_op op_mod (qe_ix ix_list (qv 2) qe_int (fun _ _ => rfl)) qe_int) (fun _ _ => rfl))) (qa_c (qe_op op_add_str (qe_op op_add_str (qe_slice sl_str (qv 5) qo_none (qo_some (qv 6))) (qe_ix ix_str qe_str (qe_op op_mod (qe_ix ix_list (qv 2) qe_int (fun _ _ => rfl)) qe_int) (fun _ _ => rfl))) (qe_slice sl_str (qv 5) (qo_some (qe_op op_add (qv 6) qe_int)) qo_none)) qa_nil)))))))) qss_nil)
        (qss_cons (qs_set (i := 7) sc_law_names.nd rfl (Or.inl rfl) (qe_op op_mod (qe_op op_fdivB (qe_ix ix_list (qv 2) qe_int (fun _ _ => rfl)) qe_int) qe_int))
        (qss_one (qs_ret (qe_callTF call_tuple_of (by rfl) T.z_tuple bt_tuple (qa_c (qe_callBF call_sortedS (by rfl) T.z_sorted bt_sorted (qa_c (qe_slice sl_list (qe_op op_cat (qe_slice sl_list (qv 4) (qo_some (qv 7)) qo_none) (qe_slice sl_list (qv 4) qo_none (qo_some (qv 7)))) qo_none (qo_some (qv 1))) qa_nil)) qa_nil)))))))))), ?_⟩
    clear hu hr
    try dsimp only [L2.cxK, L2.cxK2]
    refine L2.let7 ?_
    intro U6 U5 U4 U3 U2 U1
    refine ⟨_, rfl, cell, 12, 400, rfl, by decide, by decide, by decide, fun p ns H1 hp h1 hl hb s1 => ?_⟩
    have hx : ∀ j, j < 12 → 0 ≤ ns.getD j 0 ∧ ns.getD j 0 < 400 := fun j hj => ints_bd hb j (by omega)
    refine ⟨by show 12 ≤ sizeLine; decide, fun m1 hm1 => ?_⟩
    refine ⟨_, rfl, by show 4 ≤ sizeLine; decide, fun m2 hm2 => ⟨m1, m2, _, _, rfl, rfl, same_upd hm2 _ _ upd_same, upd_same, by show 16 ≤ sizeLine; decide, fun m hm => ?_⟩⟩
    have s4 := ((same_upd (o := .lst [.str "x", .str "y", .str "ab", .str "aba", .str "nots", .str "adda", .str "lowly", .str "z", .str "orb", .str "xx", .str "samer", .str "pickaxes"]) hm1).trans (same_upd (o := .lst [.str "yesx", .str "subx", .str "a", .str "ba"]) hm2)).trans (same_upd (o := .lst (menuS.map V.str)) hm)
    refine ⟨3, rfl, by decide, by decide, comp_rall (n := 3) (fun _ v => ∃ y, v = .str y ∧ NmOk y) (by decide) (fun i hi R hR => ?_) (fun vs hvl hvP q hq => ?_)⟩
    · have e0 : 0 ≤ (ns.getD 1 0 + (0 + (i : Int)) * (1 + ns.getD 2 0 % 5)) % 16 := Int.emod_nonneg _ (by decide)
      have e1 : (ns.getD 1 0 + (0 + (i : Int)) * (1 + ns.getD 2 0 % 5)) % 16 < 16 := Int.emod_lt_of_pos _ (by decide)
      obtain ⟨y, hy, ey⟩ := atI_strs (ys := menuS) e0 e1
      exact ⟨_, rfl, _, rfl, p, _, _, _, rfl, rfl, SqL.of (s4 _ _ h1), atI_ints 1 rfl (by omega), _, rfl, _, rfl, p, _, _, _, rfl, rfl, SqL.of (s4 _ _ h1), atI_ints 2 rfl (by omega), _, _, rfl, rfl, (by show (0 : Int) < 5; decide), _, _, rfl, rfl, _, _, rfl, rfl, .inr (.inl ⟨by omega, by omega⟩), _, _, rfl, rfl, _, _, rfl, rfl, (by show (0 : Int) < 16; decide), m, menuS.map V.str, _, _, rfl, rfl, SqL.of upd_same, ey, hR _ ⟨y, rfl, menu_ok y hy⟩⟩
    obtain ⟨ys, rfl, hys⟩ := strs_of (P := NmOk) (mem_at hvP)
    rw [List.length_map] at hvl
    have s5 := s4.trans (same_upd (o := .lst (ys.map V.str)) hq)
    refine gName_go ?_
    refine nx_join (fun σ H' => ∃ (q : Addr) (ys : List Str) (b a : Option V), σ = [some (.int cell), some (.int many), some (.ref p), some (.ref m), some (.ref q), b, a, none] ∧ H' q = some (.lst (ys.map V.str)) ∧ ys.length = 3 ∧ (∀ y ∈ ys, NmOk y) ∧ Same H1 H') (fun N hN => ?_) ?_
    · refine ⟨_, rfl, p, _, _, _, rfl, rfl, SqL.of (s5 _ _ h1), atI_ints 0 rfl (by omega), _, _, rfl, rfl, (by show (0 : Int) < 2; decide), rfl, _, rfl, ite2 (fun _ => ?_) (fun _ => ?_)⟩
      · have b1 := hx 1 (by decide)
        refine ⟨rfl, _, rfl, p, _, _, _, rfl, rfl, SqL.of (s5 _ _ h1), atI_ints 1 rfl (by omega), _, _, rfl, rfl, (by show (0 : Int) < 7; decide), _, _, rfl, rfl, _, rfl, ?_, ?_, comp_rall (n := (1 + ns.getD 1 0 % 7).toNat) (fun _ v => ∃ y, v = .str y ∧ ∃ c, y = ⟨#[c]⟩ ∧ c ≠ 97) ?_ (fun i hi R hR => ?_) (fun vs hvl hvP l hl2 => ?_)⟩
        · omega
        · omega
        · exact Nat.le_of_lt (small1000 (by omega))
        · obtain ⟨c, hc, ec⟩ := atI_str (z := ("bcdfghjkmpqrtvxz" : Str)) (i := ns.getD (3 + i) 0 % 16) 16 (by decide +kernel) (Int.emod_nonneg _ (by decide)) (Int.emod_lt_of_pos _ (by decide))
          exact ⟨_, rfl, _, rfl, _, _, rfl, rfl, p, _, _, _, rfl, rfl, SqL.of (s5 _ _ h1), atI_ints (3 + i) (by omega) (by omega), _, _, rfl, rfl, (by show (0 : Int) < 16; decide), _, _, c, rfl, rfl, by decide +kernel, ec, hR _ ⟨_, rfl, c, rfl, (show ∀ c ∈ ("bcdfghjkmpqrtvxz" : Str).cps.toList, c ≠ 97 by decide +kernel) c hc⟩⟩
        obtain ⟨zs, rfl, hzs⟩ := strs_of (P := fun y => ∃ c, y = ⟨#[c]⟩ ∧ c ≠ 97) (mem_at hvP)
        rw [List.length_map] at hvl
        obtain ⟨f1, f2, f3⟩ := ones_flat hzs
        have s6 := s5.trans (same_upd (o := .lst (zs.map V.str)) hl2)
        refine ⟨_, l, zs, rfl, rfl, SqL.of upd_same, ?_, ?_⟩
        · rw [f3]
          show zs.length + zs.length * 0 ≤ _
          omega
        have js := join_signs ("" : Str) (by decide +kernel) zs
        rw [← js] at f1 f2
        generalize Txt.join ("" : Str) zs = B at *
        have hB : B.length = zs.length := by rw [len_signs]; exact f1
        refine ⟨_, rfl, p, _, _, _, rfl, rfl, SqL.of (s6 _ _ h1), atI_ints 2 rfl (by omega), _, rfl, B, rfl, Nat.le_of_lt (small1000 (by omega)), _, _, rfl, rfl, (by show (0 : Int) < B.length; omega), ?_⟩
        dsimp only
        have a0 : 0 ≤ ns.getD 2 0 % (B.length : Int) := Int.emod_nonneg _ (by omega)
        have a1 : ns.getD 2 0 % (B.length : Int) < B.length := Int.emod_lt_of_pos _ (by omega)
        generalize ns.getD 2 0 % (B.length : Int) = a at *
        obtain ⟨j, rfl⟩ : ∃ j : Nat, a = (j : Int) := ⟨a.toNat, by omega⟩
        obtain ⟨c1, hc1, ec1⟩ := atI_str (z := ("bcdfghjkmpqrtvxz" : Str)) (i := ns.getD 10 0 % 16) 16 (by decide +kernel) (Int.emod_nonneg _ (by decide)) (Int.emod_lt_of_pos _ (by decide))
        obtain ⟨c2, hc2, ec2⟩ := atI_str (z := ("lnsw" : Str)) (i := ns.getD 11 0 % 4) 4 (by decide +kernel) (Int.emod_nonneg _ (by decide)) (Int.emod_lt_of_pos _ (by decide))
        have hs1 : (Txt.slice B none (some (j : Int))).cps.toList = B.cps.toList.take j := slice_to (by omega)
        have hs2 : (Txt.slice B (some ((j : Int) + 1)) none).cps.toList = B.cps.toList.drop (j + 1) := slice_from (i := j + 1) (by omega)
        have l1 := Txt.slice_le B none (some (j : Int))
        have l2 := Txt.slice_le B (some ((j : Int) + 1)) none
        have one : ∀ c : Nat, (⟨#[c]⟩ : Str).length = 1 := fun _ => rfl
        refine ⟨_, rfl, _, rfl, _, rfl, p, _, _, _, rfl, rfl, SqL.of (s6 _ _ h1), atI_ints 10 rfl (by omega), _, _, rfl, rfl, (by show (0 : Int) < 16; decide), _, _, c1, rfl, rfl, by decide +kernel, ec1, _, _, rfl, rfl, ?_, ?_⟩
        · rw [one]
          exact Nat.le_of_lt (small1000 (by omega))
        refine ⟨_, rfl, _, rfl, _, rfl, _, rfl, Nat.le_of_lt (small1000 (by omega)), _, rfl, p, _, _, _, rfl, rfl, SqL.of (s6 _ _ h1), atI_ints 11 rfl (by omega), _, _, rfl, rfl, (by show (0 : Int) < 4; decide), _, _, c2, rfl, rfl, by decide +kernel, ec2, _, _, rfl, rfl, ?_, ?_⟩
        · rw [one]
          exact Nat.le_of_lt (small1000 (by omega))
        refine ⟨_, rfl, _, rfl, _, _, rfl, rfl, _, rfl, _, rfl, Nat.le_of_lt (small1000 (by omega)), _, _, rfl, rfl, ?_, by show 3 ≤ sizeLine; decide, fun g hg => ?_⟩
        · rw [Str.length_append, one]
          exact Nat.le_of_lt (small1000 (by omega))
        refine hN _ _ ⟨g, [B, B ++ ⟨#[c1]⟩, Txt.slice B none (some (j : Int)) ++ ⟨#[c2]⟩ ++ Txt.slice B (some ((j : Int) + 1)) none], _, _, rfl, upd_same, rfl, ?_, s6.trans (same_upd hg)⟩
        have ok := @base_ok B.cps.toList (by rw [← len_signs]; omega) (by rw [← len_signs]; omega) f2
        intro y hy
        simp only [List.mem_cons, List.not_mem_nil, or_false] at hy
        rcases hy with rfl | rfl | rfl
        · exact ok (.inl rfl)
        · exact ok (.inr (.inl ⟨c1, app_signs _ _⟩))
        · exact ok (.inr (.inr ⟨c2, j, by rw [← len_signs]; omega, (show ∀ c ∈ ("lnsw" : Str).cps.toList, c ≠ 97 by decide +kernel) c2 hc2, by rw [app_signs, app_signs, hs1, hs2]⟩))
      · exact hN _ _ ⟨q, ys, none, none, rfl, upd_same, hvl, hys, s5⟩
    rintro σ H' hz_
    refine hideG fun Gz hGz => ?_
    obtain ⟨q, ys, b, a, rfl, hq, hl3, hys, s6⟩ := hz_
    refine hGz ?_
    clear hGz Gz
    refine ⟨_, rfl, p, _, _, _, rfl, rfl, SqL.of (s6 _ _ h1), atI_ints 0 rfl (by omega), _, _, rfl, rfl, .of (by decide) (by decide), _, _, rfl, rfl, (by show (0 : Int) < 3; decide), ?_⟩
    dsimp only
    have t0 : 0 ≤ ns.getD 0 0 / 2 % 3 := by omega
    generalize ns.getD 0 0 / 2 % 3 = t at *
    obtain ⟨t, rfl⟩ : ∃ j : Nat, t = (j : Int) := ⟨t.toNat, by omega⟩
    refine ⟨_, rfl, _, rfl, _, rfl, q, _, rfl, SqL.of hq, fun l1 hl1 => ?_⟩
    rw [cutV_map, cutL_from]
    have u1 := same_upd (o := .lst ((ys.drop t).map V.str)) hl1
    refine ⟨_, rfl, _, rfl, _, rfl, q, _, rfl, SqL.of (u1 _ _ hq), fun l2 hl2 => ?_⟩
    rw [cutV_map, cutL_upto]
    have u2 := same_upd (o := .lst ((ys.take t).map V.str)) hl2
    refine ⟨l1, l2, _, _, rfl, rfl, u2 _ _ upd_same, upd_same, ?_, fun l3 hl3' => ?_⟩
    · rw [List.length_map, List.length_map, List.length_drop, List.length_take]
      exact Nat.le_of_lt (small1000 (by omega))
    rw [← List.map_append]
    have u3 := same_upd (o := .lst ((ys.drop t ++ ys.take t).map V.str)) hl3'
    refine ⟨_, rfl, _, rfl, l3, _, rfl, SqL.of upd_same, fun l4 hl4 => ?_⟩
    rw [cutV_map, cutL_upto]
    have u4 := same_upd (o := .lst (((ys.drop t ++ ys.take t).take many).map V.str)) hl4
    refine ⟨l4, _, rfl, SqL.of upd_same, ?_, fun l5 ms hl5 hpm hsr => ⟨l5, _, rfl, .inl ⟨SqL.of upd_same, fun l6 hl6 => ?_⟩⟩⟩
    · rw [List.length_take]
      omega
    have u5 := same_upd (o := .lst (ms.map V.str)) hl5
    have u := s1.trans (s6.trans (((u1.trans u2).trans (u3.trans u4)).trans u5))
    refine k l6 ms _ (u.free hl6) upd_same ?_ ?_ (u.trans (same_upd hl6))
    · rw [hpm.length_eq, List.length_take]
      omega
    · intro y hy
      have := List.mem_of_mem_take (hpm.mem_iff.mp hy)
      rcases List.mem_append.mp this with z | z
      · exact hys y (List.mem_of_mem_drop z)
      · exact hys y (List.mem_of_mem_take z)
noncomputable def sp_law_machine (K : PySem.W.Frag) : Sp := fun vs H Q _ => ∃ (cell rows : Int) (nm : Addr) (ys : List Str) (S : Nat) (tr : Bool), vs = [.int cell, .int rows, .ref nm, .int (S : Int), .bl tr] ∧ H nm = some (.tup (ys.map V.str)) ∧ 1 ≤ S ∧ S ≤ 100 ∧ ys.length ≤ 3 ∧
  ∀ m b nx ot H', H m = none → M4 H' m ys b nx ot → Wf ys b nx ot tr → nx.length = S → Same H H' → Q (.ref m) H'
theorem rowsE_of {H : Hp} {t : Addr} {S : Nat} {f : Nat → List V} {as : List V} (ht : H t = some (.tup as)) (h2 : as.length = S) (h3 : ∀ s, s < S → ∃ a, as[s]? = some (.ref a) ∧ H a = some (.tup (f s))) : RowsE H t ((List.range S).map f) := by
  refine ⟨as, ht, by rw [List.length_map, List.length_range, h2], fun i r hr => ?_⟩
  rw [List.getElem?_map] at hr
  obtain ⟨s, hs, rfl⟩ := Option.map_eq_some_iff.mp hr
  obtain ⟨l, e⟩ := List.getElem?_eq_some_iff.mp hs
  rw [List.getElem_range] at e
  subst e
  rw [List.length_range] at l
  exact h3 i l
theorem rowOf_len {ns : List Int} {L s S : Nat} (hn : ns.length = S * L) (hs : s < S) : (rowOf ns L s).length = L := by
  have h1 : s * L + L ≤ S * L := by
    have := Nat.mul_le_mul_right L (show s + 1 ≤ S from hs)
    rw [Nat.succ_mul] at this
    exact this
  unfold rowOf
  rw [List.length_take, List.length_drop]
  omega
theorem ok_law_machine (T : Txt K w mg t) (TB : Tbs mg base t) : FnOk P w K mg base CX0 2 t.a_law_machine t.f_law_machine ["cell", "rows", "names", "states", "truths"] (sp_law_machine K) := by
  have G_law_numbers : FnOk P w K mg base CX0 1 t.a_law_numbers t.f_law_numbers ["cell", "many", "most"] (sp_law_numbers K) := ok_law_numbers T TB
  refine T.d_law_machine.F.ok sc_law_machine (fun vs H Q E h => ?_) (fun cdv A outer s H vs Q E hr h => ?_)
  · obtain ⟨cell, rows, nm, ys, S, tr, rfl, hn, hS1, hS2, hy3, k⟩ := h
    rfl
  · obtain ⟨cell, rows, nm, ys, S, tr, rfl, hn, hS1, hS2, hy3, k⟩ := h
    have hu := hu_of hr
    refine ⟨_, @QSs.out _ _ _ (qss_cons (qs_set (i := 5) sc_law_machine.nd rfl (Or.inl rfl) (qe_op op_shl qe_int (qe_callBF call_len_seq (by rfl) T.z_len bt_len (qa_c (qv 2) qa_nil))))
        (qss_cons (qs_set (i := 6) sc_law_machine.nd rfl (Or.inl rfl) (qe_callF G_law_numbers (hr.mono (by decide)) rfl T.d_law_numbers.m T.d_law_numbers.F.kp T.d_law_numbers.b .nil pass0 (qa_c (qv 1) (qa_c (qe_op op_mulB (qv 3) (qv 5)) (qa_c (qe_op op_mulB qe_int (qv 3)) qa_nil)))))
        (qss_cons (qs_set (i := 7) sc_law_machine.nd rfl (Or.inl rfl) (qe_lst qa_nil))
        (qss_cons (qs_set (i := 8) sc_law_machine.nd rfl (Or.inl rfl) (qe_lst qa_nil))
        (qss_cons (qs_for PassesOwn.never rfl (qi_rangeF rfl T.z_range (qa_c (qv 3) qa_nil)) (qg_name (i := 9) sc_law_machine.nd rfl (Or.inl rfl))
        (qss_cons (qs_set (i := 10) sc_law_machine.nd rfl (Or.inl rfl) (qe_slice sl_list (qv 6) (qo_some (qe_op op_mulB (qv 9) (qv 5))) (qo_some (qe_op op_mulB (qe_op op_add (qv 9) qe_int) (qv 5)))))
        (qss_cons (qs_expr (qe_bmF PySem.F.plainAttrs_list PySem.F.slot_list_append PySem.F.type_list_append mt_append (qv 7) (qa_c (qe_callTF call_tuple_of (by rfl) T.z_tuple bt_tuple (qa_c (qe_comp (⟨by rfl, by decide +kernel, by decide +kernel, by rfl, by decide +kernel, by decide +kernel, by rfl, by decide +kernel⟩ : CompSc (defScope s_law_machine) _ ["cell", "rows", "names", "states", "truths", "letters", "xs", "nexts", "out", "k", "some"] "x" ["states"] [3]) (qi_list (qv 10)) (fun _ _ _ _ => qf_nil) (fun _ _ _ _ => (qe_op op_mod (qv 0) (qv 1)))) qa_nil)) qa_nil)))
        (qss_one (qs_if (qt_val (qv 4))
        (qss_one (qs_expr (qe_bmF PySem.F.plainAttrs_list PySem.F.slot_list_append PySem.F.type_list_append mt_append (qv 8) (qa_c (qe_callTF call_tuple_of (by rfl) T.z_tuple bt_tuple (qa_c (qe_comp (⟨by rfl, by decide +kernel, by decide +kernel, by rfl, by decide +kernel, by decide +kernel, by rfl, by decide +kernel⟩ : CompSc (defScope s_law_machine) _ ["cell", "rows", "names", "states", "truths", "letters", "xs", "nexts", "out", "k", "some"] "x" ["states"] [3]) (qi_list (qv 10)) (fun _ _ _ _ => qf_nil) (fun _ _ _ _ => (qe_cmpR op_eq (qe_op op_mod (qe_op op_fdivB (qv 0) (qv 1)) qe_int) qe_int (nomark _)))) qa_nil)) qa_nil)))) (qss_one (qs_expr (qe_bmF PySem.F.plainAttrs_list PySem.F.slot_list_append PySem.F.type_list_append mt_append (qv 8) (qa_c (qe_callTF call_tuple_of (by rfl) T.z_tuple bt_tuple (qa_c (qe_comp (⟨by rfl, by decide +kernel, by decide +kernel, by rfl, by decide +kernel, by decide +kernel, by rfl, by decide +kernel⟩ : CompSc (defScope s_law_machine) _ ["cell", "rows", "names", "states", "truths", "letters", "xs", "nexts", "out", "k", "some"] "x" ["states"] [3]) (qi_list (qv 10)) (fun _ _ _ _ => qf_nil) (fun _ _ _ _ => (qe_op op_mod (qe_op op_fdivB (qv 0) (qv 1)) qe_int))) qa_nil)) qa_nil)))))))))
        (qss_one (qs_ret (qe_tup (qa_c (qv 2) (qa_c (qe_op op_mod (qv 0) (qv 3)) (qa_c (qe_callTF call_tuple_of (by rfl) T.z_tuple bt_tuple (qa_c (qv 7) qa_nil)) (qa_c (qe_callTF call_tuple_of (by rfl) T.z_tuple bt_tuple (qa_c (qv 8) qa_nil)) qa_nil)))))))))))), ?_⟩
    clear hu
    try dsimp only [L2.cxK, L2.cxK2]
    refine L2.let6 ?_
    intro U5 U4 U3 U2 U1
    refine ⟨_, rfl, nm, _, rfl, .inr (SqT.of hn), _, _, rfl, rfl, ⟨Int.natCast_nonneg _, by rw [List.length_map]; omega, by decide⟩, ?_⟩
    dsimp only
    have eL : (1 : Int) * 2 ^ ((ys.map V.str).length : Int).toNat = ((2 ^ ys.length : Nat) : Int) := by
      rw [Int.one_mul, Int.toNat_natCast, List.length_map, Int.natCast_pow]
      rfl
    rw [eL]
    have hL8 : 2 ^ ys.length ≤ 2 ^ 3 := Nat.pow_le_pow_right (by decide) hy3
    generalize hLe : 2 ^ ys.length = L at *
    have hL : L ≤ 8 := hL8
    have hSL : S * L ≤ 1000 := Nat.le_trans (Nat.mul_le_mul hS2 hL) (by decide)
    refine ⟨_, rfl, _, rfl, _, rfl, _, _, rfl, rfl, .inr (.inl ⟨by omega, by omega⟩), _, rfl, _, _, rfl, rfl, .inr (.inl ⟨by decide, by decide⟩), rows, S * L, 2 * S, ?_, hSL, by omega, by omega, fun p ns H1 hp h1 hl hb s1 => ?_⟩
    · show [V.int rows, V.int ((S : Int) * (L : Int)), V.int (2 * (S : Int))] = [V.int rows, V.int ((S * L : Nat) : Int), V.int ((2 * S : Nat) : Int)]
      rw [Int.natCast_mul, Int.natCast_mul]
      rfl
    refine ⟨by show 0 ≤ sizeLine; decide, fun pn hpn => ?_⟩
    refine ⟨by show 0 ≤ sizeLine; decide, fun po hpo => ?_⟩
    have v1 := same_upd (o := .lst []) hpn
    have v2 := same_upd (o := .lst []) hpo
    have hne : pn ≠ po := ne_of_none (v1.trans v2 |> fun _ => upd_same) hpo
    have gN : ∀ (x : Int), fI (fun x => V.int (x % (S : Int))) (.int x) = .int (x % (S : Int)) := fun _ => rfl
    refine ⟨_, rfl, (S : Int), rfl, by omega, by omega, for_range (fun i σ H2 => ∃ u9 u10, σ = [some (.int cell), some (.int rows), some (.ref nm), some (.int S), some (.bl tr), some (.int L), some (.ref p), some (.ref pn), some (.ref po), u9, u10] ∧ RowsSo H2 pn i (fun s => (rowOf ns L s).map fun x => V.int (x % (S : Int))) ∧ RowsSo H2 po i (fun s => (rowOf ns L s).map fun x => if tr = true then V.bl (decide (V.int (x / (S : Int) % 2) = V.int 1)) else V.int (x / (S : Int) % 2)) ∧ Same H1 H2 ∧ i ≤ S) ⟨none, none, rfl, ⟨[], v2 _ _ upd_same, rfl, fun s h => absurd h (Nat.not_lt_zero _)⟩, ⟨[], upd_same, rfl, fun s h => absurd h (Nat.not_lt_zero _)⟩, v1.trans v2, Nat.zero_le _⟩ ?_ ?_⟩
    · rintro i σ H2 hi hz_
      refine hideG fun Gz hGz => ?_
      obtain ⟨u9, u10, rfl, RN, RO, s2, hi2⟩ := hz_
      refine hGz ?_
      clear hGz Gz
      rw [Int.toNat_natCast] at hi
      have hp2 : H2 p = some (.lst (ns.map V.int)) := s2 _ _ h1
      refine ⟨_, rfl, _, rfl, _, rfl, _, _, rfl, rfl, .inr (.inr ⟨by omega, by omega⟩), _, rfl, _, rfl, _, _, rfl, rfl, _, rfl, _, _, rfl, rfl, .inr (.inr ⟨by omega, by omega⟩), _, rfl, p, _, rfl, SqL.of hp2, fun l hl2 => ?_⟩
      dsimp only
      rw [cut_row hl hi]
      have w1 := same_upd (o := .lst ((rowOf ns L i).map V.int)) hl2
      have rl : (rowOf ns L i).length ≤ L := by
        unfold rowOf
        rw [List.length_take]
        omega
      have rz : ((rowOf ns L i).map V.int).length ≤ sizeLine := by
        rw [List.length_map]
        exact Nat.le_of_lt (small1000 (by omega))
      obtain ⟨as, n1, n2, n3⟩ := (RN.same w1).ex
      refine ⟨_, rfl, .inl ⟨rfl, _, SqL.of n1⟩, _, rfl, l, rfl, ⟨_, SqL.of upd_same⟩, comp_map (fI fun x => V.int (x % (S : Int))) (SqL.of upd_same) rz (fun v hv R hR => ?_) (fun l2 hl3 => ?_)⟩
      · obtain ⟨x, _, rfl⟩ := List.mem_map.mp hv
        exact ⟨_, rfl, _, rfl, _, _, rfl, rfl, (by show (0 : Int) < S; omega), hR⟩
      rw [map_fI]
      have w2 := same_upd (o := .lst ((rowOf ns L i).map fun x => V.int (x % (S : Int)))) hl3
      refine ⟨l2, _, rfl, .inl ⟨SqL.of upd_same, fun l3 hl4 => ?_⟩⟩
      have w3 := same_upd (o := .tup ((rowOf ns L i).map fun x => V.int (x % (S : Int)))) hl4
      have w23 := w2.trans w3
      have n1' := w23 _ _ n1
      have pnl : l ≠ pn := (ne_of_none ((RN.ex.choose_spec).1) hl2).symm
      refine ⟨pn, _, _, rfl, rfl, n1', ?_, ?_⟩
      · rw [n2]
        exact small1000 (by omega)
      have RN' := RowsSo.more n1' n2 (fun s hs => let ⟨a, g1, g2⟩ := n3 s hs; ⟨a, g1, w23 _ _ g2⟩) (f := fun s => (rowOf ns L s).map fun x => V.int (x % (S : Int))) upd_same
      have RO' := (RO.same (w1.trans w23)).other n1' hne.symm (ys := as ++ [.ref l3])
      have hl' : (upd (upd (upd (upd H2 l (.lst ((rowOf ns L i).map V.int))) l2 (.lst ((rowOf ns L i).map fun x => V.int (x % (S : Int))))) l3 (.tup ((rowOf ns L i).map fun x => V.int (x % (S : Int))))) pn (.lst (as ++ [.ref l3]))) l = some (.lst ((rowOf ns L i).map V.int)) := by
        rw [upd_ne pnl]
        exact w23 _ _ upd_same
      have s5 : Same H1 (upd (upd (upd (upd H2 l (.lst ((rowOf ns L i).map V.int))) l2 (.lst ((rowOf ns L i).map fun x => V.int (x % (S : Int))))) l3 (.tup ((rowOf ns L i).map fun x => V.int (x % (S : Int))))) pn (.lst (as ++ [.ref l3]))) := same_put (s2.trans (w1.trans w23)) hpn
      generalize upd (upd (upd (upd H2 l (.lst ((rowOf ns L i).map V.int))) l2 (.lst ((rowOf ns L i).map fun x => V.int (x % (S : Int))))) l3 (.tup ((rowOf ns L i).map fun x => V.int (x % (S : Int))))) pn (.lst (as ++ [.ref l3])) = H5 at *
      obtain ⟨bs, o1, o2, o3⟩ := RO'.ex
      have hpo1 : H1 po = none := v1.free hpo
      cases tr with
      | true =>
        refine ⟨_, rfl, true, rfl, iteT ?_⟩
        refine ⟨_, rfl, .inl ⟨rfl, _, SqL.of o1⟩, _, rfl, l, rfl, ⟨_, SqL.of hl'⟩, comp_map (fI fun x => V.bl (decide (V.int (x / (S : Int) % 2) = V.int 1))) (SqL.of hl') rz (fun v hv R hR => ?_) (fun l6 hl6 => ?_)⟩
        · obtain ⟨x, _, rfl⟩ := List.mem_map.mp hv
          exact ⟨_, rfl, _, rfl, _, _, rfl, rfl, .of (by omega) (by omega), _, _, rfl, rfl, (by show (0 : Int) < 2; decide), rfl, hR⟩
        rw [map_fI]
        have x1 := same_upd (o := .lst ((rowOf ns L i).map fun x => V.bl (decide (V.int (x / (S : Int) % 2) = V.int 1)))) hl6
        refine ⟨l6, _, rfl, .inl ⟨SqL.of upd_same, fun l7 hl7 => ?_⟩⟩
        have x2 := same_upd (o := .tup ((rowOf ns L i).map fun x => V.bl (decide (V.int (x / (S : Int) % 2) = V.int 1)))) hl7
        have x12 := x1.trans x2
        refine ⟨po, _, _, rfl, rfl, x12 _ _ o1, ?_, _, _, rfl, ?_, ?_, same_put (s5.trans x12) hpo1, hi⟩
        · rw [o2]
          exact small1000 (by omega)
        · exact (RN'.same x12).other (x12 _ _ o1) hne
        · exact RowsSo.more (x12 _ _ o1) o2 (fun s hs => let ⟨a, g1, g2⟩ := o3 s hs; ⟨a, g1, x12 _ _ g2⟩) upd_same
      | false =>
        refine ⟨_, rfl, false, rfl, iteF ?_⟩
        refine ⟨_, rfl, .inl ⟨rfl, _, SqL.of o1⟩, _, rfl, l, rfl, ⟨_, SqL.of hl'⟩, comp_map (fI fun x => V.int (x / (S : Int) % 2)) (SqL.of hl') rz (fun v hv R hR => ?_) (fun l6 hl6 => ?_)⟩
        · obtain ⟨x, _, rfl⟩ := List.mem_map.mp hv
          exact ⟨_, rfl, _, rfl, _, _, rfl, rfl, .of (by omega) (by omega), _, _, rfl, rfl, (by show (0 : Int) < 2; decide), hR⟩
        rw [map_fI]
        have x1 := same_upd (o := .lst ((rowOf ns L i).map fun x => V.int (x / (S : Int) % 2))) hl6
        refine ⟨l6, _, rfl, .inl ⟨SqL.of upd_same, fun l7 hl7 => ?_⟩⟩
        have x2 := same_upd (o := .tup ((rowOf ns L i).map fun x => V.int (x / (S : Int) % 2))) hl7
        have x12 := x1.trans x2
        refine ⟨po, _, _, rfl, rfl, x12 _ _ o1, ?_, _, _, rfl, ?_, ?_, same_put (s5.trans x12) hpo1, hi⟩
        · rw [o2]
          exact small1000 (by omega)
        · exact (RN'.same x12).other (x12 _ _ o1) hne
        · exact RowsSo.more (x12 _ _ o1) o2 (fun s hs => let ⟨a, g1, g2⟩ := o3 s hs; ⟨a, g1, x12 _ _ g2⟩) upd_same
    · rintro σ H2 hz_
      refine hideG fun Gz hGz => ?_
      obtain ⟨u9, u10, rfl, RN, RO, s2, hi2⟩ := hz_
      refine hGz ?_
      clear hGz Gz
      rw [Int.toNat_natCast] at RN RO
      obtain ⟨as, n1, n2, n3⟩ := RN.ex
      obtain ⟨bs, o1, o2, o3⟩ := RO.ex
      have b0 : 0 ≤ cell % (S : Int) := Int.emod_nonneg _ (by omega)
      have b1 : cell % (S : Int) < S := Int.emod_lt_of_pos _ (by omega)
      refine ⟨_, rfl, _, rfl, _, rfl, _, _, rfl, rfl, (by show (0 : Int) < S; omega), _, rfl, pn, _, rfl, .inl ⟨SqL.of n1, fun t1 ht1 => ?_⟩⟩
      have x1 := same_upd (o := .tup as) ht1
      refine ⟨_, rfl, po, _, rfl, .inl ⟨SqL.of (x1 _ _ o1), fun t2 ht2 => ?_⟩⟩
      have x2 := same_upd (o := .tup bs) ht2
      refine ⟨by show 4 ≤ sizeLine; decide, fun m hm => ?_⟩
      dsimp only
      generalize cell % (S : Int) = b at *
      obtain ⟨b, rfl⟩ : ∃ j : Nat, b = (j : Int) := ⟨b.toNat, by omega⟩
      have x3 := same_upd (o := .tup [.ref nm, .int (b : Int), .ref t1, .ref t2]) hm
      have x := (x1.trans x2).trans x3
      have e : ∀ x : Int, 0 ≤ x % (S : Int) ∧ x % (S : Int) < S := fun x => ⟨Int.emod_nonneg _ (by omega), Int.emod_lt_of_pos _ (by omega)⟩
      have RE1 := rowsE_of ((x2.trans x3) _ _ (upd_same (a := t1))) n2 (fun s hs => let ⟨a, g1, g2⟩ := n3 s hs; ⟨a, g1, x _ _ g2⟩)
      have RE2 := rowsE_of (x3 _ _ (upd_same (a := t2))) o2 (fun s hs => let ⟨a, g1, g2⟩ := o3 s hs; ⟨a, g1, x _ _ g2⟩)
      refine k m b ((List.range S).map fun s => (rowOf ns L s).map fun x => (x % (S : Int)).toNat) _ _ ((s1.trans (s2.trans (x1.trans x2))).free hm) ⟨⟨nm, t1, t2, upd_same, (s1.trans (s2.trans x)) _ _ hn, ?_, RE2⟩⟩ ⟨hy3, ?_, ?_, ?_, ?_, ?_, ?_, ?_, ?_⟩ ?_ (s1.trans (s2.trans x))
      · have em : ((List.range S).map fun s => (rowOf ns L s).map fun x => (x % (S : Int)).toNat).map nrow = (List.range S).map fun s => (rowOf ns L s).map fun x => V.int (x % (S : Int)) := by
          rw [List.map_map]
          refine List.map_congr_left fun s _ => ?_
          show ((rowOf ns L s).map fun x => (x % (S : Int)).toNat).map natV = _
          rw [List.map_map]
          refine List.map_congr_left fun x _ => ?_
          show V.int _ = V.int _
          rw [Int.toNat_of_nonneg (e x).1]
        rw [em]
        exact RE1
      · rw [List.length_map, List.length_range]
        omega
      · rw [List.length_map, List.length_range]
        omega
      · rw [List.length_map, List.length_map]
      · intro r hr
        obtain ⟨s, hs, rfl⟩ := List.mem_map.mp hr
        rw [List.length_map, rowOf_len hl (List.mem_range.mp hs), hLe]
      · intro r hr v hv
        obtain ⟨s, hs, rfl⟩ := List.mem_map.mp hr
        obtain ⟨x, _, rfl⟩ := List.mem_map.mp hv
        rw [List.length_map, List.length_range]
        have := e x
        omega
      · intro r hr
        obtain ⟨s, hs, rfl⟩ := List.mem_map.mp hr
        rw [List.length_map, rowOf_len hl (List.mem_range.mp hs), hLe]
      · intro r hr v hv
        obtain ⟨s, hs, rfl⟩ := List.mem_map.mp hr
        obtain ⟨x, _, rfl⟩ := List.mem_map.mp hv
        cases tr with
        | true => exact .inl ⟨rfl, _, rfl⟩
        | false => exact .inr ⟨rfl, _, rfl⟩
      · intro r hr v hv
        obtain ⟨s, hs, rfl⟩ := List.mem_map.mp hr
        obtain ⟨x, _, rfl⟩ := List.mem_map.mp hv
        have h2 : x / (S : Int) % 2 = 0 ∨ x / (S : Int) % 2 = 1 := by omega
        cases tr with
        | true =>
          rw [if_pos rfl]
          rcases h2 with h | h <;> rw [h]
          · exact .inl rfl
          · exact .inr rfl
        | false =>
          rw [if_neg (by decide)]
          rcases h2 with h | h <;> rw [h]
          · exact .inl rfl
          · exact .inr rfl
      · rw [List.length_map, List.length_range]
noncomputable def sp_law_apart (K : PySem.W.Frag) : Sp := fun vs H Q _ => ∃ (m : Addr) (nm : List Str) (b : Nat) (nx : List (List Nat)) (ot : List (List V)) (tr : Bool), vs = [.ref m] ∧ M4 H m nm b nx ot ∧ Wf nm b nx ot tr ∧ (clsN nx (kosF ot) nx.length).Nodup ∧ ∀ H', Same H H' → Q (.bl true) H'
theorem ok_law_apart (T : Txt K w mg t) (TB : Tbs mg base t) : FnOk P w K mg base CX0 2 t.a_law_apart t.f_law_apart ["machine"] (sp_law_apart K) := by
  have G_law_marked : FnOk P w K mg base CX0 1 t.a_law_marked t.f_law_marked ["rows"] (sp_law_marked K) := ok_law_marked T TB
  refine T.d_law_apart.F.ok sc_law_apart (fun vs H Q E h => ?_) (fun cdv A outer s H vs Q E hr h => ?_)
  · obtain ⟨m, nm, b, nx, ot, tr, rfl, M, W, hnd, k⟩ := h
    rfl
  · obtain ⟨m, nm, b, nx, ot, tr, rfl, M, W, hnd, k⟩ := h
    have hu := hu_of hr
    refine ⟨_, @QSs.out _ _ _ (qss_cons (qs_set (i := 1) sc_law_apart.nd rfl (Or.inr rfl) (qe_callF G_law_marked (hr.mono (by decide)) rfl T.d_law_marked.m T.d_law_marked.F.kp T.d_law_marked.b .nil pass0 (qa_c (qe_ix ix_tup (qv 0) qe_int (fun _ _ => rfl)) qa_nil)))
        (qss_cons (qs_for PassesOwn.never rfl (qi_rangeF rfl T.z_range (qa_c (qe_callBF call_len_seq (by rfl) T.z_len bt_len (qa_c (qe_ix ix_tup (qv 0) qe_int (fun _ _ => rfl)) qa_nil)) qa_nil)) (qg_name (i := 2) sc_law_apart.nd rfl (Or.inl rfl))
        (qss_cons (qs_set (i := 3) sc_law_apart.nd rfl (Or.inl rfl) (qe_lst qa_nil))
        (qss_cons (qs_for PassesOwn.never rfl (qi_rangeF rfl T.z_range (qa_c (qe_callBF call_len_seq (by rfl) T.z_len bt_len (qa_c (qv 1) qa_nil)) qa_nil)) (qg_name (i := 4) sc_law_apart.nd rfl (Or.inl rfl))
        (qss_one (qs_expr (qe_bmF PySem.F.plainAttrs_list PySem.F.slot_list_append PySem.F.type_list_append mt_append (qv 3) (qa_c (qe_tup (qa_c (qe_ix ix_list (qv 1) (qv 4) (fun _ _ => rfl)) (qa_c (qe_callTF call_tuple_of (by rfl) T.z_tuple bt_tuple (qa_c (qe_comp (⟨by rfl, by decide +kernel, by decide +kernel, by rfl, by decide +kernel, by decide +kernel, by rfl, by decide +kernel⟩ : CompSc (defScope s_law_apart) _ ["machine", "marks", "turn", "rows", "k"] "state" ["marks"] [1]) (qi_tup (qe_ix ix_tup (qe_ix ix_tup (qv 0) qe_int (fun _ _ => rfl)) (qv 4) (fun _ _ => rfl))) (fun _ _ _ _ => qf_nil) (fun _ _ _ _ => (qe_ix (show IxR _ (rIxL K) from ix_list) (qv 1) (qv 0) (fun _ _ => rfl)))) qa_nil)) qa_nil))) qa_nil)))))
        (qss_one (qs_set (i := 1) sc_law_apart.nd rfl (Or.inr rfl) (qe_callF G_law_marked (hr.mono (by decide)) rfl T.d_law_marked.m T.d_law_marked.F.kp T.d_law_marked.b .nil pass0 (qa_c (qv 3) qa_nil)))))))
        (qss_one (qs_ret (qe_cmpR op_eq (qe_callBF call_lenI (by rfl) T.z_len bt_len (qa_c (qe_callTF (call_setI rfl) (by rfl) T.z_set bt_set (qa_c (qv 1) qa_nil)) qa_nil)) (qe_callBF call_len_seq (by rfl) T.z_len bt_len (qa_c (qv 1) qa_nil)) (nomark _)))))), ?_⟩
    clear hu hr
    try dsimp only [L2.cxK, L2.cxK2]
    refine L2.let3 ?_
    intro U2 U1
    refine hideG fun Gz hGz => ?_
    obtain ⟨pn, ps, po, hm, hn, Rs, Ro⟩ := M.ex
    refine hGz ?_
    clear hGz Gz
    obtain ⟨bo, hpo, hbo, hob⟩ := rows_refs Ro
    obtain ⟨bs, hps, hbs, hsb⟩ := rows_refs Rs
    have hk := kosF_wf W
    have hol := W.ol
    have hle := W.le
    have hkl : (kosF ot).length = nx.length := by rw [kosF_len, W.ol]
    refine ⟨_, rfl, m, _, 3, _, rfl, rfl, SqT.of hm, rfl, List Int, _, knT, po, bo, kosF ot, rfl, .inr hpo, by omega, fun i b kk hb hkk => ?_, by omega, fun p0 H1 hp0 hp1 s1 => ?_⟩
    · have hi : i < ot.length := by have := (List.getElem?_eq_some_iff.mp hb).1; omega
      refine ⟨_, hob i _ b (List.getElem?_eq_getElem hi) hb, ?_⟩
      have e := congrArg (fun l => l[i]?) hk
      simp only [List.getElem?_map, List.getElem?_eq_getElem hi, hkk] at e
      exact Option.some.inj e
    refine gName_go ?_
    have hbl : (bo.map V.ref).length = nx.length := by rw [List.length_map]; omega
    refine ⟨_, rfl, m, _, 3, _, rfl, rfl, SqT.of (s1 _ _ hm), rfl, po, _, rfl, .inr (SqT.of (s1 _ _ hpo)), _, rfl, by omega, by omega, for_rangeA (n := (((bo.map V.ref).length : Nat) : Int).toNat) (fun i σ H2 => ∃ (p : Addr) (u2 u3 u4 : Option V), σ = [some (.ref m), some (.ref p), u2, u3, u4] ∧ H2 p = some (.lst ((clsN nx (kosF ot) i).map natV)) ∧ Same H H2) ⟨p0, none, none, none, rfl, hp1, s1⟩ ?_ ?_⟩
    · rintro i σ H2 hi hz_ N bk r hN
      refine hideG fun Gz hGz => ?_
      obtain ⟨p, u2, u3, u4, rfl, hp2, s2⟩ := hz_
      refine hGz ?_
      clear hGz Gz
      have hcl := cls_len hkl i
      have eN : clsN nx (kosF ot) (i + 1) = numb (refn nx (clsN nx (kosF ot) i)) := rfl
      rw [eN] at hN
      generalize clsN nx (kosF ot) i = cs at *
      refine ⟨by show 0 ≤ sizeLine; decide, fun pr hpr => gName_go ?_⟩
      have q1 := same_upd (o := .lst []) hpr
      have hcl2 : (cs.map natV).length = nx.length := by rw [List.length_map, hcl]
      refine ⟨_, rfl, p, _, rfl, .inl (SqL.of (q1 _ _ hp2)), _, rfl, by omega, by omega, for_rangeA (n := (((cs.map natV).length : Nat) : Int).toNat) (fun j σ H3 => ∃ (u4 : Option V) (ds : List Addr), σ = [some (.ref m), some (.ref p), some (.int (0 + (i : Int))), some (.ref pr), u4] ∧ H3 pr = some (.lst (ds.map V.ref)) ∧ ds.length = j ∧ (∀ (n : Nat) (d : Addr) (kk : Int × List Int), ds[n]? = some d → (refn nx cs)[n]? = some kk → PairAt H3 kk d) ∧ Same H2 H3) ⟨u4, [], rfl, upd_same, rfl, (fun n d kk hd => by cases hd), q1⟩ ?_ ?_⟩
      · rintro j σ H3 hj hz_ N2 bk2 r2 hN2
        refine hideG fun Gz hGz => ?_
        obtain ⟨u4, ds, rfl, hr3, hdl, hpa, s3⟩ := hz_
        refine hGz ?_
        clear hGz Gz
        rw [Int.toNat_natCast, hcl2] at hj
        rw [Int.zero_add]
        have v3 := s2.trans s3
        obtain ⟨b1, hb1⟩ : ∃ b1, bs[j]? = some b1 := ⟨_, List.getElem?_eq_getElem (by rw [hbs, List.length_map]; exact hj)⟩
        have hrow := row_of (rs := nx) hj
        have hbr : H b1 = some (.tup (nrow (nx.getD j []))) := hsb j _ b1 (by rw [List.getElem?_map, hrow]; rfl) hb1
        have mrow := getD_mem hj
        have hc := at_getD (l := cs) (i := j) (by omega)
        have hp3 := s3 _ _ hp2
        have r8 : (nx.getD j []).length ≤ 8 := by rw [W.nr _ mrow]; exact p8 W.n3
        refine ⟨_, rfl, .inl ⟨rfl, _, SqL.of hr3⟩, _, rfl, _, rfl, p, _, _, natV (cs.getD j 0), rfl, rfl, SqL.of hp3, atI_nat (nat_get hc), _, rfl, m, _, 2, _, rfl, rfl, SqT.of (v3 _ _ hm), rfl, _, rfl, ps, _, _, .ref b1, rfl, rfl, SqT.of (v3 _ _ hps), atI_nat (by rw [List.getElem?_map, hb1]; rfl), _, rfl, ⟨_, SqT.of (v3 _ _ hbr)⟩, comp_tmap (xs := nrow (nx.getD j [])) (fI fun z => natV (cs.getD z.toNat 0)) (SqT.of (v3 _ _ hbr)) ?_ (fun v hv R hR => ?_) (fun l hl => ?_)⟩
        · unfold nrow
          rw [List.length_map]
          exact Nat.le_of_lt (small1000 (by omega))
        · obtain ⟨z, hz, rfl⟩ := List.mem_map.mp hv
          have hzl := W.nl _ mrow z hz
          refine ⟨_, rfl, _, rfl, p, _, _, _, rfl, rfl, SqL.of hp3, atI_nat (nat_get (at_getD (l := cs) (i := z) (by omega))), ?_⟩
          have e : fI (fun z => natV (cs.getD z.toNat 0)) (natV z) = V.int (cs.getD z 0 : Nat) := by
            show natV (cs.getD (z : Int).toNat 0) = _
            rw [Int.toNat_natCast]
          rw [e] at hR
          exact hR
        have x1 := same_upd (o := .lst ((nrow (nx.getD j [])).map (fI fun z => natV (cs.getD z.toNat 0)))) hl
        refine ⟨l, _, rfl, .inl ⟨SqL.of upd_same, fun t1 ht1 => ⟨by show 2 ≤ sizeLine; decide, fun d1 hd1 => ?_⟩⟩⟩
        have x2 := same_upd (o := .tup ((nrow (nx.getD j [])).map (fI fun z => natV (cs.getD z.toNat 0)))) ht1
        have x3 := same_upd (o := .tup [natV (cs.getD j 0), .ref t1]) hd1
        have x := (x1.trans x2).trans x3
        have pu : ∀ (o : HO) (b : Addr) (xs : List V), upd (upd (upd H3 l (.lst ((nrow (nx.getD j [])).map (fI fun z => natV (cs.getD z.toNat 0))))) t1 (.tup ((nrow (nx.getD j [])).map (fI fun z => natV (cs.getD z.toNat 0))))) d1 (.tup [natV (cs.getD j 0), .ref t1]) b = some (.tup xs) → upd (upd (upd (upd H3 l (.lst ((nrow (nx.getD j [])).map (fI fun z => natV (cs.getD z.toNat 0))))) t1 (.tup ((nrow (nx.getD j [])).map (fI fun z => natV (cs.getD z.toNat 0))))) d1 (.tup [natV (cs.getD j 0), .ref t1])) pr o b = some (.tup xs) := fun o b xs e => by
          rw [upd_ne (ne_of e (x _ _ hr3) fun z => nomatch z)]
          exact e
        refine ⟨pr, _, _, rfl, rfl, x _ _ hr3, ?_, hN2 _ _ ⟨_, ds ++ [d1], rfl, ?_, ?_, ?_, same_put (s3.trans x) hpr⟩⟩
        · rw [List.length_map, hdl]
          exact small1000 (by omega)
        · rw [upd_same, List.map_append]
          rfl
        · rw [List.length_append, hdl]
          rfl
        · intro n d kk hd hkk
          rw [List.getElem?_append] at hd
          split at hd
          · exact knP.keep _ _ _ _ (fun b xs e => pu _ _ _ (x _ _ e)) (hpa n d kk hd hkk)
          · have hnj : n = j := by
              have := (List.getElem?_eq_some_iff.mp hd).1
              rw [List.length_singleton] at this
              omega
            subst hnj
            rw [hdl, Nat.sub_self] at hd
            cases hd
            rw [refn_get hc hrow] at hkk
            cases hkk
            refine knP.keep _ _ _ _ (pu _) ⟨t1, upd_same, _, x3 _ _ upd_same, ?_⟩
            unfold nrow
            rw [List.map_map, List.map_map, List.map_map]
            refine List.map_congr_left fun z _ => ?_
            show some ((cs.getD (z : Int).toNat 0 : Nat) : Int) = some ((cs.getD z 0 : Nat) : Int)
            rw [Int.toNat_natCast]
      · rintro σ H3 hz_
        refine hideG fun Gz hGz => ?_
        obtain ⟨u4, ds, rfl, hr3, hdl, hpa, s3⟩ := hz_
        refine hGz ?_
        clear hGz Gz
        rw [Int.toNat_natCast, hcl2] at hdl
        refine ⟨_, rfl, Int × List Int, _, knP, pr, ds, refn nx cs, rfl, .inl hr3, by rw [refn_len hcl]; omega, hpa, by rw [refn_len hcl]; omega, fun p' H4 hp' hp4 s4 => gName_go (hN _ _ ⟨p', _, _, _, rfl, hp4, s2.trans (s3.trans s4)⟩)⟩
    · rintro σ H2 hz_
      refine hideG fun Gz hGz => ?_
      obtain ⟨p, u2, u3, u4, rfl, hp2, s2⟩ := hz_
      refine hGz ?_
      clear hGz Gz
      rw [Int.toNat_natCast, hbl] at hp2
      have hcl := cls_len hkl nx.length
      generalize clsN nx (kosF ot) nx.length = cs at *
      have hp2' : H2 p = some (.lst ((cs.map fun c : Nat => (c : Int)).map V.int)) := by rw [hp2, List.map_map]; rfl
      refine ⟨_, rfl, p, cs.map fun c : Nat => (c : Int), rfl, SqL.of hp2', by rw [List.length_map]; omega, fun a S n ha hn4 hnn => ?_⟩
      have hn5 := hnn (List.Pairwise.map _ (fun a b h z => h (Int.ofNat.inj z)) hnd)
      refine ⟨a, S, n, rfl, upd_same, hn4, _, rfl, p, _, rfl, .inl (SqL.of (same_upd ha _ _ hp2)), rfl, ?_⟩
      rw [decide_eq_true (by rw [hn5, List.length_map, List.length_map])]
      exact k _ (s2.trans (same_upd ha))
noncomputable def sp_law_turned (K : PySem.W.Frag) : Sp := fun vs H Q _ => ∃ (m : Addr) (cell : Int) (nm : List Str) (b : Nat) (nx : List (List Nat)) (ot : List (List V)) (tr : Bool), vs = [.ref m, .int cell] ∧ M4 H m nm b nx ot ∧ Wf nm b nx ot tr ∧
  ∀ (m' : Addr) (ot' : List (List V)) (l : List Nat) (z : Nat) H', BfsE nx b l → z ∈ l → ot.getD z [] ≠ ot'.getD z [] → Wf nm b nx ot' tr → M4 H' m' nm b nx ot' → Same H H' → Q (.ref m') H'
theorem ok_law_turned (T : Txt K w mg t) (TB : Tbs mg base t) : FnOk P w K mg base CX0 2 t.a_law_turned t.f_law_turned ["machine", "cell"] (sp_law_turned K) := by
  have G_law_led_to : FnOk P w K mg base CX0 1 t.a_law_led_to t.f_law_led_to ["begin", "nexts"] (sp_law_led_to K) := ok_law_led_to T TB
  refine T.d_law_turned.F.ok sc_law_turned (fun vs H Q E h => ?_) (fun cdv A outer s H vs Q E hr h => ?_)
  · obtain ⟨m, cell, nm, b, nx, ot, tr, rfl, M, W, k⟩ := h
    rfl
  · obtain ⟨m, cell, nm, b, nx, ot, tr, rfl, M, W, k⟩ := h
    have hu := hu_of hr
    refine ⟨_, @QSs.out _ _ _ (qss_cons (qs_set (i := 2) sc_law_turned.nd rfl (Or.inl rfl) (qe_callF G_law_led_to (hr.mono (by decide)) rfl T.d_law_led_to.m T.d_law_led_to.F.kp T.d_law_led_to.b .nil pass0 (qa_c (qe_ix ix_tup (qv 0) qe_int (fun _ _ => rfl)) (qa_c (qe_ix ix_tup (qv 0) qe_int (fun _ _ => rfl)) qa_nil))))
        (qss_cons (qs_set (i := 3) sc_law_turned.nd rfl (Or.inl rfl) (qe_ix ix_list (qv 2) (qe_op op_mod (qv 1) (qe_callBF call_len_seq (by rfl) T.z_len bt_len (qa_c (qv 2) qa_nil))) (fun _ _ => rfl)))
        (qss_cons (qs_set (i := 4) sc_law_turned.nd rfl (Or.inl rfl) (qe_op op_mod (qe_op op_fdivB (qv 1) (qe_callBF call_len_seq (by rfl) T.z_len bt_len (qa_c (qv 2) qa_nil))) (qe_callBF call_len_seq (by rfl) T.z_len bt_len (qa_c (qe_ix ix_tup (qe_ix ix_tup (qv 0) qe_int (fun _ _ => rfl)) qe_int (fun _ _ => rfl)) qa_nil))))
        (qss_cons (qs_set (i := 5) sc_law_turned.nd rfl (Or.inl rfl) (qe_callTF call_list_of (by rfl) T.z_list bt_list (qa_c (qe_ix ix_tup (qe_ix ix_tup (qv 0) qe_int (fun _ _ => rfl)) (qv 3) (fun _ _ => rfl)) qa_nil)))
        (qss_cons (qs_if (qt_val (qe_callBF call_isi (by rfl) T.z_isinstance bt_isinstance (qa_c (qe_ix ix_list (qv 5) (qv 4) (fun _ _ => rfl)) (qa_c (qe_bltn (v := .ty "bool") (by rfl) T.z_bool bt_bool rfl) qa_nil))))
        (qss_one (qs_asg (qe_not (qe_ix ix_list (qv 5) (qv 4) (fun _ _ => rfl))) (qg_sub (qv 5) (qv 4) set_list))) (qss_one (qs_asg (qe_op op_sub qe_int (qe_ix ix_list (qv 5) (qv 4) (fun _ _ => rfl))) (qg_sub (qv 5) (qv 4) set_list))))
        (qss_cons (qs_set (i := 6) sc_law_turned.nd rfl (Or.inl rfl) (qe_callTF call_list_of (by rfl) T.z_list bt_list (qa_c (qe_ix ix_tup (qv 0) qe_int (fun _ _ => rfl)) qa_nil)))
        (qss_cons (qs_asg (qe_callTF call_tuple_of (by rfl) T.z_tuple bt_tuple (qa_c (qv 5) qa_nil)) (qg_sub (qv 6) (qv 3) set_list))
        (qss_one (qs_ret (qe_tup (qa_c (qe_ix ix_tup (qv 0) qe_int (fun _ _ => rfl)) (qa_c (qe_ix ix_tup (qv 0) qe_int (fun _ _ => rfl)) (qa_c (qe_ix ix_tup (qv 0) qe_int (fun _ _ => rfl)) (qa_c (qe_callTF call_tuple_of (by rfl) T.z_tuple bt_tuple (qa_c (qv 6) qa_nil)) qa_nil)))))))))))))), ?_⟩
    clear hu
    try dsimp only [L2.cxK, L2.cxK2]
    refine L2.let8 ?_
    intro U7 U6 U5 U4 U3 U2 U1
    refine hideG fun Gz hGz => ?_
    obtain ⟨pn, ps, po, hm, hn, R, O⟩ := M.ex
    refine hGz ?_
    clear hGz Gz
    have hle := W.le
    have hol := W.ol
    have hnx : ∀ row ∈ nx, row.length ≤ 8 ∧ ∀ s ∈ row, s < nx.length := fun row h => ⟨by rw [W.nr row h]; exact p8 W.n3, W.nl row h⟩
    refine ⟨_, rfl, m, _, 1, _, rfl, rfl, SqT.of hm, rfl, _, rfl, m, _, 2, _, rfl, rfl, SqT.of hm, rfl, b, ps, nx, rfl, R, W.b, hnx, by omega, fun p l H1 hp hp1 B s1 => gName_go ?_⟩
    have hlp : 0 < l.length := (List.getElem?_eq_some_iff.mp B.zero).1
    have hlm : (l.map natV).length = l.length := List.length_map ..
    obtain ⟨j, hj⟩ : ∃ j : Nat, cell % ((l.map natV).length : Int) = (j : Int) := ⟨(cell % ((l.map natV).length : Int)).toNat, by
      have := Int.emod_nonneg cell (show ((l.map natV).length : Int) ≠ 0 by omega)
      omega⟩
    have hjl : j < l.length := by
      have := Int.emod_lt_of_pos cell (show (0 : Int) < ((l.map natV).length : Int) by omega)
      omega
    obtain ⟨z, hz⟩ : ∃ z, l[j]? = some z := ⟨_, List.getElem?_eq_getElem hjl⟩
    have hzm : z ∈ l := List.mem_of_getElem? hz
    have hzn : z < nx.length := B.lt W.b W.nl hzm
    have hll := B.len W.b W.nl
    refine ⟨_, rfl, _, rfl, _, rfl, p, _, rfl, .inl (SqL.of hp1), _, _, rfl, rfl, (by show (0 : Int) < ((l.map natV).length : Int); omega), p, _, _, .int (z : Int), rfl, rfl, SqL.of hp1, by rw [hj]; exact atI_nat (nat_get hz), gName_go ?_⟩
    have hot : z < ot.length := by omega
    have mz := getD_mem hot
    have hoz := W.or _ mz
    refine hideG fun Gz hGz => ?_
    obtain ⟨as0, a0, g1, g2, g3⟩ := rowE_at O (i := 0) (by omega)
    refine hGz ?_
    clear hGz Gz
    have hL0 := W.or _ (getD_mem (rs := ot) (i := 0) (by omega))
    have hLp : 0 < 2 ^ nm.length := Nat.two_pow_pos _
    obtain ⟨t0, ht0⟩ : ∃ t0 : Nat, cell / ((l.map natV).length : Int) % ((ot.getD 0 []).length : Int) = (t0 : Int) := ⟨(cell / ((l.map natV).length : Int) % ((ot.getD 0 []).length : Int)).toNat, by
      have := Int.emod_nonneg (cell / ((l.map natV).length : Int)) (show ((ot.getD 0 []).length : Int) ≠ 0 by omega)
      omega⟩
    have htl : t0 < (ot.getD z []).length := by
      have := Int.emod_lt_of_pos (cell / ((l.map natV).length : Int)) (show (0 : Int) < ((ot.getD 0 []).length : Int) by omega)
      omega
    have h250 : (200 : Int) < 2 ^ 250 := by decide
    refine ⟨_, rfl, _, rfl, p, _, rfl, .inl (SqL.of hp1), _, _, rfl, rfl, .of (by omega) (by omega), _, rfl, m, _, 3, _, rfl, rfl, SqT.of (s1 _ _ hm), rfl, po, _, 0, .ref a0, rfl, rfl, SqT.of (s1 _ _ g1), g2, a0, _, rfl, .inr (SqT.of (s1 _ _ g3)), _, _, rfl, rfl, (by show (0 : Int) < ((ot.getD 0 []).length : Int); omega), ?_⟩
    try dsimp only
    rw [ht0]
    refine gName_go ?_
    refine hideG fun Gz hGz => ?_
    obtain ⟨as1, a1, f1, f2, f3⟩ := rowE_at O (i := z) hot
    refine hGz ?_
    clear hGz Gz
    refine ⟨_, rfl, m, _, 3, _, rfl, rfl, SqT.of (s1 _ _ hm), rfl, _, rfl, po, _, _, .ref a1, rfl, rfl, SqT.of (s1 _ _ f1), f2, a1, _, rfl, .inr (SqT.of (s1 _ _ f3)), fun pr hpr => gName_go ?_⟩
    have q1 := same_upd (o := .lst (ot.getD z [])) hpr
    have s2 := s1.trans q1
    have hr2 : (upd H1 pr (.lst (ot.getD z []))) pr = some (.lst (ot.getD z [])) := upd_same
    have hprH : H pr = none := s1.free hpr
    generalize upd H1 pr (.lst (ot.getD z [])) = H2 at *
    obtain ⟨x0, hx0⟩ : ∃ x0, (ot.getD z [])[t0]? = some x0 := ⟨_, List.getElem?_eq_getElem htl⟩
    have hk0 := W.ok _ mz _ (List.mem_of_getElem? hx0)
    have hb0 := W.bit _ mz _ (List.mem_of_getElem? hx0)
    have hix : ∀ {n i : Nat}, i < n → ixN n (i : Int) = some i := fun {n i} h => by
      unfold ixN
      rw [if_pos (by omega), if_pos (by omega), Int.toNat_natCast]
    show U4 { nx := fun x H' => Q .non H', rt := Q } _ _
    refine seq_join (fun σ H5 => ∃ v', σ = [some (.ref m), some (.int cell), some (.ref p), some (.int (z : Int)), some (.int (t0 : Int)), some (.ref pr), none] ∧ H5 pr = some (.lst ((ot.getD z []).set t0 v')) ∧ KindOf tr v' ∧ (vB v' = some 0 ∨ vB v' = some 1) ∧ v' ≠ x0 ∧ Same H H5) (fun N hN => ?_) ?_
    · rcases hk0 with ⟨htr, y, rfl⟩ | ⟨htr, y, rfl⟩
      · refine ⟨_, rfl, _, rfl, pr, _, _, .bl y, rfl, rfl, SqL.of hr2, atI_nat hx0, _, _, _, _, rfl, .bl _, kit_bool_bool, _, rfl, iteT ⟨_, rfl, _, rfl, pr, _, _, .bl y, rfl, rfl, SqL.of hr2, atI_nat hx0, _, rfl, _, rfl, _, rfl, pr, _, _, t0, rfl, rfl, hr2, hix htl, hN _ _ ⟨.bl (!y), rfl, upd_same, .inl ⟨htr, _, rfl⟩, ?_, ?_, same_put s2 hprH⟩⟩⟩
        · cases y
          · exact .inr rfl
          · exact .inl rfl
        · cases y <;> exact fun z => nomatch z
      · refine ⟨_, rfl, _, rfl, pr, _, _, .int y, rfl, rfl, SqL.of hr2, atI_nat hx0, _, _, _, _, rfl, .int _, kit_int_bool, _, rfl, iteF ⟨_, rfl, _, rfl, pr, _, _, .int y, rfl, rfl, SqL.of hr2, atI_nat hx0, _, _, rfl, rfl, _, rfl, _, rfl, pr, _, _, t0, rfl, rfl, hr2, hix htl, hN _ _ ⟨.int (1 - y), rfl, upd_same, .inr ⟨htr, _, rfl⟩, ?_, ?_, same_put s2 hprH⟩⟩⟩
        · rcases hb0 with h | h
          · cases h
            exact .inr rfl
          · cases h
            exact .inl rfl
        · rcases hb0 with h | h
          · cases h
            exact fun z => nomatch z
          · cases h
            exact fun z => nomatch z
    rintro σ H5 hz_
    refine hideG fun Gz hGz => ?_
    obtain ⟨v', rfl, hr5, hk5, hb5, hne, s5⟩ := hz_
    refine hGz ?_
    clear hGz Gz
    obtain ⟨oas, hoas, loas, oget⟩ := id O
    refine ⟨_, rfl, m, _, 3, _, rfl, rfl, SqT.of (s5 _ _ hm), rfl, po, _, rfl, .inr (SqT.of (s5 _ _ hoas)), fun pq hpq => gName_go ?_⟩
    have q6 := same_upd (o := .lst oas) hpq
    refine ⟨_, rfl, pr, _, rfl, .inl ⟨SqL.of (q6 _ _ hr5), fun rt hrt => ?_⟩⟩
    have q7 := same_upd (o := .tup ((ot.getD z []).set t0 v')) hrt
    refine ⟨_, rfl, _, rfl, pq, _, _, z, rfl, rfl, q7 _ _ upd_same, hix (by rw [loas]; exact hot), ?_⟩
    have s8 : Same H5 (upd (upd (upd H5 pq (.lst oas)) rt (.tup ((ot.getD z []).set t0 v'))) pq (.lst (oas.set z (.ref rt)))) := same_put (q6.trans q7) hpq
    have hq8 : upd (upd (upd H5 pq (.lst oas)) rt (.tup ((ot.getD z []).set t0 v'))) pq (.lst (oas.set z (.ref rt))) pq = some (.lst (oas.set z (.ref rt))) := upd_same
    have hr8 : upd (upd (upd H5 pq (.lst oas)) rt (.tup ((ot.getD z []).set t0 v'))) pq (.lst (oas.set z (.ref rt))) rt = some (.tup ((ot.getD z []).set t0 v')) := by
      rw [upd_ne (fun e => by rw [e, upd_same] at hrt; cases hrt)]
      exact upd_same
    generalize upd (upd (upd H5 pq (.lst oas)) rt (.tup ((ot.getD z []).set t0 v'))) pq (.lst (oas.set z (.ref rt))) = H8 at *
    have v8 := s5.trans s8
    refine ⟨_, rfl, m, _, 0, _, rfl, rfl, SqT.of (v8 _ _ hm), rfl, _, rfl, m, _, 1, _, rfl, rfl, SqT.of (v8 _ _ hm), rfl, _, rfl, m, _, 2, _, rfl, rfl, SqT.of (v8 _ _ hm), rfl, _, rfl, pq, _, rfl, .inl ⟨SqL.of hq8, fun t2 ht2 => ⟨by show 4 ≤ sizeLine; decide, fun m' hm' => ?_⟩⟩⟩
    have q9 := (same_upd (o := .tup (oas.set z (.ref rt))) ht2).trans (same_upd (o := .tup [.ref pn, .int (b : Int), .ref ps, .ref t2]) hm')
    have v9 := v8.trans q9
    have inr : ∀ r ∈ ot.set z ((ot.getD z []).set t0 v'), r ∈ ot ∨ r = (ot.getD z []).set t0 v' := fun r h => List.mem_or_eq_of_mem_set h
    have inv : ∀ v ∈ (ot.getD z []).set t0 v', v ∈ ot.getD z [] ∨ v = v' := fun v h => List.mem_or_eq_of_mem_set h
    refine k m' (ot.set z ((ot.getD z []).set t0 v')) l z _ B hzm (fun e => ?_) ⟨W.n3, W.b, W.le, by rw [List.length_set]; exact hol, W.nr, W.nl, fun r hr => ?_, fun r hr v hv => ?_, fun r hr v hv => ?_⟩ ⟨⟨pn, ps, t2, upd_same, v9 _ _ hn, R.same v9, ?_⟩⟩ v9
    · rw [List.getD_eq_getElem?_getD (l := ot.set z _), List.getElem?_set_self hot] at e
      have e2 := congrArg (fun r : List V => r[t0]?) e
      have e3 : (ot.getD z [])[t0]? = ((ot.getD z []).set t0 v')[t0]? := e2
      rw [hx0, List.getElem?_set_self htl] at e3
      exact hne (Option.some.inj e3).symm
    · rcases inr r hr with h | h
      · exact W.or r h
      · rw [h, List.length_set]
        exact hoz
    · rcases inr r hr with h | h
      · exact W.ok r h v hv
      · rw [h] at hv
        rcases inv v hv with g | g
        · exact W.ok _ mz v g
        · rw [g]
          exact hk5
    · rcases inr r hr with h | h
      · exact W.bit r h v hv
      · rw [h] at hv
        rcases inv v hv with g | g
        · exact W.bit _ mz v g
        · rw [g]
          exact hb5
    · refine ⟨oas.set z (.ref rt), same_upd hm' _ _ upd_same, by rw [List.length_set, List.length_set, loas], fun i r hr => ?_⟩
      by_cases hi : i = z
      · subst hi
        rw [List.getElem?_set_self hot] at hr
        cases hr
        exact ⟨rt, List.getElem?_set_self (by rw [loas]; exact hot), q9 _ _ hr8⟩
      · rw [List.getElem?_set_ne (fun e => hi e.symm)] at hr
        obtain ⟨a, g1, g2⟩ := oget i r hr
        exact ⟨a, by rw [List.getElem?_set_ne (fun e => hi e.symm)]; exact g1, v9 _ _ g2⟩
noncomputable def sp_machine_found (P : Program) (w : World) (K : PySem.W.Frag) (mg : Str → Option Value) (base : Heap) : Sp := fun vs H Q _ => ∃ (pn f : Addr) (nm : List Str) (b : Nat) (nx : List (List Nat)) (ot : List (List V)) (τ : Sp), vs = [.ref pn, .int (b : Int), .ref f] ∧ H pn = some (.tup (nm.map V.str)) ∧ b < nx.length ∧ (∀ row ∈ nx, row.length ≤ 8 ∧ ∀ s ∈ row, s < nx.length) ∧ ot.length = nx.length ∧ nx.length ≤ 200 ∧ nm.length ≤ 3 ∧ (∀ r ∈ ot, r.length ≤ 8) ∧ Callable P w K mg base 12 f H τ ∧
  (∀ (s : Nat) (row : List Nat) (o : List V) (H1 : Hp) (Q' : VK), nx[s]? = some row → ot[s]? = some o → Same H H1 → (∀ t r1 r2 H2, H2 t = some (.tup [.ref r1, .ref r2]) → H2 r1 = some (.tup (nrow row)) → H2 r2 = some (.tup o) → Same H1 H2 → Q' (.ref t) H2) → τ [.int (s : Int)] H1 Q' E0) ∧
  ∀ p sts m (l : List Nat) H', BfsE nx b l → H' p = some (.tup [.ref sts, .ref m]) → M4 H' m nm 0 (l.map fun s => (nx.getD s []).map fun x => l.idxOf x) (l.map fun s => ot.getD s []) → Same H H' → Q (.ref p) H'
theorem ok_machine_found (T : Txt K w mg t) (TB : Tbs mg base t) : FnOk P w K mg base CX0 13 t.a_machine_found t.f_machine_found ["names", "begin", "step_of"] (sp_machine_found P w K mg base) := by
  have G_state_number : FnOk P w K mg base CX0 1 t.a_state_number t.f_state_number ["state", "states", "numbers"] (sp_state_number K) := ok_state_number T TB
  refine T.d_machine_found.F.ok sc_machine_found (fun vs H Q E h => ?_) (fun cdv A outer s H vs Q E hr h => ?_)
  · obtain ⟨pn, f, nm, b, nx, ot, τ, rfl, hpn, hb, hnx, hlo, h2, hn3, ho8, hc, hτ, k⟩ := h
    rfl
  · obtain ⟨pn, f, nm, b, nx, ot, τ, rfl, hpn, hb, hnx, hlo, h2, hn3, ho8, hc, hτ, k⟩ := h
    have hu := hu_of hr
    refine ⟨_, @QSs.out _ _ _ (qss_cons (qs_set (i := 3) sc_machine_found.nd rfl (Or.inr rfl) (qe_lst (qa_c (qv 1) qa_nil)))
        (qss_cons (qs_set (i := 4) sc_machine_found.nd rfl (Or.inr rfl) (qe_disp (qps_cons (qv 1) qe_int qps_nil) rfl rfl (fun z => nomatch z) (by decide)))
        (qss_cons (qs_set (i := 5) sc_machine_found.nd rfl (Or.inl rfl) (qe_lst qa_nil))
        (qss_cons (qs_set (i := 6) sc_machine_found.nd rfl (Or.inl rfl) (qe_lst qa_nil))
        (qss_cons (qs_while PassesOwn.never (qt_cmpR op_lt (qe_callBF call_len_seq (by rfl) T.z_len bt_len (qa_c (qv 5) qa_nil)) (qe_callBF call_len_seq (by rfl) T.z_len bt_len (qa_c (qv 3) qa_nil)) (nomark _))
        (qss_cons (qs_set (i := 7) sc_machine_found.nd rfl (Or.inl rfl) (qe_callV (k := 12) 2 (hr.mono (by decide)) (qa_c (qe_ix ix_list (qv 3) (qe_callBF call_len_seq (by rfl) T.z_len bt_len (qa_c (qv 5) qa_nil)) (fun _ _ => rfl)) qa_nil)))
        (qss_cons (qs_expr (qe_bmF PySem.F.plainAttrs_list PySem.F.slot_list_append PySem.F.type_list_append mt_append (qv 5) (qa_c (qe_callTF call_tuple_of (by rfl) T.z_tuple bt_tuple (qa_c (qe_comp (⟨by rfl, by decide +kernel, by decide +kernel, by rfl, by decide +kernel, by decide +kernel, by rfl, by decide +kernel⟩ : CompSc (defScope s_machine_found) _ ["names", "begin", "step_of", "states", "numbers", "steps", "out", "told"] "state" ["states", "numbers"] [3, 4]) (qi_tup (qe_ix ix_tup (qv 7) qe_int (fun _ _ => rfl))) (fun _ _ _ _ => qf_nil) (fun _ _ _ _ => (qe_callF G_state_number (hr.mono (by decide)) rfl T.d_state_number.m T.d_state_number.F.kp T.d_state_number.b .nil pass0 (qa_c (qv 0) (qa_c (qv 1) (qa_c (qv 2) qa_nil)))))) qa_nil)) qa_nil)))
        (qss_one (qs_expr (qe_bmF PySem.F.plainAttrs_list PySem.F.slot_list_append PySem.F.type_list_append mt_append (qv 6) (qa_c (qe_callTF call_tuple_of (by rfl) T.z_tuple bt_tuple (qa_c (qe_ix ix_tup (qv 7) qe_int (fun _ _ => rfl)) qa_nil)) qa_nil)))))))
        (qss_one (qs_ret (qe_tup (qa_c (qv 3) (qa_c (qe_tup (qa_c (qe_callTF call_tuple_of (by rfl) T.z_tuple bt_tuple (qa_c (qv 0) qa_nil)) (qa_c qe_int (qa_c (qe_callTF call_tuple_of (by rfl) T.z_tuple bt_tuple (qa_c (qv 5) qa_nil)) (qa_c (qe_callTF call_tuple_of (by rfl) T.z_tuple bt_tuple (qa_c (qv 6) qa_nil)) qa_nil))))) qa_nil)))))))))), ?_⟩
    clear hu
    try dsimp only [L2.cxK, L2.cxK2]
    refine L2.let6 ?_
    intro U5 U4 U3 U2 U1
    have hr : ∀ row ∈ nx, ∀ s ∈ row, s < nx.length := fun row h => (hnx row h).2
    refine ⟨_, rfl, by show 1 ≤ sizeLine; decide, fun st hst => ?_⟩
    have s1 := same_upd (o := .lst [.int (b : Int)]) hst
    refine gName_go ?_
    refine fun nd hnd => ?_
    have snd : st ≠ nd := ne_of_none upd_same hnd
    have hndH : H nd = none := s1.free hnd
    refine ⟨_, rfl, upd_same, [(.inl (b : Int), .int 0)], rfl, by show 1 ≤ 15; decide, gName_go ?_⟩
    have em : mergeK [] [((.inl (b : Int) : Key), V.int 0)] = nk ([b].map fun s : Nat => (s : Int)) := rfl
    rw [em, upd_upd]
    have s3 := s1.trans (same_upd (o := .dK (nk ([b].map fun s : Nat => (s : Int)))) hnd)
    have hst3 : upd (upd H st (.lst [.int (b : Int)])) nd (.dK (nk ([b].map fun s : Nat => (s : Int)))) st = some (.lst ([b].map natV)) := by rw [upd_ne snd]; exact upd_same
    have hnd3 := upd_same (H := upd H st (.lst [.int (b : Int)])) (a := nd) (o := .dK (nk ([b].map fun s : Nat => (s : Int))))
    generalize upd (upd H st (.lst [.int (b : Int)])) nd (.dK (nk ([b].map fun s : Nat => (s : Int)))) = H3 at *
    refine ⟨by show 0 ≤ sizeLine; decide, fun pp hpp => gName_go ⟨by show 0 ≤ sizeLine; decide, fun po hpo => gName_go ?_⟩⟩
    have sp := same_upd (o := .lst []) hpp
    have so := sp.trans (same_upd (o := .lst []) hpo)
    have hppH : H pp = none := s3.free hpp
    have hpoH : H po = none := s3.free (sp.free hpo)
    have pst : pp ≠ st := (ne_of_none hst3 hpp).symm
    have pnd : pp ≠ nd := (ne_of_none hnd3 hpp).symm
    have ppo : pp ≠ po := ne_of_none upd_same hpo
    have ost : po ≠ st := (ne_of_none (sp _ _ hst3) hpo).symm
    have ond : po ≠ nd := (ne_of_none (sp _ _ hnd3) hpo).symm
    have rl : ∀ {H : Hp} {zs : List V} {i : Nat}, RowsZ H zs (rowsU nx b i) → zs.length = i := fun z => by
      have := z.1
      unfold rowsU at this
      rw [List.length_map, List.length_range] at this
      exact this
    have ol : ∀ {H : Hp} {zs : List V} {i : Nat}, RowsZ H zs (outsU nx ot b i) → zs.length = i := fun z => by
      have := z.1
      unfold outsU at this
      rw [List.length_map, List.length_range] at this
      exact this
    refine while_w (fun σ H2 => ∃ (i : Nat) (u7 : Option V) (zs os : List V), σ = [some (.ref pn), some (.int (b : Int)), some (.ref f), some (.ref st), some (.ref nd), some (.ref pp), some (.ref po), u7] ∧ H2 st = some (.lst ((bfsN nx b i).map natV)) ∧ H2 nd = some (.dK (nk ((bfsN nx b i).map fun s : Nat => (s : Int)))) ∧ H2 pp = some (.lst zs) ∧ H2 po = some (.lst os) ∧ RowsZ H2 zs (rowsU nx b i) ∧ RowsZ H2 os (outsU nx ot b i) ∧ (∀ j, j < i → j < (bfsN nx b j).length) ∧ i ≤ (bfsN nx b i).length ∧ Same H H2) (fun _ H2 => match H2 pp with | some (.lst zs) => nx.length - zs.length | _ => 0) ⟨0, none, [], [], rfl, so _ _ hst3, so _ _ hnd3, same_upd hpo _ _ upd_same, upd_same, RowsZ.nil, RowsZ.nil, (fun j hj => absurd hj (Nat.not_lt_zero _)), Nat.zero_le _, s3.trans so⟩ ?_
    rintro σ H4 hz_
    refine hideG fun Gz hGz => ?_
    obtain ⟨i, u7, zs, os, rfl, hst4, hnd4, hpp4, hpo4, Rz, Ro, hgo, hil, s4⟩ := hz_
    refine hGz ?_
    clear hGz Gz
    have hzl := rl Rz
    have hlen := bfs_len hb hr i
    have hnod := bfs_nodup nx b i
    have hltA := bfs_lt hb hr i
    have eN : bfsN nx b (i + 1) = bfsS nx (bfsN nx b i) i := rfl
    have eR := rowsU_succ nx b i
    have eO := outsU_succ nx ot b i
    unfold rowA at eR
    generalize hl0 : bfsN nx b i = l0 at *
    refine ⟨_, rfl, pp, _, rfl, .inl (SqL.of hpp4), _, rfl, st, _, rfl, .inl (SqL.of hst4), _, _, rfl, rfl, _, rfl, ?_⟩
    rw [List.length_map, hzl]
    refine ite2 (fun hlt => ?_) (fun hlt => ?_)
    · have hlt' : i < l0.length := by
        have := of_decide_eq_true hlt
        omega
      obtain ⟨si, hsi⟩ : ∃ si, l0[i]? = some si := ⟨_, List.getElem?_eq_getElem hlt'⟩
      have hsn : si < nx.length := hltA _ (List.mem_of_getElem? hsi)
      obtain ⟨row, hrow⟩ : ∃ row, nx[si]? = some row := ⟨_, List.getElem?_eq_getElem hsn⟩
      obtain ⟨o, ho⟩ : ∃ o, ot[si]? = some o := ⟨_, List.getElem?_eq_getElem (by omega)⟩
      obtain ⟨r8, rlt⟩ := hnx _ (List.mem_of_getElem? hrow)
      have o8 := ho8 _ (List.mem_of_getElem? ho)
      have eg : l0.getD i 0 = si := by rw [List.getD_eq_getElem?_getD, hsi]; rfl
      have er : nx.getD si [] = row := by rw [List.getD_eq_getElem?_getD, hrow]; rfl
      have eo : ot.getD si [] = o := by rw [List.getD_eq_getElem?_getD, ho]; rfl
      have eS : bfsN nx b (i + 1) = row.foldl ins1 l0 := by
        rw [eN]
        unfold bfsS
        rw [eg, er]
      rw [eg, er] at eR
      rw [eg, eo] at eO
      refine ⟨fun σ' H' => ∃ (u7 : Option V) (zs' os' : List V), σ' = [some (.ref pn), some (.int (b : Int)), some (.ref f), some (.ref st), some (.ref nd), some (.ref pp), some (.ref po), u7] ∧ H' st = some (.lst ((bfsN nx b (i + 1)).map natV)) ∧ H' nd = some (.dK (nk ((bfsN nx b (i + 1)).map fun s : Nat => (s : Int)))) ∧ H' pp = some (.lst zs') ∧ H' po = some (.lst os') ∧ RowsZ H' zs' (rowsU nx b (i + 1)) ∧ RowsZ H' os' (outsU nx ot b (i + 1)) ∧ Same H H', ?_, ?_⟩
      · rintro σ' H' hz_
        refine hideG fun Gz hGz => ?_
        obtain ⟨u8, zs', os', rfl, g1, g2, g3, g4, g5, g6, s5⟩ := hz_
        refine hGz ?_
        clear hGz Gz
        have hpre : l0.length ≤ (bfsN nx b (i + 1)).length := by
          obtain ⟨r, e⟩ := fold_pre row l0
          rw [eS, e, List.length_append]
          omega
        refine ⟨nx.length - (i + 1), ?_, ?_, i + 1, u8, zs', os', rfl, g1, g2, g3, g4, g5, g6, fun j hj => ?_, by omega, s5⟩
        · rw [hpp4]
          show nx.length - (i + 1) < nx.length - zs.length
          omega
        · rw [g3]
          show _ = nx.length - zs'.length
          rw [rl g5]
        · by_cases hji : j = i
          · rw [hji, hl0]
            exact hlt'
          · exact hgo j (by omega)
      · refine ⟨f, τ, rfl, hc.frz s4.frz, _, rfl, _, rfl, pp, _, rfl, .inl (SqL.of hpp4), st, _, _, natV si, rfl, rfl, SqL.of hst4, by rw [hzl]; exact atI_nat (by rw [List.getElem?_map, hsi]; rfl), FrzIn.refl _, hτ si row o H4 _ hrow ho s4 fun tt r1 r2 H5 htt hr1 hr2 s5 => ?_⟩
        refine gName_go ?_
        have hst5 := s5 _ _ hst4
        have hnd5 := s5 _ _ hnd4
        have hpp5 := s5 _ _ hpp4
        have hpo5 := s5 _ _ hpo4
        have rst : r1 ≠ st := ne_of hr1 hst5 (fun z => nomatch z)
        have rnd : r1 ≠ nd := ne_of hr1 hnd5 (fun z => nomatch z)
        refine ⟨_, rfl, .inl ⟨rfl, _, SqL.of hpp5⟩, _, rfl, tt, _, 0, _, rfl, rfl, SqT.of htt, rfl, r1, rfl, ⟨_, SqT.of hr1⟩, ?_⟩
        refine comp_tup (K := K) (a := r1) (xs := nrow row) (fun j ws H' => ws = (row.take j).map (fun x => natV ((bfsN nx b (i + 1)).idxOf x)) ∧ H' st = some (.lst (((row.take j).foldl ins1 l0).map natV)) ∧ H' nd = some (.dK (nk (((row.take j).foldl ins1 l0).map fun s : Nat => (s : Int)))) ∧ (∀ b o, H5 b = some o → b ≠ st → b ≠ nd → H' b = some o) ∧ ∀ b, H5 b = none → H' b = none) ⟨rfl, hst5, hnd5, (fun _ _ e _ _ => e), fun _ e => e⟩ ?_ ?_ ?_ ?_
        · rintro j ws H6 hz_
          refine hideG fun Gz hGz => ?_
          obtain ⟨rfl, _⟩ := hz_
          refine hGz ?_
          clear hGz Gz
          rw [List.length_map, List.length_take]
          exact Nat.le_of_lt (small1000 (by omega))
        · rintro j ws H6 ⟨_, _, _, g3, _⟩
          exact SqT.of (g3 _ _ hr1 rst rnd)
        · rintro j x ws H6 R hR hx hz_
          refine hideG fun Gz hGz => ?_
          obtain ⟨rfl, g1, g2, g3, g4⟩ := hz_
          refine hGz ?_
          clear hGz Gz
          unfold nrow at hx
          rw [List.getElem?_map] at hx
          obtain ⟨s', hs', rfl⟩ := Option.map_eq_some_iff.mp hx
          have e1 : (row.take (j + 1)).foldl ins1 l0 = ins1 ((row.take j).foldl ins1 l0) s' := by
            rw [take_snoc hs', List.foldl_append]
            rfl
          have e2 : (bfsN nx b (i + 1)).idxOf s' = (ins1 ((row.take j).foldl ins1 l0) s').idxOf s' := by
            have e3 : row.foldl ins1 l0 = (row.drop (j + 1)).foldl ins1 ((row.take (j + 1)).foldl ins1 l0) := by rw [← List.foldl_append, List.take_append_drop]
            obtain ⟨r, e4⟩ := fold_pre (row.drop (j + 1)) ((row.take (j + 1)).foldl ins1 l0)
            rw [eS, e3, e4, e1, idx_pre (mem_ins1.mpr (.inr rfl))]
          have hnj : ((row.take j).foldl ins1 l0).Nodup := fold_nodup _ _ hnod
          have hlj : ((row.take j).foldl ins1 l0).length ≤ 300 := by
            have h7 : ∀ (r l : List Nat), (r.foldl ins1 l).length ≤ l.length + r.length := by
              intro r
              induction r with
              | nil => exact fun l => Nat.le_refl _
              | cons k r ih =>
                intro l
                have h1 := ih (ins1 l k)
                have h2 := ins1_len l k
                rw [List.foldl_cons, List.length_cons]
                omega
            have := h7 (row.take j) l0
            rw [List.length_take] at this
            omega
          have ew : (row.take (j + 1)).map (fun x => natV ((bfsN nx b (i + 1)).idxOf x)) = (row.take j).map (fun x => natV ((bfsN nx b (i + 1)).idxOf x)) ++ [natV ((bfsN nx b (i + 1)).idxOf s')] := by
            rw [take_snoc hs', List.map_append]
            rfl
          unfold tYes
          try dsimp only
          rw [if_pos rfl]
          rw [ew, e1] at hR
          rw [e2] at hR
          generalize (row.take j).foldl ins1 l0 = l' at *
          refine ⟨_, rfl, _, rfl, _, rfl, (s' : Int), st, nd, l'.map fun s : Nat => (s : Int), rfl, by rw [g1, List.map_map]; rfl, g2, nodup_cast hnj, by rw [List.length_map]; omega, fun H7 q1 q2 q3 q4 => ?_⟩
          rw [ins1_cast] at q1 q2 ⊢
          rw [idx_cast]
          refine hR _ _ ⟨rfl, by rw [q1, List.map_map]; rfl, q2, (fun b o e h1 h2 => q3 _ _ (g3 b o e h1 h2) h1 h2), fun b e => q4 _ (g4 b e)⟩
        · rintro ws H6 hz_ l hl
          refine hideG fun Gz hGz => ?_
          obtain ⟨rfl, g1, g2, g3, g4⟩ := hz_
          refine hGz ?_
          clear hGz Gz
          rw [show (nrow row).length = row.length from List.length_map .., List.take_length] at g1 g2 ⊢
          rw [← eS] at g1 g2
          have tne : ∀ {c : Addr} {ys : List V}, H5 c = some (.tup ys) → H6 c = some (.tup ys) ∧ c ≠ pp ∧ c ≠ po := fun {c ys} e =>
            ⟨g3 _ _ e (ne_of e hst5 (fun z => nomatch z)) (ne_of e hnd5 (fun z => nomatch z)), ne_of e hpp5 (fun z => nomatch z), ne_of e hpo5 (fun z => nomatch z)⟩
          have htt6 := tne htt
          have hr26 := tne hr2
          have hpp6 := g3 _ _ hpp5 pst pnd
          have hpo6 := g3 _ _ hpo5 ost ond
          refine ⟨l, _, rfl, .inl ⟨SqL.of upd_same, fun q hq => ?_⟩⟩
          have sl := same_upd (o := .lst (row.map fun x => natV ((bfsN nx b (i + 1)).idxOf x))) hl
          have sq := sl.trans (same_upd (o := .tup (row.map fun x => natV ((bfsN nx b (i + 1)).idxOf x))) hq)
          have hqp : q ≠ pp := (ne_of_none (sl _ _ hpp6) hq).symm
          have hqo : q ≠ po := (ne_of_none (sl _ _ hpo6) hq).symm
          refine ⟨pp, _, _, rfl, rfl, sq _ _ hpp6, small1000 (by omega), ?_⟩
          have k8 : ∀ c o, H6 c = some o → c ≠ pp → upd (upd (upd H6 l (.lst (row.map fun x => natV ((bfsN nx b (i + 1)).idxOf x)))) q (.tup (row.map fun x => natV ((bfsN nx b (i + 1)).idxOf x)))) pp (.lst (zs ++ [.ref q])) c = some o := fun c o e hc => by
            rw [upd_ne hc]
            exact sq _ _ e
          have hq8 : upd (upd (upd H6 l (.lst (row.map fun x => natV ((bfsN nx b (i + 1)).idxOf x)))) q (.tup (row.map fun x => natV ((bfsN nx b (i + 1)).idxOf x)))) pp (.lst (zs ++ [.ref q])) q = some (.tup (row.map fun x => natV ((bfsN nx b (i + 1)).idxOf x))) := by
            rw [upd_ne hqp]
            exact upd_same
          have hp8 := upd_same (H := upd (upd H6 l (.lst (row.map fun x => natV ((bfsN nx b (i + 1)).idxOf x)))) q (.tup (row.map fun x => natV ((bfsN nx b (i + 1)).idxOf x)))) (a := pp) (o := .lst (zs ++ [.ref q]))
          generalize upd (upd (upd H6 l (.lst (row.map fun x => natV ((bfsN nx b (i + 1)).idxOf x)))) q (.tup (row.map fun x => natV ((bfsN nx b (i + 1)).idxOf x)))) pp (.lst (zs ++ [.ref q])) = H8 at *
          have hol := ol Ro
          refine ⟨_, rfl, .inl ⟨rfl, _, SqL.of (k8 _ _ hpo6 ppo.symm)⟩, _, rfl, tt, _, 1, _, rfl, rfl, SqT.of (k8 _ _ htt6.1 htt6.2.1), rfl, r2, _, rfl, .inr ⟨SqT.of (k8 _ _ hr26.1 hr26.2.1), po, _, _, rfl, rfl, k8 _ _ hpo6 ppo.symm, small1000 (by omega), _, zs ++ [.ref q], os ++ [.ref r2], rfl, ?_, ?_, ?_, upd_same, ?_, ?_, ?_⟩⟩
          · rw [upd_ne ost.symm]
            exact k8 _ _ g1 pst.symm
          · rw [upd_ne ond.symm]
            exact k8 _ _ g2 pnd.symm
          · rw [upd_ne ppo]
            exact hp8
          · rw [eR]
            refine (rowsZ_keep (fun c ys e => ?_) Rz).snoc ?_
            · have := tne (s5 _ _ e)
              rw [upd_ne this.2.2]
              exact k8 _ _ this.1 this.2.1
            · rw [upd_ne hqo, hq8]
              unfold nrow
              rw [List.map_map]
              rfl
          · rw [eO]
            refine (rowsZ_keep (fun c ys e => ?_) Ro).snoc ?_
            · have := tne (s5 _ _ e)
              rw [upd_ne this.2.2]
              exact k8 _ _ this.1 this.2.1
            · rw [upd_ne hr26.2.2]
              exact k8 _ _ hr26.1 hr26.2.1
          · intro c o' e
            have cp : c ≠ pp := ne_of_none e hppH
            have co : c ≠ po := ne_of_none e hpoH
            rw [upd_ne co]
            exact k8 _ _ (g3 _ _ (s5 _ _ (s4 _ _ e)) (ne_of_none e hst) (ne_of_none e hndH)) cp
    · have hle : l0.length = i := by
        have : ¬ (i : Int) < (l0.length : Int) := fun z => hlt (decide_eq_true z)
        omega
      have hzz : zs.length ≤ 1000 := by omega
      have hoo : os.length ≤ 1000 := by have := ol Ro; omega
      refine ⟨_, rfl, _, rfl, pn, _, rfl, .inr ⟨SqT.of (s4 _ _ hpn), _, rfl, pp, _, rfl, .inl ⟨SqL.of hpp4, fun a1 ha1 => ⟨_, rfl, po, _, rfl, .inl ⟨SqL.of (same_upd ha1 _ _ hpo4), fun a2 ha2 => ⟨by show 4 ≤ sizeLine; decide, fun m hm => ⟨by show 2 ≤ sizeLine; decide, fun p hp => ?_⟩⟩⟩⟩⟩⟩⟩
      have q1 := same_upd (o := .tup zs) ha1
      have q2 := same_upd (o := .tup os) ha2
      have q3 := same_upd (o := .tup [.ref pn, .int 0, .ref a1, .ref a2]) hm
      have q4 := same_upd (o := .tup [.ref st, .ref m]) hp
      refine k p st m l0 _ ⟨by rw [hle, hl0], fun j hj => hgo j (by omega)⟩ upd_same ⟨⟨pn, a1, a2, q4 _ _ upd_same, (q1.trans (q2.trans (q3.trans q4))) _ _ (s4 _ _ hpn), ⟨zs, (q2.trans (q3.trans q4)) _ _ upd_same, ?_, fun j r hj => ?_⟩, ⟨os, (q3.trans q4) _ _ upd_same, ?_, fun j r hj => ?_⟩⟩⟩ (s4.trans (q1.trans (q2.trans (q3.trans q4))))
      · rw [hzl, List.length_map, List.length_map, hle]
      · have rf := rows_fin (nx := nx) (b := b) (i := i) (by rw [hl0]; exact hle) hgo
        rw [hl0] at rf
        rw [← rf] at hj
        obtain ⟨a, g1, g2⟩ := Rz.2 j r hj
        exact ⟨a, g1, (q1.trans (q2.trans (q3.trans q4))) _ _ g2⟩
      · rw [ol Ro, List.length_map, hle]
      · have rf := outs_fin (nx := nx) (ot := ot) (b := b) (i := i) (by rw [hl0]; exact hle) hgo
        rw [hl0] at rf
        rw [← rf] at hj
        obtain ⟨a, g1, g2⟩ := Ro.2 j r hj
        exact ⟨a, g1, (q1.trans (q2.trans (q3.trans q4))) _ _ g2⟩
noncomputable def sp_least (K : PySem.W.Frag) (pw : Addr) : Sp := fun vs H Q _ => ∃ (m : Addr) (nm : List Str) (b : Nat) (nx : List (List Nat)) (ot : List (List V)) (tr : Bool), vs = [.ref m] ∧ M4 H m nm b nx ot ∧ Wf nm b nx ot tr ∧ TabOk H pw lpos_least qual_least ∧
  ∀ f (l cs : List Nat) H', BfsE nx b l → cs = clsN (rnR nx l) (kosF (rnO ot l)) l.length → Stab (rnR nx l) cs → ClsOf (kosF (rnO ot l)) cs → M4 H' f nm 0 (lsR (rnR nx l) cs) (lsO (rnO ot l) cs) → TabOk H' pw lpos_least qual_least → OffT pw H H' → Q (.ref f) H'
theorem ok_least (T : Txt K w mg t) (TB : Tbs mg base t) : FnOk P w K mg base CX0 14 t.a_least t.f_least ["machine"] (sp_least K t.p_least) := by
  have G_classes_of : FnOk P w K mg base CX0 1 t.a_classes_of t.f_classes_of ["states", "classes"] (sp_classes_of K) := ok_classes_of T TB
  have G_firsts_of : FnOk P w K mg base CX0 1 t.a_firsts_of t.f_firsts_of ["classes"] (sp_firsts_of K) := ok_firsts_of T TB
  have G_alike_classes : FnOk P w K mg base CX0 2 t.a_alike_classes t.f_alike_classes ["steps", "out"] (sp_alike_classes K) := ok_alike_classes T TB
  have G_machine_found : FnOk P w K mg base CX0 13 t.a_machine_found t.f_machine_found ["names", "begin", "step_of"] (sp_machine_found P w K mg base) := ok_machine_found T TB
  refine T.d_least.F.okC sc_least (fun vs H Q E h => ?_) (fun A outer s H vs Q E hr h => ?_)
  · obtain ⟨m, nm, b, nx, ot, tr, rfl, M, W, B, k⟩ := h
    rfl
  · obtain ⟨m, nm, b, nx, ot, tr, rfl, M, W, B, k⟩ := h
    have hu := hu_of hr
    refine ⟨_, @QSs.out _ _ _ (qss_cons (qs_set (i := 1) sc_least.nd rfl (Or.inl rfl) (qe_ix ix_tup (qe_callL3 (kl := 11) G_machine_found (hr.mono (by decide)) rfl T.d_machine_found.m T.d_machine_found.F.kp T.d_machine_found.b rfl (qe_ix ix_tup (qv 0) qe_int (fun _ _ => rfl)) (qe_ix ix_tup (qv 0) qe_int (fun _ _ => rfl)) T.k_least TB.c_least TB.B rfl rfl rfl rfl (⟨⟨by rfl, by rfl, by rfl, by decide +kernel, by decide +kernel, by decide +kernel, by decide +kernel⟩, by decide +kernel, by decide +kernel, by rfl⟩ : LamAt (defScope s_least) _ ["machine", "found", "steps", "out", "classes", "firsts", "least_steps", "least_out"] ["state"] ["machine"] [0]) (fun _ _ _ _ us hl => match us, hl with | [_], _ => rfl) (fun _ _ _ _ _ _ _ hrl => (qe_tup (qa_c (qe_ix (show IxR _ (rIxT K) from ix_tup) (qe_ix (show IxR _ (rIxT K) from ix_tup) (qv 1) qe_int (fun _ _ => rfl)) (qv 0) (fun _ _ => rfl)) (qa_c (qe_ix (show IxR _ (rIxT K) from ix_tup) (qe_ix (show IxR _ (rIxT K) from ix_tup) (qv 1) qe_int (fun _ _ => rfl)) (qv 0) (fun _ _ => rfl)) qa_nil))))) qe_int (fun _ _ => rfl)))
        (qss_cons (qs_set (i := 2) sc_least.nd rfl (Or.inr rfl) (qe_ix ix_tup (qv 1) qe_int (fun _ _ => rfl)))
        (qss_cons (qs_set (i := 3) sc_least.nd rfl (Or.inr rfl) (qe_ix ix_tup (qv 1) qe_int (fun _ _ => rfl)))
        (qss_cons (qs_set (i := 4) sc_least.nd rfl (Or.inr rfl) (qe_callF G_alike_classes (hr.mono (by decide)) rfl T.d_alike_classes.m T.d_alike_classes.F.kp T.d_alike_classes.b .nil pass0 (qa_c (qv 2) (qa_c (qv 3) qa_nil))))
        (qss_cons (qs_set (i := 5) sc_least.nd rfl (Or.inl rfl) (qe_callF G_firsts_of (hr.mono (by decide)) rfl T.d_firsts_of.m T.d_firsts_of.F.kp T.d_firsts_of.b .nil pass0 (qa_c (qv 4) qa_nil)))
        (qss_cons (qs_setC (i := 6) sc_least.nd rfl rfl (⟨by rfl, by decide +kernel, by decide +kernel, by rfl, by decide +kernel, by decide +kernel, by rfl, by decide +kernel⟩ : CompSc (defScope s_least) _ ["machine", "found", "steps", "out", "classes", "firsts", "least_steps", "least_out"] "state" ["classes", "steps"] [4, 2]) (qi_list (qv 5)) (fun _ _ _ _ => qf_nil) (fun _ _ _ _ => (qe_callF G_classes_of (hr.mono (by decide)) rfl T.d_classes_of.m T.d_classes_of.F.kp T.d_classes_of.b .nil pass0 (qa_c (qe_ix (show IxR _ (rIxT K) from ix_tup) (qv 2) (qv 0) (fun _ _ => rfl)) (qa_c (qv 1) qa_nil)))))
        (qss_cons (qs_setC (i := 7) sc_least.nd rfl rfl (⟨by rfl, by decide +kernel, by decide +kernel, by rfl, by decide +kernel, by decide +kernel, by rfl, by decide +kernel⟩ : CompSc (defScope s_least) _ ["machine", "found", "steps", "out", "classes", "firsts", "least_steps", "least_out"] "state" ["out"] [3]) (qi_list (qv 5)) (fun _ _ _ _ => qf_nil) (fun _ _ _ _ => (qe_ix (show IxR _ (rIxT K) from ix_tup) (qv 1) (qv 0) (fun _ _ => rfl))))
        (qss_one (qs_ret (qe_tup (qa_c (qe_ix ix_tup (qv 1) qe_int (fun _ _ => rfl)) (qa_c qe_int (qa_c (qe_callTF call_tuple_of (by rfl) T.z_tuple bt_tuple (qa_c (qv 6) qa_nil)) (qa_c (qe_callTF call_tuple_of (by rfl) T.z_tuple bt_tuple (qa_c (qv 7) qa_nil)) qa_nil)))))))))))))), ?_⟩
    clear hu hr
    try dsimp only [L2.cxK, L2.cxK2]
    refine L2.let8 ?_
    intro U7 U6 U5 U4 U3 U2 U1
    refine hideG fun Gz hGz => ?_
    obtain ⟨pn, ps, po, hm, hn, R, O⟩ := M.ex
    refine hGz ?_
    clear hGz Gz
    obtain ⟨pz, hpz⟩ := B.ex
    have tP : ∀ {b : Addr} {xs : List V}, H b = some (.tup xs) → b ≠ t.p_least := fun e => ne_of e hpz (fun z => nomatch z)
    refine ⟨_, rfl, m, _, 0, _, rfl, rfl, SqT.of hm, rfl, _, rfl, m, _, 1, _, rfl, rfl, SqT.of hm, rfl, B, fun cs f H2 hcs hfz hf hT2 o2 hc => ?_⟩
    have t2 : ∀ (b : Addr) (xs : List V), H b = some (.tup xs) → H2 b = some (.tup xs) := fun b xs e => o2 _ _ e (tP e)
    have hL8 := p8 W.n3
    refine ⟨pn, f, nm, b, nx, ot, _, rfl, t2 _ _ hn, W.b, (fun row h => ⟨by rw [W.nr row h]; exact hL8, W.nl row h⟩), W.ol, by have := W.le; omega, W.n3, (fun r h => by rw [W.or r h]; exact hL8), hc, fun s row o H1 Q' hrow ho sH hQ => ⟨rfl, ?_⟩, fun p sts fm l H3 B3 hp M3 s3 => ?_⟩
    · have th : ∀ (b : Addr) (xs : List V), H b = some (.tup xs) → hide cs H1 b = some (.tup xs) := fun b xs e => hide_keep hfz sH (sH _ _ (t2 _ _ e)) (fun o z => nomatch z)
      refine hideG fun Gz hGz => ?_
      obtain ⟨pn', ps', po', hm', _, R', O'⟩ := (M.tups th).ex
      refine hGz ?_
      clear hGz Gz
      refine hideG fun Gz hGz => ?_
      obtain ⟨as1, a1, g1, g2, g3⟩ := rowE_at R' (i := s) (by rw [List.length_map]; exact (List.getElem?_eq_some_iff.mp hrow).1)
      refine hGz ?_
      clear hGz Gz
      refine hideG fun Gz hGz => ?_
      obtain ⟨as2, a2, f1, f2, f3⟩ := rowE_at O' (i := s) (List.getElem?_eq_some_iff.mp ho).1
      refine hGz ?_
      clear hGz Gz
      rw [nrow_getD, List.getD_eq_getElem?_getD, hrow] at g3
      rw [List.getD_eq_getElem?_getD, ho] at f3
      refine ⟨_, rfl, m, _, 2, _, rfl, rfl, SqT.of hm', rfl, _, rfl, ps', _, _, _, rfl, rfl, SqT.of g1, g2, _, rfl, m, _, 3, _, rfl, rfl, SqT.of hm', rfl, _, rfl, po', _, _, _, rfl, rfl, SqT.of f1, f2, by show 2 ≤ sizeLine; decide, fun q hq hcn => ?_⟩
      obtain ⟨sq, hq2⟩ := lam_new hq hcn
      exact hQ q a1 a2 _ hq2 (sq _ _ (of_hide g3).2) (sq _ _ (of_hide f3).2) sq
    have t3 : ∀ (b : Addr) (xs : List V), H3 b = some (.tup xs) → hide cs H3 b = some (.tup xs) := fun b xs e => hide_keep hfz s3 e (fun o z => nomatch z)
    have T3 := hT2 H3 s3
    have off3 : OffT t.p_least H (hide cs H3) := fun b o e hb => by
      rw [hide_out (fun m => by rw [hcs b m] at e; cases e)]
      exact s3 _ _ (o2 _ _ e hb)
    have M3' : M4 (hide cs H3) fm nm 0 (rnR nx l) (rnO ot l) := M3.tups t3
    have hp' := t3 _ _ hp
    try dsimp only
    generalize hide cs H3 = H4 at *
    have W1 := wf_rn W B3
    have hl1 := rnR_len nx l
    have hle := W1.le
    have hb1 := W1.b
    have C1 := canon_rn B3
    refine hideG fun Gz hGz => ?_
    obtain ⟨pn4, ps4, po4, hm4, hn4, R4, O4⟩ := M3'.ex
    refine hGz ?_
    clear hGz Gz
    refine ⟨p, _, 1, _, rfl, rfl, SqT.of hp', rfl, gName_go ?_⟩
    refine ⟨_, rfl, fm, _, 2, _, rfl, rfl, SqT.of hm4, rfl, _, rfl, fm, _, 3, _, rfl, rfl, SqT.of hm4, rfl, _, rfl, _, rfl, ps4, po4, rnR nx l, rnO ot l, kosF (rnO ot l), rfl, R4, O4, kosF_wf W1, W1.ol, (fun row h => ⟨by rw [W1.nr row h]; exact hL8, W1.nl row h⟩), hb1, by omega, fun pc cs' H5 hpc0 hpc hcl hst hnn hcls hcn s5 => ?_⟩
    have S : Stab (rnR nx l) cs' := ⟨hcl, hst⟩
    have F := frsts_ok hnn
    have hfl := frsts_len cs'
    rw [hl1] at hcn hle
    have hcl' : cs'.length = l.length := by rw [hcl, hl1]
    refine ⟨_, rfl, pc, cs'.map fun c : Nat => (c : Int), rfl, by rw [hpc, List.map_map]; rfl, by rw [List.length_map]; omega, fun pf H6 hpf0 hpf s6 => ?_⟩
    have hpf : H6 pf = some (.lst ((frsts cs').map natV)) := hpf
    have s56 := s5.trans s6
    have fR : ∀ {i f : Nat}, (frsts cs')[i]? = some f → f < (rnR nx l).length := fun {i f} h => by
      rw [← hcl]
      exact (List.getElem?_eq_some_iff.mp (F.at_ _ _ h).1).1
    have fl : (frsts cs').length ≤ 100 := by omega
    refine gName_go ⟨_, rfl, pf, rfl, ⟨_, SqL.of hpf⟩, comp_list (K := K) (a := pf) (xs := (frsts cs').map natV) (fun i zs H' => RowsZ H' zs (((lsR (rnR nx l) cs').map nrow).take i) ∧ i ≤ (frsts cs').length ∧ Same H6 H') ⟨RowsZ.nil, Nat.zero_le _, Same.refl _⟩ (fun i zs H' h => ?_) (fun i zs H' h => SqL.of (h.2.2 _ _ hpf)) (fun i x zs H7 R7 hR hx h => ?_) (fun zs H7 h p1 hp1 => ?_)⟩
    · rw [h.1.1, List.length_take]
      exact Nat.le_of_lt (small1000 (by omega))
    · obtain ⟨hZ, hi, s7⟩ := h
      rw [List.getElem?_map] at hx
      obtain ⟨f1, hf1, rfl⟩ := Option.map_eq_some_iff.mp hx
      have hil := (List.getElem?_eq_some_iff.mp hf1).1
      have hfr := fR hf1
      have s47 := s56.trans s7
      refine hideG fun Gz hGz => ?_
      obtain ⟨as1, a1, g1, g2, g3⟩ := rowE_at (R4.same s47) (i := f1) (by rw [List.length_map]; exact hfr)
      refine hGz ?_
      clear hGz Gz
      rw [nrow_getD] at g3
      have r8 := W1.nr _ (getD_mem hfr)
      refine yesT ⟨_, rfl, _, rfl, ps4, _, _, _, rfl, rfl, SqT.of g1, g2, _, rfl, a1, pc, (rnR nx l).getD f1 [], cs'.map fun c : Nat => (c : Int), rfl, g3, ?_, (fun s hs => ?_), by omega, by rw [List.length_map]; omega, fun q H8 hq0 hq s8 => hR _ _ ⟨?_, hil, s7.trans s8⟩⟩
      · rw [(s6.trans s7) _ _ hpc, List.map_map]
        rfl
      · rw [List.length_map, hcl]
        exact W1.nl _ (getD_mem hfr) s hs
      · have e1 : ((lsR (rnR nx l) cs').map nrow)[i]? = some (nrow (((rnR nx l).getD f1 []).map fun x => cs'.getD x 0)) := by
          unfold lsR
          rw [List.getElem?_map, List.getElem?_map, hf1]
          rfl
        have e2 : (((rnR nx l).getD f1 []).map fun s => (cs'.map fun c : Nat => (c : Int)).getD s 0).map V.int = nrow (((rnR nx l).getD f1 []).map fun x => cs'.getD x 0) := by
          unfold nrow
          rw [List.map_map, List.map_map]
          refine List.map_congr_left fun s _ => ?_
          exact congrArg V.int (getD_cast cs' s)
        rw [e2] at hq
        rw [take_snoc e1]
        exact (hZ.same s8).snoc hq
    obtain ⟨hZ, _, s7⟩ := h
    have ll : ((frsts cs').map natV).length = ((lsR (rnR nx l) cs').map nrow).length := by
      unfold lsR
      rw [List.length_map, List.length_map, List.length_map]
    rw [ll, List.take_length] at hZ
    have u1 := same_upd (o := .lst zs) hp1
    have hp1' : upd H7 p1 (.lst zs) p1 = some (.lst zs) := upd_same
    have hZ1 := hZ.same u1
    have s67 := s7.trans u1
    try dsimp only
    generalize upd H7 p1 (.lst zs) = H8 at *
    have hpf8 := s67 _ _ hpf
    refine gName_go ⟨_, rfl, pf, rfl, ⟨_, SqL.of hpf8⟩, comp_list (K := K) (a := pf) (xs := (frsts cs').map natV) (fun i zs H' => RowsZ H' zs ((lsO (rnO ot l) cs').take i) ∧ i ≤ (frsts cs').length ∧ Same H8 H') ⟨RowsZ.nil, Nat.zero_le _, Same.refl _⟩ (fun i zs H' h => ?_) (fun i zs H' h => SqL.of (h.2.2 _ _ hpf8)) (fun i x zs H9 R9 hR hx h => ?_) (fun zs2 H9 h p2 hp2 => ?_)⟩
    · rw [h.1.1, List.length_take]
      exact Nat.le_of_lt (small1000 (by omega))
    · obtain ⟨hZ, hi, s9⟩ := h
      rw [List.getElem?_map] at hx
      obtain ⟨f1, hf1, rfl⟩ := Option.map_eq_some_iff.mp hx
      have hil := (List.getElem?_eq_some_iff.mp hf1).1
      have hfr := fR hf1
      refine hideG fun Gz hGz => ?_
      obtain ⟨as1, a1, g1, g2, g3⟩ := rowE_at (O4.same ((s56.trans s67).trans s9)) (i := f1) (by rw [W1.ol]; exact hfr)
      refine hGz ?_
      clear hGz Gz
      refine yesT ⟨_, rfl, _, rfl, po4, _, _, _, rfl, rfl, SqT.of g1, g2, hR _ _ ⟨?_, hil, s9⟩⟩
      have e1 : (lsO (rnO ot l) cs')[i]? = some ((rnO ot l).getD f1 []) := by
        unfold lsO
        rw [List.getElem?_map, hf1]
        rfl
      rw [take_snoc e1]
      exact hZ.snoc g3
    obtain ⟨hO, _, s9⟩ := h
    have ll2 : ((frsts cs').map natV).length = (lsO (rnO ot l) cs').length := by
      unfold lsO
      rw [List.length_map, List.length_map]
    rw [ll2, List.take_length] at hO
    have u2 := same_upd (o := .lst zs2) hp2
    have s4z := (s56.trans s67).trans (s9.trans u2)
    have hm9 := s4z _ _ hm4
    refine gName_go ⟨_, rfl, fm, _, 0, _, rfl, rfl, SqT.of hm9, rfl, _, rfl, p1, _, rfl, .inl ⟨SqL.of ((s9.trans u2) _ _ hp1'), fun a1 ha1 => ⟨_, rfl, p2, _, rfl, .inl ⟨SqL.of (same_upd ha1 _ _ upd_same), fun a2 ha2 => ⟨by show 4 ≤ sizeLine; decide, fun fr hfr => ?_⟩⟩⟩⟩⟩
    have q1 := same_upd (o := .tup zs) ha1
    have q2 := same_upd (o := .tup zs2) ha2
    have q3 := same_upd (o := .tup [.ref pn4, .int 0, .ref a1, .ref a2]) hfr
    have q := (q1.trans q2).trans q3
    have s4q := s4z.trans q
    refine k fr l cs' _ B3 hcn S hcls ⟨⟨pn4, a1, a2, upd_same, s4q _ _ hn4, ⟨zs, (q2.trans q3) _ _ upd_same, (hZ1.same ((s9.trans u2).trans q)).1, (hZ1.same ((s9.trans u2).trans q)).2⟩, ⟨zs2, q3 _ _ upd_same, (hO.same (u2.trans q)).1, (hO.same (u2.trans q)).2⟩⟩⟩ (T3.same s4q) (fun b o e hb => s4q _ _ (off3 b o e hb))
noncomputable def sp_law (K : PySem.W.Frag) (pw : Addr) : Sp := fun vs H Q _ => ∃ (a : Addr) (ns : List Int), vs = [.ref a] ∧ SqL K H a (ns.map V.int) ∧ ns.length ≤ 63 ∧ TabOk H pw lpos_least qual_least ∧ ∀ H', Q (.bl true) H'
theorem ok_law (T : Txt K w mg t) (TB : Tbs mg base t) : FnOk P w K mg base CX0 15 t.a_law t.f_law ["script"] (sp_law K t.p_least) := by
  have G_least : FnOk P w K mg base CX0 14 t.a_least t.f_least ["machine"] (sp_least K t.p_least) := ok_least T TB
  have G_law_turned : FnOk P w K mg base CX0 2 t.a_law_turned t.f_law_turned ["machine", "cell"] (sp_law_turned K) := ok_law_turned T TB
  have G_law_cell_at : FnOk P w K mg base CX0 1 t.a_law_cell_at t.f_law_cell_at ["script", "k"] (sp_law_cell_at K) := ok_law_cell_at T TB
  have G_law_apart : FnOk P w K mg base CX0 2 t.a_law_apart t.f_law_apart ["machine"] (sp_law_apart K) := ok_law_apart T TB
  have G_law_blown : FnOk P w K mg base CX0 1 t.a_law_blown t.f_law_blown ["machine", "numbers", "many"] (sp_law_blown K) := ok_law_blown T TB
  have G_law_numbers : FnOk P w K mg base CX0 1 t.a_law_numbers t.f_law_numbers ["cell", "many", "most"] (sp_law_numbers K) := ok_law_numbers T TB
  have G_law_machine : FnOk P w K mg base CX0 2 t.a_law_machine t.f_law_machine ["cell", "rows", "names", "states", "truths"] (sp_law_machine K) := ok_law_machine T TB
  have G_law_names : FnOk P w K mg base CX0 2 t.a_law_names t.f_law_names ["cell", "many"] (sp_law_names K) := ok_law_names T TB
  refine T.d_law.F.ok sc_law (fun vs H Q E h => ?_) (fun cdv A outer s H vs Q E hr h => ?_)
  · obtain ⟨a, ns, rfl, hS, hl, B, k⟩ := h
    rfl
  · obtain ⟨a, ns, rfl, hS, hl, B, k⟩ := h
    have hu := hu_of hr
    refine ⟨_, @QSs.out _ _ _ (qss_cons (qs_set (i := 1) sc_law.nd rfl (Or.inl rfl) (qe_callF G_law_cell_at (hr.mono (by decide)) rfl T.d_law_cell_at.m T.d_law_cell_at.F.kp T.d_law_cell_at.b .nil pass0 (qa_c (qv 0) (qa_c qe_int qa_nil))))
        (qss_cons (qs_set (i := 2) sc_law.nd rfl (Or.inl rfl) (qe_callF G_law_names (hr.mono (by decide)) rfl T.d_law_names.m T.d_law_names.F.kp T.d_law_names.b .nil pass0 (qa_c (qe_callF G_law_cell_at (hr.mono (by decide)) rfl T.d_law_cell_at.m T.d_law_cell_at.F.kp T.d_law_cell_at.b .nil pass0 (qa_c (qv 0) (qa_c qe_int qa_nil))) (qa_c (qe_op op_mod (qv 1) qe_int) qa_nil))))
        (qss_cons (qs_set (i := 3) sc_law.nd rfl (Or.inl rfl) (qe_op op_add qe_int (qe_op op_mod (qe_op op_fdivB (qv 1) qe_int) qe_int)))
        (qss_cons (qs_if (qt_cmpR op_eq (qe_op op_mod (qe_op op_fdivB (qv 1) qe_int) qe_int) qe_int (nomark _))
        (qss_cons (qs_set (i := 2) sc_law.nd rfl (Or.inl rfl) (qe_slice (SlR.or sl_tup sl_tupW) (qv 2) qo_none (qo_some qe_int)))
        (qss_one (qs_set (i := 3) sc_law.nd rfl (Or.inl rfl) (qe_op op_add qe_int (qe_op op_mod (qe_op op_fdivB (qv 1) qe_int) qe_int))))) qss_nil)
        (qss_cons (qs_set (i := 4) sc_law.nd rfl (Or.inl rfl) (qe_cmpR op_eq (qe_op op_mod (qe_callF G_law_cell_at (hr.mono (by decide)) rfl T.d_law_cell_at.m T.d_law_cell_at.F.kp T.d_law_cell_at.b .nil pass0 (qa_c (qv 0) (qa_c qe_int qa_nil))) qe_int) qe_int (nomark _)))
        (qss_cons (qs_set (i := 5) sc_law.nd rfl (Or.inl rfl) (qe_callF G_law_machine (hr.mono (by decide)) rfl T.d_law_machine.m T.d_law_machine.F.kp T.d_law_machine.b .nil pass0 (qa_c (qe_callF G_law_cell_at (hr.mono (by decide)) rfl T.d_law_cell_at.m T.d_law_cell_at.F.kp T.d_law_cell_at.b .nil pass0 (qa_c (qv 0) (qa_c qe_int qa_nil))) (qa_c (qe_callF G_law_cell_at (hr.mono (by decide)) rfl T.d_law_cell_at.m T.d_law_cell_at.F.kp T.d_law_cell_at.b .nil pass0 (qa_c (qv 0) (qa_c qe_int qa_nil))) (qa_c (qv 2) (qa_c (qv 3) (qa_c (qv 4) qa_nil)))))))
        (qss_cons (qs_set (i := 6) sc_law.nd rfl (Or.inl rfl) (qe_op op_add (qe_op op_add (qv 3) qe_int) (qe_op op_mod (qe_callF G_law_cell_at (hr.mono (by decide)) rfl T.d_law_cell_at.m T.d_law_cell_at.F.kp T.d_law_cell_at.b .nil pass0 (qa_c (qv 0) (qa_c qe_int qa_nil))) qe_int)))
        (qss_cons (qs_set (i := 7) sc_law.nd rfl (Or.inl rfl) (qe_callF G_law_blown (hr.mono (by decide)) rfl T.d_law_blown.m T.d_law_blown.F.kp T.d_law_blown.b .nil pass0 (qa_c (qv 5) (qa_c (qe_callF G_law_numbers (hr.mono (by decide)) rfl T.d_law_numbers.m T.d_law_numbers.F.kp T.d_law_numbers.b .nil pass0 (qa_c (qe_callF G_law_cell_at (hr.mono (by decide)) rfl T.d_law_cell_at.m T.d_law_cell_at.F.kp T.d_law_cell_at.b .nil pass0 (qa_c (qv 0) (qa_c qe_int qa_nil))) (qa_c (qe_op op_mulB qe_int (qv 6)) (qa_c qe_int qa_nil)))) (qa_c (qv 6) qa_nil)))))
        (qss_cons (qs_set (i := 8) sc_law.nd rfl (Or.inl rfl) (qe_callF G_least (hr.mono (by decide)) rfl T.d_least.m T.d_least.F.kp T.d_least.b .nil pass0 (qa_c (qv 5) qa_nil)))
        (qss_cons (qs_if (qw_pt (qw_or (qt_not (qt_val (qe_callF G_law_apart (hr.mono (by decide)) rfl T.d_law_apart.m T.d_law_apart.F.kp T.d_law_apart.b .nil pass0 (qa_c (qv 8) qa_nil)))) (qw_or (qt_cmpR (op_neB (units4_of hr)) (qe_callF G_least (hr.mono (by decide)) rfl T.d_least.m T.d_least.F.kp T.d_least.b .nil pass0 (qa_c (qv 7) qa_nil)) (qv 8) (nomark _)) (qw_or1 (qt_cmpR (op_neB (units4_of hr)) (qe_callF G_least (hr.mono (by decide)) rfl T.d_least.m T.d_least.F.kp T.d_least.b .nil pass0 (qa_c (qv 8) qa_nil)) (qv 8) (nomark _))))))
        (qss_one (qs_ret qe_bl)) qss_nil)
        (qss_one (qs_ret (qe_cmpR (op_neB (units4_of hr)) (qe_callF G_least (hr.mono (by decide)) rfl T.d_least.m T.d_least.F.kp T.d_least.b .nil pass0 (qa_c (qe_callF G_law_turned (hr.mono (by decide)) rfl T.d_law_turned.m T.d_law_turned.F.kp T.d_law_turned.b .nil pass0 (qa_c (qv 5) (qa_c (qe_callF G_law_cell_at (hr.mono (by decide)) rfl T.d_law_cell_at.m T.d_law_cell_at.F.kp T.d_law_cell_at.b .nil pass0 (qa_c (qv 0) (qa_c qe_int qa_nil))) qa_nil))) qa_nil)) (qv 8) (nomark _)))))))))))))), ?_⟩
    clear hu hr
    try dsimp only [L2.cxK, L2.cxK2]
    refine L2.let11 ?_
    intro U10 U9 U8 U7 U6 U5 U4 U3 U2 U1
    refine ⟨_, rfl, a, ns, 0, rfl, hS, fun sh => ?_⟩
    obtain ⟨mn, hmn⟩ : ∃ j : Nat, sh % 4 = (j : Int) := ⟨(sh % 4).toNat, by omega⟩
    refine ⟨_, rfl, a, ns, 1, rfl, hS, fun c1 => ⟨_, rfl, _, _, rfl, rfl, (by show (0 : Int) < 4; decide), c1, mn, ?_, by omega, fun nm ys H1 hnm h1 hy3 _ s1 => ?_⟩⟩
    · show [V.int c1, V.int (sh % 4)] = _
      rw [hmn]
    refine ⟨_, rfl, _, _, rfl, rfl, .of (by decide) (by decide), _, _, rfl, rfl, (by show (0 : Int) < 12; decide), _, _, rfl, rfl, ?_⟩
    try dsimp only
    obtain ⟨S, hSn⟩ : ∃ j : Nat, 1 + sh / 4 % 12 = (j : Int) := ⟨(1 + sh / 4 % 12).toNat, by omega⟩
    rw [hSn]
    refine gName_go ?_
    show U3 { nx := fun x H' => Q .non H', rt := Q } _ _
    refine seq_join (fun σ H5 => ∃ (nm2 : Addr) (ys2 : List Str) (S2 : Nat), σ = [some (.ref a), some (.int sh), some (.ref nm2), some (.int S2), none, none, none, none, none] ∧ H5 nm2 = some (.tup (ys2.map V.str)) ∧ ys2.length ≤ 3 ∧ 1 ≤ S2 ∧ S2 ≤ 50 ∧ Same H H5) (fun N hN => ?_) ?_
    · refine ⟨_, rfl, _, _, rfl, rfl, .of (by decide) (by decide), _, _, rfl, rfl, (by show (0 : Int) < 4; decide), rfl, _, rfl, ite2 (fun _ => ?_) (fun _ => hN _ _ ⟨nm, ys, S, rfl, h1, hy3, by omega, by omega, s1⟩)⟩
      obtain ⟨S2, hS2⟩ : ∃ j : Nat, 13 + sh / 192 % 38 = (j : Int) := ⟨(13 + sh / 192 % 38).toNat, by omega⟩
      refine ⟨_, rfl, 2, rfl, ?_⟩
      by_cases hw : HT.sIx (ys.map V.str).length 0 none = 0 ∧ HT.sIx (ys.map V.str).length (ys.map V.str).length (some 2) = (ys.map V.str).length
      · refine .inr ⟨nm, _, rfl, SqT.of h1, hw, ?_⟩
        refine ⟨_, rfl, _, _, rfl, rfl, .of (by decide) (by decide), _, _, rfl, rfl, (by show (0 : Int) < 38; decide), _, _, rfl, rfl, ?_⟩
        try dsimp only
        rw [hS2]
        exact gName_go (hN _ _ ⟨nm, ys, S2, rfl, h1, hy3, by omega, by omega, s1⟩)
      · refine .inl ⟨nm, _, rfl, SqT.of h1, hw, fun q hq => ?_⟩
        refine ⟨_, rfl, _, _, rfl, rfl, .of (by decide) (by decide), _, _, rfl, rfl, (by show (0 : Int) < 38; decide), _, _, rfl, rfl, ?_⟩
        try dsimp only
        rw [hS2]
        refine gName_go (hN _ _ ⟨q, ys.take 2, S2, rfl, ?_, by rw [List.length_take]; omega, by omega, by omega, s1.trans (same_upd hq)⟩)
        rw [upd_same, List.map_take]
        exact congrArg (fun x => some (HO.tup x)) (cutV_upto (ys.map V.str) 2)
    rintro σ H5 hz_
    refine hideG fun Gz hGz => ?_
    obtain ⟨nm2, ys2, S2, rfl, h5, hy5, hs1, hs2, s5⟩ := hz_
    refine hGz ?_
    clear hGz Gz
    refine ⟨_, rfl, a, ns, 7, rfl, s5.seq hS, fun c7 => ⟨_, _, rfl, rfl, (by show (0 : Int) < 3; decide), rfl, ?_⟩⟩
    generalize decide (V.int (c7 % 3) = V.int 1) = tr
    try dsimp only
    refine gName_go ?_
    refine ⟨_, rfl, a, ns, 2, rfl, s5.seq hS, fun c2 => ⟨_, rfl, a, ns, 3, rfl, s5.seq hS, fun c3 => ⟨_, rfl, _, rfl, _, rfl, c2, c3, nm2, ys2, S2, tr, rfl, h5, hs1, by omega, hy5, fun m b nx ot H6 hm M W ln s6 => gName_go ?_⟩⟩⟩
    have s56 := s5.trans s6
    refine ⟨_, rfl, _, _, rfl, rfl, _, rfl, a, ns, 6, rfl, s56.seq hS, fun c6 => ⟨_, _, rfl, rfl, (by show (0 : Int) < 12; decide), _, _, rfl, rfl, ?_⟩⟩
    try dsimp only
    obtain ⟨mm, hmm⟩ : ∃ j : Nat, (S2 : Int) + 1 + c6 % 12 = (j : Int) := ⟨((S2 : Int) + 1 + c6 % 12).toNat, by omega⟩
    rw [hmm]
    refine gName_go ⟨_, rfl, _, rfl, a, ns, 4, rfl, s56.seq hS, fun c4 => ⟨_, rfl, _, _, rfl, rfl, .inr (.inl ⟨by decide, by decide⟩), c4, 3 * mm, 1000003, ?_, by omega, by decide, by decide, fun pq xs H7 hpq h7 hl7 _ s7 => ⟨_, rfl, m, pq, ys2, b, nx, ot, tr, xs, mm, rfl, M.same s7, W, h7, by omega, by omega, by omega, fun m' b' nx' ot' H8 M8 W8 ln8 hA s8 => gName_go ?_⟩⟩⟩
    · show [V.int c4, V.int (3 * (mm : Int)), V.int 1000003] = [V.int c4, V.int ((3 * mm : Nat) : Int), V.int ((1000003 : Nat) : Int)]
      rw [Int.natCast_mul]
      rfl
    obtain ⟨A0, hA⟩ := hA
    have s08 := (s56.trans s7).trans s8
    have B8 := B.same s08
    refine ⟨_, rfl, m, ys2, b, nx, ot, tr, rfl, M.same (s7.trans s8), W, B8, fun f l cs H9 hB hcs St hcl M9 T9 o9 => gName_go ?_⟩
    have L : Lst ys2 b nx ot tr l cs := ⟨W, hB, hcs, St, hcl⟩
    have Mm9 := (M.same (s7.trans s8)).tups (o9.tup B8.ex)
    have Mo9 := M8.tups (o9.tup B8.ex)
    have hS9 := o9.seq B8.ex (s08.seq hS)
    refine ⟨_, rfl, f, ys2, 0, _, _, tr, rfl, M9, L.W2, least_apart L, fun H10 s10 => ⟨_, rfl, iteF ⟨_, rfl, m', ys2, b', nx', ot', tr, rfl, Mo9.same s10, W8, T9.same s10, fun f2 l2 cs2 H11 hB2 hcs2 St2 hcl2 M11 T11 o11 => ?_⟩⟩⟩
    have L2 : Lst ys2 b' nx' ot' tr l2 cs2 := ⟨W8, hB2, hcs2, St2, hcl2⟩
    have T10 := T9.same s10
    have Mf11 := (M9.same s10).tups (o11.tup T10.ex)
    refine hideG fun Gz hGz => ?_
    obtain ⟨xs1, zs1, e1, g1, g2, g3, g4⟩ := m4_neB M11 Mf11 L2.W2.ok L.W2.ok
    refine hGz ?_
    clear hGz Gz
    refine ⟨_, rfl, f2, f, xs1, zs1, e1, rfl, rfl, g1, g2, g3, _, rfl, ?_⟩
    rw [g4.mpr (least_eq L2 L hA)]
    have hS11 := o11.seq T10.ex (s10.seq hS9)
    have Mm11 := (Mm9.same s10).tups (o11.tup T10.ex)
    refine iteF ⟨_, rfl, f, ys2, 0, _, _, tr, rfl, Mf11, L.W2, T11, fun f3 l3 cs3 H12 hB3 hcs3 St3 hcl3 M12 T12 o12 => ?_⟩
    have L3 : Lst ys2 0 _ _ tr l3 cs3 := ⟨L.W2, hB3, hcs3, St3, hcl3⟩
    have Mf12 := Mf11.tups (o12.tup T11.ex)
    refine hideG fun Gz hGz => ?_
    obtain ⟨xs2, zs2, e2, k1, k2, k3, k4⟩ := m4_neB M12 Mf12 L3.W2.ok L.W2.ok
    refine hGz ?_
    clear hGz Gz
    refine ⟨_, rfl, f3, f, xs2, zs2, e2, rfl, rfl, k1, k2, k3, _, rfl, ?_⟩
    rw [k4.mpr (least_eq L3 L L.al.bis.symm)]
    refine iteF ?_
    have hS12 := o12.seq T11.ex hS11
    have Mm12 := Mm11.tups (o12.tup T11.ex)
    refine ⟨_, rfl, _, rfl, a, ns, 5, rfl, hS12, fun c5 => ⟨m, c5, ys2, b, nx, ot, tr, rfl, Mm12, W, fun mt ot3 l4 z H13 hB4 hz hne W13 M13 s13 => ⟨mt, ys2, b, nx, ot3, tr, rfl, M13, W13, T12.same s13, fun f5 l5 cs5 H14 hB5 hcs5 St5 hcl5 M14 T14 o14 => ?_⟩⟩⟩
    have el := bfsE_uniq hB4 hB
    have el5 := bfsE_uniq hB5 hB
    subst el
    subst el5
    have L5 : Lst ys2 b nx ot3 tr _ cs5 := ⟨W13, hB5, hcs5, St5, hcl5⟩
    have T13 := T12.same s13
    have Mf14 := (Mf12.same s13).tups (o14.tup T13.ex)
    refine hideG fun Gz hGz => ?_
    obtain ⟨xs3, zs3, e3, j1, j2, j3, j4⟩ := m4_neB M14 Mf14 L5.W2.ok L.W2.ok
    refine hGz ?_
    clear hGz Gz
    refine ⟨_, rfl, f5, f, xs3, zs3, e3, rfl, rfl, j1, j2, j3, ?_⟩
    have hf := Bool.eq_false_iff.mpr fun e => least_ne L L5 hz hne (j4.mp e)
    rw [hf]
    exact k _
end
theorem all_mk {l : PySem.W.OpenLaw} {w : World} {K : PySem.W.Frag} {h : Heap} {mg : Str → Option Value} {fa : Addr} {f0 f1 f2 f3 f4 f5 f6 f7 f8 f9 f10 f11 f12 f13 f14 f15 f16 : Addr} (X : K.In h) (G : h.Ns mainGlobals mg) (hfa : mg "law" = some (.ref fa))
    {od0 an0 od1 an1 od2 an2 od3 an3 od4 an4 od5 an5 od6 an6 od7 an7 od8 an8 od9 an9 od10 an10 od11 an11 od12 an12 od13 an13 od14 an14 od15 an15 od16 an16 : Option Addr} {sl0 sl1 sl2 sl3 sl4 sl5 sl6 sl7 sl8 sl9 sl10 sl11 sl12 sl13 sl14 sl15 sl16 : Array (Option Value)} {oc0 kV0 dc0 pm0 cd0 ct0 oc1 kV1 dc1 pm1 cd1 ct1 oc2 kV2 dc2 pm2 cd2 ct2 oc3 kV3 dc3 pm3 cd3 ct3 oc4 kV4 dc4 pm4 cd4 ct4 oc5 kV5 dc5 pm5 cd5 ct5 oc6 kV6 dc6 pm6 cd6 ct6 oc7 kV7 dc7 pm7 cd7 ct7 oc8 kV8 dc8 pm8 cd8 ct8 oc9 kV9 dc9 pm9 cd9 ct9 oc10 kV10 dc10 pm10 cd10 ct10 oc11 kV11 dc11 pm11 cd11 ct11 oc12 kV12 dc12 pm12 cd12 ct12 oc13 kV13 dc13 pm13 cd13 ct13 oc14 kV14 dc14 pm14 cd14 ct14 oc15 kV15 dc15 pm15 cd15 ct15 oc16 kV16 dc16 pm16 cd16 ct16 : Value}
    (a0 : PySem.W.nsIn K mainGlobals "state_number" = some (some (.ref f0))) (l0 : K.lookup f0 = some ⟨oc0, od0, .func (PySem.W.fnOf "state_number" "state_number" (defArgs s_state_number) (defBody s_state_number) (defScope s_state_number) .none kV0 dc0 pm0 an0 cd0 ct0), sl0⟩) (c0 : PySem.W.codeIn K cd0 "state_number" = true) (k0 : PySem.W.keepIn K (.ref f0) = true)
    (a1 : PySem.W.nsIn K mainGlobals "numbered" = some (some (.ref f1))) (l1 : K.lookup f1 = some ⟨oc1, od1, .func (PySem.W.fnOf "numbered" "numbered" (defArgs s_numbered) (defBody s_numbered) (defScope s_numbered) .none kV1 dc1 pm1 an1 cd1 ct1), sl1⟩) (c1 : PySem.W.codeIn K cd1 "numbered" = true) (k1 : PySem.W.keepIn K (.ref f1) = true)
    (a2 : PySem.W.nsIn K mainGlobals "classes_of" = some (some (.ref f2))) (l2 : K.lookup f2 = some ⟨oc2, od2, .func (PySem.W.fnOf "classes_of" "classes_of" (defArgs s_classes_of) (defBody s_classes_of) (defScope s_classes_of) .none kV2 dc2 pm2 an2 cd2 ct2), sl2⟩) (c2 : PySem.W.codeIn K cd2 "classes_of" = true) (k2 : PySem.W.keepIn K (.ref f2) = true)
    (a3 : PySem.W.nsIn K mainGlobals "firsts_of" = some (some (.ref f3))) (l3 : K.lookup f3 = some ⟨oc3, od3, .func (PySem.W.fnOf "firsts_of" "firsts_of" (defArgs s_firsts_of) (defBody s_firsts_of) (defScope s_firsts_of) .none kV3 dc3 pm3 an3 cd3 ct3), sl3⟩) (c3 : PySem.W.codeIn K cd3 "firsts_of" = true) (k3 : PySem.W.keepIn K (.ref f3) = true)
    (a4 : PySem.W.nsIn K mainGlobals "_law_cell_at" = some (some (.ref f4))) (l4 : K.lookup f4 = some ⟨oc4, od4, .func (PySem.W.fnOf "_law_cell_at" "_law_cell_at" (defArgs s_law_cell_at) (defBody s_law_cell_at) (defScope s_law_cell_at) .none kV4 dc4 pm4 an4 cd4 ct4), sl4⟩) (c4 : PySem.W.codeIn K cd4 "_law_cell_at" = true) (k4 : PySem.W.keepIn K (.ref f4) = true)
    (a5 : PySem.W.nsIn K mainGlobals "_law_numbers" = some (some (.ref f5))) (l5 : K.lookup f5 = some ⟨oc5, od5, .func (PySem.W.fnOf "_law_numbers" "_law_numbers" (defArgs s_law_numbers) (defBody s_law_numbers) (defScope s_law_numbers) .none kV5 dc5 pm5 an5 cd5 ct5), sl5⟩) (c5 : PySem.W.codeIn K cd5 "_law_numbers" = true) (k5 : PySem.W.keepIn K (.ref f5) = true)
    (a6 : PySem.W.nsIn K mainGlobals "_law_blown" = some (some (.ref f6))) (l6 : K.lookup f6 = some ⟨oc6, od6, .func (PySem.W.fnOf "_law_blown" "_law_blown" (defArgs s_law_blown) (defBody s_law_blown) (defScope s_law_blown) .none kV6 dc6 pm6 an6 cd6 ct6), sl6⟩) (c6 : PySem.W.codeIn K cd6 "_law_blown" = true) (k6 : PySem.W.keepIn K (.ref f6) = true)
    (a7 : PySem.W.nsIn K mainGlobals "_law_led_to" = some (some (.ref f7))) (l7 : K.lookup f7 = some ⟨oc7, od7, .func (PySem.W.fnOf "_law_led_to" "_law_led_to" (defArgs s_law_led_to) (defBody s_law_led_to) (defScope s_law_led_to) .none kV7 dc7 pm7 an7 cd7 ct7), sl7⟩) (c7 : PySem.W.codeIn K cd7 "_law_led_to" = true) (k7 : PySem.W.keepIn K (.ref f7) = true)
    (a8 : PySem.W.nsIn K mainGlobals "_law_marked" = some (some (.ref f8))) (l8 : K.lookup f8 = some ⟨oc8, od8, .func (PySem.W.fnOf "_law_marked" "_law_marked" (defArgs s_law_marked) (defBody s_law_marked) (defScope s_law_marked) .none kV8 dc8 pm8 an8 cd8 ct8), sl8⟩) (c8 : PySem.W.codeIn K cd8 "_law_marked" = true) (k8 : PySem.W.keepIn K (.ref f8) = true)
    (a9 : PySem.W.nsIn K mainGlobals "alike_classes" = some (some (.ref f9))) (l9 : K.lookup f9 = some ⟨oc9, od9, .func (PySem.W.fnOf "alike_classes" "alike_classes" (defArgs s_alike_classes) (defBody s_alike_classes) (defScope s_alike_classes) .none kV9 dc9 pm9 an9 cd9 ct9), sl9⟩) (c9 : PySem.W.codeIn K cd9 "alike_classes" = true) (k9 : PySem.W.keepIn K (.ref f9) = true)
    (a10 : PySem.W.nsIn K mainGlobals "_law_names" = some (some (.ref f10))) (l10 : K.lookup f10 = some ⟨oc10, od10, .func (PySem.W.fnOf "_law_names" "_law_names" (defArgs s_law_names) (defBody s_law_names) (defScope s_law_names) .none kV10 dc10 pm10 an10 cd10 ct10), sl10⟩) (c10 : PySem.W.codeIn K cd10 "_law_names" = true) (k10 : PySem.W.keepIn K (.ref f10) = true)
    (a11 : PySem.W.nsIn K mainGlobals "_law_machine" = some (some (.ref f11))) (l11 : K.lookup f11 = some ⟨oc11, od11, .func (PySem.W.fnOf "_law_machine" "_law_machine" (defArgs s_law_machine) (defBody s_law_machine) (defScope s_law_machine) .none kV11 dc11 pm11 an11 cd11 ct11), sl11⟩) (c11 : PySem.W.codeIn K cd11 "_law_machine" = true) (k11 : PySem.W.keepIn K (.ref f11) = true)
    (a12 : PySem.W.nsIn K mainGlobals "_law_apart" = some (some (.ref f12))) (l12 : K.lookup f12 = some ⟨oc12, od12, .func (PySem.W.fnOf "_law_apart" "_law_apart" (defArgs s_law_apart) (defBody s_law_apart) (defScope s_law_apart) .none kV12 dc12 pm12 an12 cd12 ct12), sl12⟩) (c12 : PySem.W.codeIn K cd12 "_law_apart" = true) (k12 : PySem.W.keepIn K (.ref f12) = true)
    (a13 : PySem.W.nsIn K mainGlobals "_law_turned" = some (some (.ref f13))) (l13 : K.lookup f13 = some ⟨oc13, od13, .func (PySem.W.fnOf "_law_turned" "_law_turned" (defArgs s_law_turned) (defBody s_law_turned) (defScope s_law_turned) .none kV13 dc13 pm13 an13 cd13 ct13), sl13⟩) (c13 : PySem.W.codeIn K cd13 "_law_turned" = true) (k13 : PySem.W.keepIn K (.ref f13) = true)
    (a14 : PySem.W.nsIn K mainGlobals "machine_found" = some (some (.ref f14))) (l14 : K.lookup f14 = some ⟨oc14, od14, .func (PySem.W.fnOf "machine_found" "machine_found" (defArgs s_machine_found) (defBody s_machine_found) (defScope s_machine_found) .none kV14 dc14 pm14 an14 cd14 ct14), sl14⟩) (c14 : PySem.W.codeIn K cd14 "machine_found" = true) (k14 : PySem.W.keepIn K (.ref f14) = true)
    (a15 : PySem.W.nsIn K mainGlobals "least" = some (some (.ref f15))) (l15 : K.lookup f15 = some ⟨oc15, od15, .func (PySem.W.fnOf "least" "least" (defArgs s_least) (defBody s_least) (defScope s_least) .none kV15 dc15 pm15 an15 cd15 ct15), sl15⟩) (c15 : PySem.W.codeIn K cd15 "least" = true) (k15 : PySem.W.keepIn K (.ref f15) = true)
    (a16 : PySem.W.nsIn K mainGlobals "law" = some (some (.ref f16))) (l16 : K.lookup f16 = some ⟨oc16, od16, .func (PySem.W.fnOf "law" "law" (defArgs s_law) (defBody s_law) (defScope s_law) .none kV16 dc16 pm16 an16 cd16 ct16), sl16⟩) (c16 : PySem.W.codeIn K cd16 "law" = true) (k16 : PySem.W.keepIn K (.ref f16) = true)
    (z_abs : PySem.W.nsIn K mainGlobals "abs" = some none)
    (z_bool : PySem.W.nsIn K mainGlobals "bool" = some none)
    (z_enumerate : PySem.W.nsIn K mainGlobals "enumerate" = some none)
    (z_isinstance : PySem.W.nsIn K mainGlobals "isinstance" = some none)
    (z_len : PySem.W.nsIn K mainGlobals "len" = some none)
    (z_list : PySem.W.nsIn K mainGlobals "list" = some none)
    (z_max : PySem.W.nsIn K mainGlobals "max" = some none)
    (z_range : PySem.W.nsIn K mainGlobals "range" = some none)
    (z_set : PySem.W.nsIn K mainGlobals "set" = some none)
    (z_sorted : PySem.W.nsIn K mainGlobals "sorted" = some none)
    (z_tuple : PySem.W.nsIn K mainGlobals "tuple" = some none)
    (z_zip : PySem.W.nsIn K mainGlobals "zip" = some none)
    (kc_least : cd15 = .ref 30)
    : ∃ fd : FuncData, (∀ (s : Shared) (v : Value), BindsTo s fd ⟨[v], []⟩ [("script", v)]) ∧ ∀ base : Heap, K.In base → base.Ns mainGlobals mg → (∀ q ∈ ([(30, 28)] : List (Addr × Addr)), PySem.W.CodeHd base q.1 q.2) → BltAt mg base → FnOk l.prog w K mg base CX0 15 fa fd ["script"] (sp_law K 28) := by
  have e := hfa.symm.trans (PySem.W.mg_of X G a16)
  cases e
  have F0 := fun_mk (st := s_state_number) l0 c0 k0
  have b0 := F0.binds (ps := ["state", "states", "numbers"]) fun _ _ _ _ _ _ => L2.len3 fun _ _ _ => rfl
  have F1 := fun_mk (st := s_numbered) l1 c1 k1
  have b1 := F1.binds (ps := ["marks"]) fun _ _ _ _ _ _ => L2.len1 fun _ => rfl
  have F2 := fun_mk (st := s_classes_of) l2 c2 k2
  have b2 := F2.binds (ps := ["states", "classes"]) fun _ _ _ _ _ _ => L2.len2 fun _ _ => rfl
  have F3 := fun_mk (st := s_firsts_of) l3 c3 k3
  have b3 := F3.binds (ps := ["classes"]) fun _ _ _ _ _ _ => L2.len1 fun _ => rfl
  have F4 := fun_mk (st := s_law_cell_at) l4 c4 k4
  have b4 := F4.binds (ps := ["script", "k"]) fun _ _ _ _ _ _ => L2.len2 fun _ _ => rfl
  have F5 := fun_mk (st := s_law_numbers) l5 c5 k5
  have b5 := F5.binds (ps := ["cell", "many", "most"]) fun _ _ _ _ _ _ => L2.len3 fun _ _ _ => rfl
  have F6 := fun_mk (st := s_law_blown) l6 c6 k6
  have b6 := F6.binds (ps := ["machine", "numbers", "many"]) fun _ _ _ _ _ _ => L2.len3 fun _ _ _ => rfl
  have F7 := fun_mk (st := s_law_led_to) l7 c7 k7
  have b7 := F7.binds (ps := ["begin", "nexts"]) fun _ _ _ _ _ _ => L2.len2 fun _ _ => rfl
  have F8 := fun_mk (st := s_law_marked) l8 c8 k8
  have b8 := F8.binds (ps := ["rows"]) fun _ _ _ _ _ _ => L2.len1 fun _ => rfl
  have F9 := fun_mk (st := s_alike_classes) l9 c9 k9
  have b9 := F9.binds (ps := ["steps", "out"]) fun _ _ _ _ _ _ => L2.len2 fun _ _ => rfl
  have F10 := fun_mk (st := s_law_names) l10 c10 k10
  have b10 := F10.binds (ps := ["cell", "many"]) fun _ _ _ _ _ _ => L2.len2 fun _ _ => rfl
  have F11 := fun_mk (st := s_law_machine) l11 c11 k11
  have b11 := F11.binds (ps := ["cell", "rows", "names", "states", "truths"]) fun _ _ _ _ _ _ => L2.len5 fun _ _ _ _ _ => rfl
  have F12 := fun_mk (st := s_law_apart) l12 c12 k12
  have b12 := F12.binds (ps := ["machine"]) fun _ _ _ _ _ _ => L2.len1 fun _ => rfl
  have F13 := fun_mk (st := s_law_turned) l13 c13 k13
  have b13 := F13.binds (ps := ["machine", "cell"]) fun _ _ _ _ _ _ => L2.len2 fun _ _ => rfl
  have F14 := fun_mk (st := s_machine_found) l14 c14 k14
  have b14 := F14.binds (ps := ["names", "begin", "step_of"]) fun _ _ _ _ _ _ => L2.len3 fun _ _ _ => rfl
  have F15 := fun_mk (st := s_least) l15 c15 k15
  have b15 := F15.binds (ps := ["machine"]) fun _ _ _ _ _ _ => L2.len1 fun _ => rfl
  have F16 := fun_mk (st := s_law) l16 c16 k16
  have b16 := F16.binds (ps := ["script"]) fun _ _ _ _ _ _ => L2.len1 fun _ => rfl
  have T : Txt K w mg ⟨f0, _, f1, _, f2, _, f3, _, f4, _, f5, _, f6, _, f7, _, f8, _, f9, _, f10, _, f11, _, f12, _, f13, _, f14, _, f15, _, fa, _, 30, 28⟩ := ⟨⟨F0, PySem.W.mg_of X G a0, b0⟩, ⟨F1, PySem.W.mg_of X G a1, b1⟩, ⟨F2, PySem.W.mg_of X G a2, b2⟩, ⟨F3, PySem.W.mg_of X G a3, b3⟩, ⟨F4, PySem.W.mg_of X G a4, b4⟩, ⟨F5, PySem.W.mg_of X G a5, b5⟩, ⟨F6, PySem.W.mg_of X G a6, b6⟩, ⟨F7, PySem.W.mg_of X G a7, b7⟩, ⟨F8, PySem.W.mg_of X G a8, b8⟩, ⟨F9, PySem.W.mg_of X G a9, b9⟩, ⟨F10, PySem.W.mg_of X G a10, b10⟩, ⟨F11, PySem.W.mg_of X G a11, b11⟩, ⟨F12, PySem.W.mg_of X G a12, b12⟩, ⟨F13, PySem.W.mg_of X G a13, b13⟩, ⟨F14, PySem.W.mg_of X G a14, b14⟩, ⟨F15, PySem.W.mg_of X G a15, b15⟩, ⟨F16, PySem.W.mg_of X G a16, b16⟩, kc_least, PySem.W.mg_none_of X G z_abs, PySem.W.mg_none_of X G z_bool, PySem.W.mg_none_of X G z_enumerate, PySem.W.mg_none_of X G z_isinstance, PySem.W.mg_none_of X G z_len, PySem.W.mg_none_of X G z_list, PySem.W.mg_none_of X G z_max, PySem.W.mg_none_of X G z_range, PySem.W.mg_none_of X G z_set, PySem.W.mg_none_of X G z_sorted, PySem.W.mg_none_of X G z_tuple, PySem.W.mg_none_of X G z_zip⟩
  exact ⟨_, fun s v => (show BindsTo s (PySem.W.fnOf "law" "law" (defArgs s_law) (defBody s_law) (defScope s_law) .none kV16 dc16 pm16 an16 cd16 ct16) ⟨[v], []⟩ [("script", v)] from .of_eq rfl), fun base hKb _ hC hB => ok_law T ⟨hC (30, 28) (by simp), hB⟩⟩
theorem walk {l : PySem.W.OpenLaw} {q : Program} {loose : List Str} {XP : (Str → Option Value) → Heap → Prop} {YP : World → Heap → Prop} {d : DefRec} {K : Params → PySem.W.Frag} (hn : l.most = some 63) (hdf : d.params.defaults = [])
    (hY : ∀ (w : World) (h : Heap), YP w h → (K w.params).In h)
    (hTab : ∀ (w : World) (mean : ExcName → Option Value) (mg mb : Str → Option Value) (h : Heap), PyProof.Rows.Top q (PySem.W.looseW q loose) mean mg mb h → (K w.params).In h → PySem.W.TabsAt [(30, 28)] h) (hKt : ∀ w : World, PySem.W.noTabs (K w.params) = true)
    (F : ∀ (w : World) (mg : Str → Option Value) (fa : Addr) (h : Heap), (K w.params).In h → h.Ns mainGlobals mg → mg d.name = some (.ref fa) →
      ∃ fd : FuncData, (∀ (s : Shared) (u : Value), BindsTo s fd ⟨[u], []⟩ [("script", u)]) ∧ ∀ base : Heap, (K w.params).In base → base.Ns mainGlobals mg → (∀ q ∈ ([(30, 28)] : List (Addr × Addr)), PySem.W.CodeHd base q.1 q.2) → BltAt mg base → FnOk l.prog w (K w.params) mg base CX0 15 fa fd ["script"] (sp_law (K w.params) 28)) :
    PySem.W.WalkO q loose XP YP l.row.toRowW d [] (fun f vs => PySem.call f vs) :=
  L2.walk_ofT (n := 63) (k := 15) (x := "script") (CX := fun _ => CX0) (sp := fun w => sp_law (K w.params) 28) hn (by decide) hdf ⟨rfl, by decide, by decide⟩ hY hTab hKt F (fun _ _ a ns hl hT hS => ⟨a, ns, rfl, hS, hl, .inl (hT (30, 28) (by simp)), fun _ => rfl⟩) fun _ _ _ _ _ z => z
theorem walkZ {l : PySem.W.OpenLaw} {q : Program} {loose : List Str} {XP : (Str → Option Value) → Heap → Prop} {d : DefRec} {K0 : Params → PySem.W.Frag} (hn : l.most = some 63) (hdf : d.params.defaults = [])
    (hs : ∀ P, L2.nodB ((K0 P).map (·.1)) = true)
    (hTab : ∀ (w : World) (mean : ExcName → Option Value) (mg mb : Str → Option Value) (h : Heap), PyProof.Rows.Top q (PySem.W.looseW q loose) mean mg mb h → (L2.noT (K0 w.params)).In h → PySem.W.TabsAt [(30, 28)] h)
    (F : ∀ (w : World) (mg : Str → Option Value) (fa : Addr) (h : Heap), (L2.noT (K0 w.params)).In h → h.Ns mainGlobals mg → mg d.name = some (.ref fa) →
      ∃ fd : FuncData, (∀ (s : Shared) (u : Value), BindsTo s fd ⟨[u], []⟩ [("script", u)]) ∧ ∀ base : Heap, (L2.noT (K0 w.params)).In base → base.Ns mainGlobals mg → (∀ q ∈ ([(30, 28)] : List (Addr × Addr)), PySem.W.CodeHd base q.1 q.2) → BltAt mg base → FnOk l.prog w (L2.noT (K0 w.params)) mg base CX0 15 fa fd ["script"] (sp_law (L2.noT (K0 w.params)) 28)) :
    PySem.W.WalkO q loose XP (PySem.W.InK K0) l.row.toRowW d [] (fun f vs => PySem.call f vs) :=
  walk (K := fun P => L2.noT (K0 P)) hn hdf (fun w h Y => L2.in_noT (hs _) Y) hTab (fun w => L2.noT_ok _) F
end Lw
open PySem PySem.W PyProof.Rows
set_option maxRecDepth 100000 in
set_option maxHeartbeats 0 in
theorem PySem.Challenge.cw_everywidth_k19_least_apart_holds : PySem.Challenge.rw_everywidth_k19_least_apart.Holds := by
  w_on; o_law; z_head; (case hw => w_witness2)
  refine L2.walk_X (fun _ => by kernel_rfl) ?_
  k_fill
  refine Lw.walkZ (l := PySem.Challenge.rw_everywidth_k19_least_apart) rfl rfl (fun _ => by kernel_rfl) (fun w mean mg mb h T X => List.forall_mem_cons.mpr ⟨PySem.W.tab_of (x := PySem.Str.ofString "least") (c := 30) (P := 28) T X rfl (by kernel_rfl), List.forall_mem_nil _⟩) ?F
  case F =>
    intro w mg fa h KX G hmg
    refine' Lw.all_mk KX G hmg ?a0 ?l0 ?c0 ?k0 ?a1 ?l1 ?c1 ?k1 ?a2 ?l2 ?c2 ?k2 ?a3 ?l3 ?c3 ?k3 ?a4 ?l4 ?c4 ?k4 ?a5 ?l5 ?c5 ?k5 ?a6 ?l6 ?c6 ?k6 ?a7 ?l7 ?c7 ?k7 ?a8 ?l8 ?c8 ?k8 ?a9 ?l9 ?c9 ?k9 ?a10 ?l10 ?c10 ?k10 ?a11 ?l11 ?c11 ?k11 ?a12 ?l12 ?c12 ?k12 ?a13 ?l13 ?c13 ?k13 ?a14 ?l14 ?c14 ?k14 ?a15 ?l15 ?c15 ?k15 ?a16 ?l16 ?c16 ?k16 ?z_abs ?z_bool ?z_enumerate ?z_isinstance ?z_len ?z_list ?z_max ?z_range ?z_set ?z_sorted ?z_tuple ?z_zip ?kc_least
    (case a0 => first | (refine L2.ns_tr (by kernel_rfl) ?_; k_is) | (refine L2.fi_tr (by kernel_rfl) ?_; k_is))
    (case l0 => refine L2.lk_tr (by kernel_rfl) ?_; k_is)
    (case c0 => refine L2.cd_tr (by kernel_rfl) ?_; k_is)
    (case k0 => refine L2.kp_tr (by kernel_rfl) ?_; k_is)
    (case a1 => first | (refine L2.ns_tr (by kernel_rfl) ?_; k_is) | (refine L2.fi_tr (by kernel_rfl) ?_; k_is))
    (case l1 => refine L2.lk_tr (by kernel_rfl) ?_; k_is)
    (case c1 => refine L2.cd_tr (by kernel_rfl) ?_; k_is)
    (case k1 => refine L2.kp_tr (by kernel_rfl) ?_; k_is)
    (case a2 => first | (refine L2.ns_tr (by kernel_rfl) ?_; k_is) | (refine L2.fi_tr (by kernel_rfl) ?_; k_is))
    (case l2 => refine L2.lk_tr (by kernel_rfl) ?_; k_is)
    (case c2 => refine L2.cd_tr (by kernel_rfl) ?_; k_is)
    (case k2 => refine L2.kp_tr (by kernel_rfl) ?_; k_is)
    (case a3 => first | (refine L2.ns_tr (by kernel_rfl) ?_; k_is) | (refine L2.fi_tr (by kernel_rfl) ?_; k_is))
    (case l3 => refine L2.lk_tr (by kernel_rfl) ?_; k_is)
    (case c3 => refine L2.cd_tr (by kernel_rfl) ?_; k_is)
    (case k3 => refine L2.kp_tr (by kernel_rfl) ?_; k_is)
    (case a4 => first | (refine L2.ns_tr (by kernel_rfl) ?_; k_is) | (refine L2.fi_tr (by kernel_rfl) ?_; k_is))
    (case l4 => refine L2.lk_tr (by kernel_rfl) ?_; k_is)
    (case c4 => refine L2.cd_tr (by kernel_rfl) ?_; k_is)
    (case k4 => refine L2.kp_tr (by kernel_rfl) ?_; k_is)
    (case a5 => first | (refine L2.ns_tr (by kernel_rfl) ?_; k_is) | (refine L2.fi_tr (by kernel_rfl) ?_; k_is))
    (case l5 => refine L2.lk_tr (by kernel_rfl) ?_; k_is)
    (case c5 => refine L2.cd_tr (by kernel_rfl) ?_; k_is)
    (case k5 => refine L2.kp_tr (by kernel_rfl) ?_; k_is)
    (case a6 => first | (refine L2.ns_tr (by kernel_rfl) ?_; k_is) | (refine L2.fi_tr (by kernel_rfl) ?_; k_is))
    (case l6 => refine L2.lk_tr (by kernel_rfl) ?_; k_is)
    (case c6 => refine L2.cd_tr (by kernel_rfl) ?_; k_is)
    (case k6 => refine L2.kp_tr (by kernel_rfl) ?_; k_is)
    (case a7 => first | (refine L2.ns_tr (by kernel_rfl) ?_; k_is) | (refine L2.fi_tr (by kernel_rfl) ?_; k_is))
    (case l7 => refine L2.lk_tr (by kernel_rfl) ?_; k_is)
    (case c7 => refine L2.cd_tr (by kernel_rfl) ?_; k_is)
    (case k7 => refine L2.kp_tr (by kernel_rfl) ?_; k_is)
    (case a8 => first | (refine L2.ns_tr (by kernel_rfl) ?_; k_is) | (refine L2.fi_tr (by kernel_rfl) ?_; k_is))
    (case l8 => refine L2.lk_tr (by kernel_rfl) ?_; k_is)
    (case c8 => refine L2.cd_tr (by kernel_rfl) ?_; k_is)
    (case k8 => refine L2.kp_tr (by kernel_rfl) ?_; k_is)
    (case a9 => first | (refine L2.ns_tr (by kernel_rfl) ?_; k_is) | (refine L2.fi_tr (by kernel_rfl) ?_; k_is))
    (case l9 => refine L2.lk_tr (by kernel_rfl) ?_; k_is)
    (case c9 => refine L2.cd_tr (by kernel_rfl) ?_; k_is)
    (case k9 => refine L2.kp_tr (by kernel_rfl) ?_; k_is)
    (case a10 => first | (refine L2.ns_tr (by kernel_rfl) ?_; k_is) | (refine L2.fi_tr (by kernel_rfl) ?_; k_is))
    (case l10 => refine L2.lk_tr (by kernel_rfl) ?_; k_is)
    (case c10 => refine L2.cd_tr (by kernel_rfl) ?_; k_is)
    (case k10 => refine L2.kp_tr (by kernel_rfl) ?_; k_is)
    (case a11 => first | (refine L2.ns_tr (by kernel_rfl) ?_; k_is) | (refine L2.fi_tr (by kernel_rfl) ?_; k_is))
    (case l11 => refine L2.lk_tr (by kernel_rfl) ?_; k_is)
    (case c11 => refine L2.cd_tr (by kernel_rfl) ?_; k_is)
    (case k11 => refine L2.kp_tr (by kernel_rfl) ?_; k_is)
    (case a12 => first | (refine L2.ns_tr (by kernel_rfl) ?_; k_is) | (refine L2.fi_tr (by kernel_rfl) ?_; k_is))
    (case l12 => refine L2.lk_tr (by kernel_rfl) ?_; k_is)
    (case c12 => refine L2.cd_tr (by kernel_rfl) ?_; k_is)
    (case k12 => refine L2.kp_tr (by kernel_rfl) ?_; k_is)
    (case a13 => first | (refine L2.ns_tr (by kernel_rfl) ?_; k_is) | (refine L2.fi_tr (by kernel_rfl) ?_; k_is))
    (case l13 => refine L2.lk_tr (by kernel_rfl) ?_; k_is)
    (case c13 => refine L2.cd_tr (by kernel_rfl) ?_; k_is)
    (case k13 => refine L2.kp_tr (by kernel_rfl) ?_; k_is)
    (case a14 => first | (refine L2.ns_tr (by kernel_rfl) ?_; k_is) | (refine L2.fi_tr (by kernel_rfl) ?_; k_is))
    (case l14 => refine L2.lk_tr (by kernel_rfl) ?_; k_is)
    (case c14 => refine L2.cd_tr (by kernel_rfl) ?_; k_is)
    (case k14 => refine L2.kp_tr (by kernel_rfl) ?_; k_is)
    (case a15 => first | (refine L2.ns_tr (by kernel_rfl) ?_; k_is) | (refine L2.fi_tr (by kernel_rfl) ?_; k_is))
    (case l15 => refine L2.lk_tr (by kernel_rfl) ?_; k_is)
    (case c15 => refine L2.cd_tr (by kernel_rfl) ?_; k_is)
    (case k15 => refine L2.kp_tr (by kernel_rfl) ?_; k_is)
    (case a16 => first | (refine L2.ns_tr (by kernel_rfl) ?_; k_is) | (refine L2.fi_tr (by kernel_rfl) ?_; k_is))
    (case l16 => refine L2.lk_tr (by kernel_rfl) ?_; k_is)
    (case c16 => refine L2.cd_tr (by kernel_rfl) ?_; k_is)
    (case k16 => refine L2.kp_tr (by kernel_rfl) ?_; k_is)
    (case z_abs => first | (refine L2.ns_tr (by kernel_rfl) ?_; k_is) | (refine L2.fi_tr (by kernel_rfl) ?_; k_is))
    (case z_bool => first | (refine L2.ns_tr (by kernel_rfl) ?_; k_is) | (refine L2.fi_tr (by kernel_rfl) ?_; k_is))
    (case z_enumerate => first | (refine L2.ns_tr (by kernel_rfl) ?_; k_is) | (refine L2.fi_tr (by kernel_rfl) ?_; k_is))
    (case z_isinstance => first | (refine L2.ns_tr (by kernel_rfl) ?_; k_is) | (refine L2.fi_tr (by kernel_rfl) ?_; k_is))
    (case z_len => first | (refine L2.ns_tr (by kernel_rfl) ?_; k_is) | (refine L2.fi_tr (by kernel_rfl) ?_; k_is))
    (case z_list => first | (refine L2.ns_tr (by kernel_rfl) ?_; k_is) | (refine L2.fi_tr (by kernel_rfl) ?_; k_is))
    (case z_max => first | (refine L2.ns_tr (by kernel_rfl) ?_; k_is) | (refine L2.fi_tr (by kernel_rfl) ?_; k_is))
    (case z_range => first | (refine L2.ns_tr (by kernel_rfl) ?_; k_is) | (refine L2.fi_tr (by kernel_rfl) ?_; k_is))
    (case z_set => first | (refine L2.ns_tr (by kernel_rfl) ?_; k_is) | (refine L2.fi_tr (by kernel_rfl) ?_; k_is))
    (case z_sorted => first | (refine L2.ns_tr (by kernel_rfl) ?_; k_is) | (refine L2.fi_tr (by kernel_rfl) ?_; k_is))
    (case z_tuple => first | (refine L2.ns_tr (by kernel_rfl) ?_; k_is) | (refine L2.fi_tr (by kernel_rfl) ?_; k_is))
    (case z_zip => first | (refine L2.ns_tr (by kernel_rfl) ?_; k_is) | (refine L2.fi_tr (by kernel_rfl) ?_; k_is))
    (case kc_least => exact rfl)
#print axioms PySem.Challenge.cw_everywidth_k19_least_apart_holds
