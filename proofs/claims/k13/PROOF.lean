import PyProof.Rows.All
import Wide.All
import KE.KNestM
import KE.KUnpack
import KE.KEqDeep
import KE.KPassesOwn
import KE.RegKIsAll
import KE.RegKTryMore
import OpenK.KOwn
import KE.KItem
import Wide.FinOn
import Lean
import PyProof.EqAt
import PyProof.EqKinds
import PyProof.TupleCall
import PySem.Challenge.RW_factorforge_k13_divided
set_option Elab.async false
set_option linter.all false
set_option maxRecDepth 100000
set_option maxHeartbeats 4000000
local macro_rules | `(tactic| omega) => `(tactic| lia)
section
open PySem PySem.W PyProof.Rows
namespace K13
noncomputable def top (i : Nat) : Stmt := PySem.Challenge.pw_factorforge_k13_divided.main.body.getD i (.Pass ⟨0, 0, 0, 0⟩)
end K13
noncomputable def K13.view : PySem.Program := { PySem.Challenge.rw_factorforge_k13_divided.row.toRowW.prog with main := { PySem.Challenge.rw_factorforge_k13_divided.row.toRowW.prog.main with body := [K13.top 0, K13.top 2, K13.top 3, K13.top 4, K13.top 5, K13.top 7, K13.top 8, K13.top 9, K13.top 11, K13.top 12, K13.top 13, K13.top 14, K13.top 15, K13.top 16, K13.top 17, K13.top 18, K13.top 19, K13.top 20, K13.top 22, K13.top 23, K13.top 24, K13.top 25, K13.top 26, K13.top 27, K13.top 28, K13.top 29, K13.top 30, K13.top 31, K13.top 32, K13.top 33, K13.top 34, K13.top 35, K13.top 36, K13.top 37, K13.top 38, K13.top 39] } }
theorem K13.opt4 {S A B C D : Type} {o : Option S} {f : S → A × B × C} {y : S → D} {g : A × B × C} {z : D} (h1 : o.map (fun s => (f s).1) = some g.1) (h2 : o.map (fun s => (f s).2.1) = some g.2.1) (h3 : o.map (fun s => (f s).2.2) = some g.2.2) (h4 : o.map y = some z) : o.map (fun s => (f s, y s)) = some (g, z) := by
  cases o with
  | none => cases h4
  | some s =>
    have e1 := Option.some.inj h1
    have e2 := Option.some.inj h2
    have e3 := Option.some.inj h3
    have e4 := Option.some.inj h4
    have e : f s = g := Prod.ext e1 (Prod.ext e2 e3)
    show some (f s, y s) = some (g, z)
    rw [e, e4]
noncomputable abbrev K13.seenT (s : Shared) := openSeen K13.view [] (importedModules PySem.Challenge.rw_factorforge_k13_divided.row.toRowW.prog.main.body) (fun s => xlAt K13.view [] s && recOk (RowW.records PySem.Challenge.rw_factorforge_k13_divided.row.toRowW) s) true s
theorem K13.hA1 : ∀ w, (openEnds treeTable PySem.Challenge.rw_factorforge_k13_divided.row.toRowW.prog w 20000).map (fun s => (K13.seenT s).1) = some (openGood K13.view []).1 := by intro w; kernel_rfl
theorem K13.hA2 : ∀ w, (openEnds treeTable PySem.Challenge.rw_factorforge_k13_divided.row.toRowW.prog w 20000).map (fun s => (K13.seenT s).2.1) = some (openGood K13.view []).2.1 := by intro w; kernel_rfl
theorem K13.hB : ∀ w, (openEnds treeTable PySem.Challenge.rw_factorforge_k13_divided.row.toRowW.prog w 20000).map (fun s => (K13.seenT s).2.2) = some (openGood K13.view []).2.2 := by intro w; kernel_rfl
end
/-! THE HAND LAYER, for ints, bools, texts, own classes, LISTS and tuples (index, slices, in, append, pop ..), calls, loops. Paste it whole ahead of your own text; what your proof does not reach may be deleted. -/
namespace L2
open PySem PySem.Spec PyProof.Rows

/-- a key: an int or a str -/
noncomputable abbrev Key := Sum Int Str
noncomputable def keyIs : Key → Value → Bool
  | .inl k, v => Value.isInt k v
  | .inr x, v => Value.isStrOf x v
noncomputable def keyH (w : World) : Key → Int
  | .inl k => hashInt k
  | .inr x => hashStr w x
theorem keyIs_shape : ∀ {k : Key} {v : Value}, keyIs k v = true → (∃ i t, k = Sum.inl i ∧ v = Value.int i t) ∨ (∃ x t, k = Sum.inr x ∧ v = Value.str x t)
  | .inl i, v, h => by
    obtain ⟨t, e⟩ := Value.isInt_shape (k := i) (v := v) h
    exact .inl ⟨i, t, rfl, e⟩
  | .inr x, v, h => by
    obtain ⟨t, e⟩ := Value.isStrOf_shape (x := x) (v := v) h
    exact .inr ⟨x, t, rfl, e⟩
theorem key_ll (a b : Int) : decide ((Sum.inl a : Key) = Sum.inl b) = (a == b) := by
  by_cases e : a = b
  · subst e; simp
  · have h : ¬ (Sum.inl a : Key) = Sum.inl b := fun q => e (Sum.inl.inj q)
    rw [decide_eq_false h]
    exact (beq_eq_false_iff_ne.mpr e).symm
theorem key_rr (a b : Str) : decide ((Sum.inr a : Key) = Sum.inr b) = decide (a = b) := by
  by_cases e : a = b
  · subst e; simp
  · have h : ¬ (Sum.inr a : Key) = Sum.inr b := fun q => e (Sum.inr.inj q)
    rw [decide_eq_false h, decide_eq_false e]
theorem key_lr (a : Int) (b : Str) : decide ((Sum.inl a : Key) = Sum.inr b) = false := decide_eq_false (fun q => nomatch q)
theorem key_rl (a : Str) (b : Int) : decide ((Sum.inr a : Key) = Sum.inl b) = false := decide_eq_false (fun q => nomatch q)

noncomputable def mixKind (prog : Program) (w : World) : PySem.KeyKind prog w Key where
  is := keyIs
  hash := keyH w
  inj := fun v a b ha hb => by
    rcases keyIs_shape ha with ⟨i, t, rfl, rfl⟩ | ⟨x, t, rfl, rfl⟩
    · rcases keyIs_shape hb with ⟨j, u, rfl, e⟩ | ⟨y, u, rfl, e⟩
      · injection e with e1 _; rw [e1]
      · exact nomatch e
    · rcases keyIs_shape hb with ⟨j, u, rfl, e⟩ | ⟨y, u, rfl, e⟩
      · exact nomatch e
      · injection e with e1 _; rw [e1]
  byValue := fun k v h => by
    rcases keyIs_shape h with ⟨i, t, rfl, rfl⟩ | ⟨x, t, rfl, rfl⟩ <;> rfl
  pyHash := fun hv h => by
    rcases keyIs_shape hv with ⟨i, t, rfl, rfl⟩ | ⟨x, t, rfl, rfl⟩
    · exact wpAny_pyHash_int h
    · exact wpAny_pyHash_str h
  eqBool := fun hu hv h => by
    rcases keyIs_shape hu with ⟨i, t, rfl, rfl⟩ | ⟨x, t, rfl, rfl⟩
    · rcases keyIs_shape hv with ⟨j, u, rfl, rfl⟩ | ⟨y, u, rfl, rfl⟩
      · rw [key_ll] at h; exact wpAny_eqBool_int h
      · rw [key_lr] at h; exact SeqAt.EqAt.int_str i t y u _ _ _ _ h
    · rcases keyIs_shape hv with ⟨j, u, rfl, rfl⟩ | ⟨y, u, rfl, rfl⟩
      · rw [key_rl] at h; exact SeqAt.EqAt.str_int x t j u _ _ _ _ h
      · rw [key_rr] at h; exact wpAny_eqBool_str h
  «strs» := fun k x t v h => by
    rcases keyIs_shape h with ⟨i, u, rfl, e⟩ | ⟨y, u, rfl, e⟩
    · exact nomatch e
    · injection e with e1 _
      subst e1
      cases v <;> rfl

end L2

namespace L2
open PySem PySem.Spec PyProof.Rows

/-- a value, without the heap -/
inductive V where
  | non | bl (b : Bool) | int (i : Int) | str (x : Str) | byt (b : Array UInt8) | flt (b : UInt64) | ref (a : Addr) | ty (n : String)
  deriving DecidableEq

noncomputable def RelV : V → Value → Prop
  | .non, u => u = Value.none
  | .bl b, u => u = Value.bool b
  | .int i, u => ∃ t, u = Value.int i t
  | .str x, u => ∃ t, u = Value.str x t
  | .byt b, u => ∃ t, u = Value.bytes b t
  | .flt b, u => ∃ t, u = Value.float b t
  | .ref a, u => u = Value.ref a
  | .ty n, u => u = Value.type n

noncomputable abbrev Vals : List V → List Value → Prop := Paired RelV
theorem Vals.length {xs : List V} {us : List Value} (r : Vals xs us) : xs.length = us.length := Paired.length r
theorem Vals.get : ∀ {xs : List V} {us : List Value} {i : Nat} {x : V}, Vals xs us → xs[i]? = some x → ∃ u, us[i]? = some u ∧ RelV x u
  | _, _, _, _, .nil, e => by simp at e
  | _, _, 0, _, .cons r _, e => by simp at e; subst e; exact ⟨_, rfl, r⟩
  | _, _, i + 1, x, .cons _ t, e => by
    obtain ⟨u, h1, h2⟩ := Vals.get (i := i) (x := x) t (by simpa using e)
    exact ⟨u, by simpa using h1, h2⟩
theorem Vals.set {x : V} {u : Value} (r : RelV x u) : ∀ {xs : List V} {us : List Value} (i : Nat), Vals xs us → Vals (xs.set i x) (us.set i u)
  | _, _, _, .nil => .nil
  | _, _, 0, .cons _ t => .cons r t
  | _, _, i + 1, .cons q t => .cons q (Vals.set r i t)
theorem Vals.append : ∀ {xs ys : List V} {us ws : List Value}, Vals xs us → Vals ys ws → Vals (xs ++ ys) (us ++ ws)
  | _, _, _, _, .nil, s => s
  | _, _, _, _, .cons r t, s => .cons r (Vals.append t s)
theorem Vals.take : ∀ {xs : List V} {us : List Value} (n : Nat), Vals xs us → Vals (xs.take n) (us.take n)
  | _, _, 0, _ => .nil
  | _, _, _ + 1, .nil => .nil
  | _, _, n + 1, .cons r t => .cons r (Vals.take n t)
theorem Vals.drop : ∀ {xs : List V} {us : List Value} (n : Nat), Vals xs us → Vals (xs.drop n) (us.drop n)
  | _, _, 0, r => r
  | _, _, _ + 1, .nil => .nil
  | _, _, n + 1, .cons _ t => Vals.drop n t
theorem Vals.none_of : ∀ {xs : List V} {us : List Value} {i : Nat}, Vals xs us → xs[i]? = none → us[i]? = none := fun {xs us i} r e => by
  have h1 := r.length
  have h2 : xs.length ≤ i := List.getElem?_eq_none_iff.mp e
  exact List.getElem?_eq_none_iff.mpr (by omega)

noncomputable def RelO : Option V → Option Value → Prop
  | some v, some u => RelV v u
  | none, none => True
  | _, _ => False
noncomputable def KV {κ : Type} : List (κ × V) → List (κ × Value) → Prop := Paired fun (p : κ × V) (q : κ × Value) => p.1 = q.1 ∧ RelV p.2 q.2

/-- a key of a dict (00_mix): an int or a text -/
noncomputable def kV : Key → V
  | .inl i => .int i
  | .inr x => .str x

/-- what stands at a tracked address -/
inductive HO where
  /-- a list -/
  | lst (xs : List V)
  /-- a tuple (never changes) -/
  | tup (xs : List V)
  /-- a dict whose keys are ints and texts; one whose keys are tuples of ints and texts (the empty one is both) -/
  | dK (kvs : List (Key × V)) | dT (kvs : List (List Key × V))
  /-- a set of ints: its members, its size -/
  | set (S : Int → Bool) (n : Nat)
  /-- an instance of the class at C, its dict at dx, its attributes -/
  | ins (C dx : Addr) (fs : List (Str × V))
  /-- the dict of the instance at x -/
  | own (x : Addr)
  /-- the dict of an exception -/
  | xd (fs : List (Str × V))
  /-- a bound method, f of x -/
  | met (f x : Addr)
  /-- a range object lo, lo + 1, .. below hi -/
  | rng (lo hi : Int)
  /-- a thing that is known to the object (the script; a dict while a loop walks it): read, never written while it is so -/
  | frz (o : Obj) (u : HO)
  /-- a code object's table -/
  | tbl (ps : Array Value)
  /-- any other thing, by what is true of its one object (a def of one's own: SetO a S n := HO.ext fun h => ..) -/
  | ext (φ : Heap → Prop)

noncomputable abbrev Hp := Addr → Option HO
noncomputable def upd (H : Hp) (a : Addr) (o : HO) : Hp := fun b => if b = a then some o else H b
theorem upd_same {H : Hp} {a : Addr} {o : HO} : upd H a o a = some o := by unfold upd; rw [if_pos rfl]
theorem upd_ne {H : Hp} {a b : Addr} {o : HO} (h : b ≠ a) : upd H a o b = H b := by unfold upd; rw [if_neg h]
theorem upd_upd {H : Hp} {a : Addr} {o u : HO} : upd (upd H a o) a u = upd H a u := by
  funext b; unfold upd; split <;> rfl
theorem ne_of_none {H : Hp} {a b : Addr} {o : HO} (h : H a = some o) (h' : H b = none) : a ≠ b := by
  intro e; subst e; rw [h] at h'; cases h'

section
variable (P : Program) (w : World)
noncomputable def ObjOk (H : Hp) (h : Heap) (a : Addr) : HO → Prop
  | .lst xs => xs.length ≤ sizeLine ∧ ∃ (its : List Value) (n : Nat), Vals xs its ∧ h.get? a = some { cls := .type "list", data := .seq its.toArray n }
  | .tup xs => xs.length ≤ sizeLine ∧ ∃ its : List Value, Vals xs its ∧ IsTup h a its.toArray
  | .dK kvs => kvs.length ≤ sizeLine ∧ (a == sysModules) = false ∧ ∃ vs, KV kvs vs ∧ h.DictOf (mixKind P w) a vs
  | .dT kvs => kvs.length ≤ sizeLine ∧ (a == sysModules) = false ∧ ∃ xs : List (List Key × Addr × Value),
      Paired (fun (p : List Key × V) (q : List Key × Addr × Value) => p.1 = q.1 ∧ H q.2.1 = some (.tup (p.1.map kV)) ∧ RelV p.2 q.2.2) kvs xs ∧
      ∃ o es ep, h.get? a = some o ∧ o.ExactDict ∧ o.data = .dict es ep ∧ es.toList = xs.map (entryOfKey (tupleKind (mixKind P w))) ∧ (xs.map (·.1)).Nodup
  | .set S n => h.SetOf (intKind P w) a S n
  | .ins C dx fs => H dx = some (.own a) ∧ fs.length ≤ 1000 ∧ dx ≠ a ∧ h.get? a = some (PySem.W.instObj C dx) ∧
      ∃ mA, h.Ns1 dx mA ∧ (∀ f, RelO (fs.lookup f) (mA f)) ∧ PySem.Within mA (fs.map (·.1))
  | .own _ => ∃ o, h.get? a = some o
  | .xd fs => ∃ mA, h.Ns1 a mA ∧ ∀ f, RelO (fs.lookup f) (mA f)
  | .rng lo hi => ∃ t u v, h.get? a = some { cls := .type "range", data := .fields #[.int lo t, .int hi u, .int 1 v] }
  | .frz o u => h.get? a = some o ∧ ObjOk H h a u
  | .tbl ps => h.get? a = some { cls := .none, data := .fields ps }
  | .met f x => h.get? a = some (PySem.W.methodObj (.ref f) (.ref x))
  | .ext φ => φ h ∧ (∃ o, h.get? a = some o) ∧ ∀ h1 h2 : Heap, φ h1 → (∀ o, h1.get? a = some o → h2.get? a = some o) → φ h2
/-- the abstract heap is held -/
noncomputable def HOk (H : Hp) (h : Heap) : Prop := ∀ a o, H a = some o → ObjOk P w H h a o
end

section
variable {P : Program} {w : World} {H H' : Hp} {h h' : Heap} {a : Addr} {o : HO}
theorem ObjOk.lt (x : ObjOk P w H h a o) : a < h.objs.size := by
  cases o with
  | lst xs => obtain ⟨_, _, _, _, e⟩ := x; exact Heap.lt_size e
  | tup xs => obtain ⟨_, _, _, p⟩ := x; exact p.lt
  | dK kvs => obtain ⟨_, _, _, _, o, _, _, e, _⟩ := x; exact Heap.lt_size e
  | dT kvs => obtain ⟨_, _, _, _, o, _, _, e, _⟩ := x; exact Heap.lt_size e
  | set S n => obtain ⟨o, _, _, _, e, _⟩ := x; exact Heap.lt_size e
  | ins C dx fs => obtain ⟨_, _, _, e, _⟩ := x; exact Heap.lt_size e
  | own y => obtain ⟨_, e⟩ := x; exact Heap.lt_size e
  | xd fs => obtain ⟨_, ⟨_, _, _, e, _⟩, _⟩ := x; exact Heap.lt_size e
  | rng lo hi => obtain ⟨_, _, _, e⟩ := x; exact Heap.lt_size e
  | frz ob u => obtain ⟨e, _⟩ := x; exact Heap.lt_size e
  | tbl ps => exact Heap.lt_size (show h.get? a = some _ from x)
  | met f y => exact Heap.lt_size (show h.get? a = some _ from x)
  | ext φ => obtain ⟨_, ⟨_, e⟩, _⟩ := x; exact Heap.lt_size e
theorem Paired.mapP {α β : Type} {F G : α → β → Prop} : ∀ {l₁ : List α} {l₂ : List β}, Paired F l₁ l₂ → (∀ a b, F a b → G a b) → Paired G l₁ l₂
  | _, _, .nil, _ => .nil
  | _, _, .cons r t, f => .cons (f _ _ r) (Paired.mapP t f)
/-- what an object's description leans on: its own object, its own dict, the tuples -/
theorem ObjOk.stay (x : ObjOk P w H h a o) (k : ∀ b u, (b = a ∨ H b = some (.own a)) → h.get? b = some u → h'.get? b = some u)
    (ho : ∀ b, H b = some (.own a) → H' b = some (.own a)) (ht : ∀ b xs, H b = some (.tup xs) → H' b = some (.tup xs)) : ObjOk P w H' h' a o := by
  induction o with
  | lst xs => obtain ⟨z, its, n, r, e⟩ := x; exact ⟨z, its, n, r, k _ _ (.inl rfl) e⟩
  | tup xs => obtain ⟨z, its, r, ob, e, c⟩ := x; exact ⟨z, its, r, ob, k _ _ (.inl rfl) e, c⟩
  | dK kvs => obtain ⟨z, y, vs, r, ob, es, ep, e, c⟩ := x; exact ⟨z, y, vs, r, ob, es, ep, k _ _ (.inl rfl) e, c⟩
  | dT kvs =>
    obtain ⟨z, y, xs, r, ob, es, ep, e, c⟩ := x
    exact ⟨z, y, xs, Paired.mapP r fun p q z => ⟨z.1, ht _ _ z.2.1, z.2.2⟩, ob, es, ep, k _ _ (.inl rfl) e, c⟩
  | set S n => obtain ⟨ob, es, ep, t, e, c⟩ := x; exact ⟨ob, es, ep, t, k _ _ (.inl rfl) e, c⟩
  | ins C dx fs =>
    obtain ⟨d, z, ne, e, mA, ⟨od, es, ep, e2, c⟩, r⟩ := x
    exact ⟨ho _ d, z, ne, k _ _ (.inl rfl) e, mA, ⟨od, es, ep, k _ _ (.inr d) e2, c⟩, r⟩
  | own y => obtain ⟨ob, e⟩ := x; exact ⟨ob, k _ _ (.inl rfl) e⟩
  | xd fs => obtain ⟨mA, ⟨od, es, ep, e, c⟩, r⟩ := x; exact ⟨mA, ⟨od, es, ep, k _ _ (.inl rfl) e, c⟩, r⟩
  | rng lo hi => obtain ⟨t, u, v, e⟩ := x; exact ⟨t, u, v, k _ _ (.inl rfl) e⟩
  | frz ob u ih => obtain ⟨e, q⟩ := x; exact ⟨k _ _ (.inl rfl) e, ih q⟩
  | tbl ps =>
    have e : h.get? a = some { cls := .none, data := .fields ps } := x
    show h'.get? a = some { cls := .none, data := .fields ps }
    exact k a _ (.inl rfl) e
  | met f y =>
    have e : h.get? a = some (PySem.W.methodObj (.ref f) (.ref y)) := x
    show h'.get? a = some (PySem.W.methodObj (.ref f) (.ref y))
    exact k a _ (.inl rfl) e
  | ext φ => obtain ⟨p, ⟨o, e⟩, st⟩ := x; exact ⟨st _ _ p fun o q => k _ _ (.inl rfl) q, ⟨o, k _ _ (.inl rfl) e⟩, st⟩
theorem HOk.lt (x : HOk P w H h) (e : H a = some o) : a < h.objs.size := (x a o e).lt
theorem HOk.fresh (x : HOk P w H h) (e : h.objs.size ≤ a) : H a = none := by
  cases q : H a with
  | none => rfl
  | some u => exact absurd (Nat.lt_of_lt_of_le (x.lt q) e) (Nat.lt_irrefl _)
/-- every object of the heap is kept -/
theorem HOk.kept (x : HOk P w H h) (k : ∀ b u, h.get? b = some u → h'.get? b = some u) : HOk P w H h' := fun a o e =>
  (x a o e).stay (fun b u _ q => k b u q) (fun _ q => q) fun _ _ q => q
/-- a new object is laid and tracked -/
theorem HOk.laid (x : HOk P w H h) (k : ∀ b u, h.get? b = some u → h'.get? b = some u) (hp : h.objs.size ≤ a) (new : ObjOk P w (upd H a o) h' a o) : HOk P w (upd H a o) h' := fun b u e => by
  have hn := x.fresh hp
  by_cases hb : b = a
  · subst hb; rw [upd_same] at e; cases e; exact new
  · rw [upd_ne hb] at e
    exact (x b u e).stay (fun c v _ q => k c v q) (fun c q => by rw [upd_ne (ne_of_none q hn)]; exact q) fun c xs q => by rw [upd_ne (ne_of_none q hn)]; exact q
end

/-- what may be read as u: it is u, or a known u -/
noncomputable def Rd (H : Hp) (a : Addr) (u : HO) : Prop := H a = some u ∨ ∃ o, H a = some (.frz o u)
theorem Rd.of {H : Hp} {a : Addr} {u : HO} (h : H a = some u) : Rd H a u := .inl h
theorem Rd.ok {P : Program} {w : World} {H : Hp} {h : Heap} {a : Addr} {u : HO} (r : Rd H a u) (x : HOk P w H h) : ObjOk P w H h a u := by
  rcases r with r | ⟨o, r⟩
  · exact x a u r
  · obtain ⟨_, q⟩ := x a _ r
    exact q
/-- what may be written -/
noncomputable def Mut : Option HO → Prop
  | some (.lst _) => True
  | some (.dK _) => True
  | some (.dT _) => True
  | some (.set _ _) => True
  | some (.ins _ _ _) => True
  | some (.ext _) => True
  | _ => False
section
variable {P : Program} {w : World} {H : Hp} {h h' : Heap} {x e : Addr} {o' : HO}
/-- the object at e is changed: x itself, or the dict of the instance x -/
theorem HOk.write (ok : HOk P w H h) (mu : Mut (H x)) (he : e = x ∨ H e = some (.own x)) (k : ∀ b u, b ≠ e → h.get? b = some u → h'.get? b = some u) (heo : ∃ u, h'.get? e = some u)
    (new : ObjOk P w (upd H x o') h' x o') : HOk P w (upd H x o') h' := fun b u q => by
  have nown : ∀ c y, H c = some (.own y) → c ≠ x := fun c y r z => by subst z; rw [r] at mu; exact mu
  have ntup : ∀ c xs, H c = some (.tup xs) → c ≠ x := fun c xs r z => by subst z; rw [r] at mu; exact mu
  by_cases hb : b = x
  · subst hb; rw [upd_same] at q; cases q; exact new
  · rw [upd_ne hb] at q
    by_cases hbe : b = e
    · have q' : H b = some (.own x) := by
        rcases he with z | z
        · exact absurd (hbe.trans z) hb
        · rw [hbe]; exact z
      rw [q] at q'; cases q'
      obtain ⟨v, hv⟩ := heo
      exact ⟨v, by rw [hbe]; exact hv⟩
    · refine (ok b u q).stay (fun c v hc r => k c v ?_ r) (fun c r => by rw [upd_ne (nown c b r)]; exact r) fun c xs r => by rw [upd_ne (ntup c xs r)]; exact r
      rcases hc with rfl | hc
      · exact hbe
      · rintro rfl
        rcases he with z | z
        · exact nown c b hc z
        · rw [hc] at z; cases z; exact hb rfl
end

/-! ### kept unless tracked; of the frames at fs (the callers') the slots may change (an exception that passes writes there); of the records at ex (iterators) nothing is said -/
structure Un (fs ex : List Addr) (H H' : Hp) (h h' : Heap) : Prop where
  keep : ∀ b o, h.get? b = some o → H b = none → b ∉ fs → b ∉ ex → h'.get? b = some o
  slot : ∀ b o, h.get? b = some o → H b = none → b ∈ fs → b ∉ ex → ∃ sl, h'.get? b = some { o with slots := sl }
  free : ∀ b o, h.get? b = some o → H b = none → b ∉ ex → H' b = none
  there : ∀ b o, h.get? b = some o → b ∉ ex → ∃ o', h'.get? b = some o'
  tups : ∀ b xs, H b = some (.tup xs) → H' b = some (.tup xs)
  frzs : ∀ b o u, H b = some (.frz o u) → H' b = some (.frz o u)
  tbls : ∀ b ps, H b = some (.tbl ps) → ∃ more, H' b = some (.tbl (ps ++ more))
section
variable {fs fs' ex ex' : List Addr} {H H1 H2 : Hp} {h h1 h2 h' : Heap} {a x e : Addr} {o : HO}
theorem Un.any (u : Un fs ex H H1 h h1) {b : Addr} {ob : Obj} (q : h.get? b = some ob) (n : H b = none) (hx : b ∉ ex) : ∃ sl, h1.get? b = some { ob with slots := sl } := by
  by_cases hb : b ∈ fs
  · exact u.slot b ob q n hb hx
  · exact ⟨ob.slots, u.keep b ob q n hb hx⟩
theorem Un.trans (a : Un fs ex H H1 h h1) (b : Un fs ex H1 H2 h1 h2) : Un fs ex H H2 h h2 where
  keep := fun c ob q n hc hx => b.keep c ob (a.keep c ob q n hc hx) (a.free c ob q n hx) hc hx
  slot := fun c ob q n hc hx => by
    obtain ⟨sl, e1⟩ := a.slot c ob q n hc hx
    obtain ⟨sl', e2⟩ := b.slot c _ e1 (a.free c ob q n hx) hc hx
    exact ⟨sl', e2⟩
  free := fun c ob q n hx => by
    obtain ⟨o', e1⟩ := a.there c ob q hx
    exact b.free c o' e1 (a.free c ob q n hx) hx
  there := fun c ob q hx => by
    obtain ⟨o', e1⟩ := a.there c ob q hx
    exact b.there c o' e1 hx
  tups := fun c xs q => b.tups c xs (a.tups c xs q)
  frzs := fun c ob xs q => b.frzs c ob xs (a.frzs c ob xs q)
  tbls := fun c ps q => by
    obtain ⟨m1, e1⟩ := a.tbls c ps q
    obtain ⟨m2, e2⟩ := b.tbls c _ e1
    exact ⟨m1 ++ m2, by rw [e2, Array.append_assoc]⟩
theorem Un.kept (k : ∀ b u, h.get? b = some u → h'.get? b = some u) : Un fs ex H H h h' :=
  ⟨fun b ob q _ _ _ => k b ob q, fun b ob q _ _ _ => ⟨ob.slots, k b ob q⟩, fun _ _ _ n _ => n, fun b ob q _ => ⟨ob, k b ob q⟩, fun _ _ q => q, fun _ _ _ q => q, fun _ ps q => ⟨#[], by rw [q]; simp⟩⟩
theorem Un.refl : Un fs ex H H h h := Un.kept fun _ _ q => q
theorem Un.laid (k : ∀ b u, h.get? b = some u → h'.get? b = some u) (hp : h.objs.size ≤ a) (hn : H a = none) : Un fs ex H (upd H a o) h h' where
  keep := fun b u q _ _ _ => k b u q
  slot := fun b u q _ _ _ => ⟨u.slots, k b u q⟩
  free := fun b u q n _ => by rw [upd_ne (Nat.ne_of_lt (Nat.lt_of_lt_of_le (Heap.lt_size q) hp))]; exact n
  there := fun b u q _ => ⟨u, k b u q⟩
  tups := fun b xs q => by rw [upd_ne (ne_of_none q hn)]; exact q
  frzs := fun b u xs q => by rw [upd_ne (ne_of_none q hn)]; exact q
  tbls := fun b ps q => ⟨#[], by rw [upd_ne (ne_of_none q hn), q]; simp⟩
theorem Un.write (mu : Mut (H x)) (he : e = x ∨ H e = some (.own x)) (k : ∀ b u, b ≠ e → h.get? b = some u → h'.get? b = some u) (heo : ∃ u, h'.get? e = some u) : Un fs ex H (upd H x o) h h' := by
  have hx : ∀ b, H b = none → b ≠ x := fun b n z => by subst z; rw [n] at mu; exact mu
  have hb : ∀ b, H b = none → b ≠ e := fun b n z => by
    subst z
    rcases he with r | r
    · exact hx b n r
    · rw [n] at r; cases r
  have hm : ∀ b u, H b = some u → ¬ Mut (some u) → b ≠ x := fun b u q nm z => by subst z; rw [q] at mu; exact nm mu
  refine ⟨fun b u q n _ _ => k b u (hb b n) q, fun b u q n _ _ => ⟨u.slots, k b u (hb b n) q⟩, fun b u q n _ => by rw [upd_ne (hx b n)]; exact n, fun b u q _ => ?_,
    fun b xs q => by rw [upd_ne (hm b _ q fun z => z)]; exact q, fun b u xs q => by rw [upd_ne (hm b _ q fun z => z)]; exact q, fun b ps q => ⟨#[], by rw [upd_ne (hm b _ q fun z => z), q]; simp⟩⟩
  by_cases hbe : b = e
  · subst hbe; exact heo
  · exact ⟨u, k b u hbe q⟩
theorem Un.mono (u : Un fs ex H H1 h h1) (hs : ∀ b ∈ fs, b ∈ fs') (hx : ∀ b ∈ ex, b ∈ ex') : Un fs' ex' H H1 h h1 :=
  ⟨fun b ob q n hb he => u.keep b ob q n (fun z => hb (hs b z)) fun z => he (hx b z), fun _ _ q n _ he => u.any q n fun z => he (hx _ z), fun b ob q n he => u.free b ob q n fun z => he (hx b z), fun b ob q he => u.there b ob q fun z => he (hx b z), u.tups, u.frzs, u.tbls⟩
end

/-! ### the heap without what is tracked -/
noncomputable def trk (h : Heap) (H : Hp) : List Addr := (List.range h.objs.size).filter fun a => (H a).isSome
noncomputable def hidT (h : Heap) (H : Hp) : Heap := PySem.W.hideAll h (trk h H)
theorem hidT_size (h : Heap) (H : Hp) : (hidT h H).objs.size = h.objs.size := PySem.W.hideAll_size _ _
theorem hidT_get {h : Heap} {H : Hp} {b : Addr} {o : Obj} (e : h.get? b = some o) (n : H b = none) : (hidT h H).get? b = some o :=
  PySem.W.hideAll_get _ e fun hm => by
    have q : (H b).isSome = true := (List.mem_filter.mp hm).2
    rw [n] at q; simp at q
theorem of_hidT {h : Heap} {H : Hp} {b : Addr} {o : Obj} (e : (hidT h H).get? b = some o) : h.get? b = some o ∧ H b = none := by
  have e' : h.get? b = some o := PySem.W.of_hideAll (trk h H) e
  refine ⟨e', ?_⟩
  cases q : H b with
  | none => rfl
  | some x =>
    have hm : b ∈ trk h H := List.mem_filter.mpr ⟨List.mem_range.mpr (Heap.lt_size e'), by simp [q]⟩
    have z : (hidT h H).get? b = none := PySem.W.hideAll_none (trk h H) hm
    rw [z] at e; cases e

/-! ### OpenK's ledger, filled with every new object but one -/
noncomputable def allNews (g h : Heap) (L : Addr) : List (Addr × Obj) := (List.range h.objs.size).filterMap fun a => if a = L ∨ (g.get? a).isSome = true then none else (h.get? a).map fun o => (a, o)
noncomputable def rest (g h : Heap) (L d : Addr) : List (Addr × Obj) := (allNews g h L).filter fun p => decide (p.1 ≠ d)
end L2

namespace L2
open PySem PySem.Spec PyProof.Rows

/-- the module's facts, over the base: the heap at the law's entry without what is tracked there -/
structure Mod (K : PySem.W.Frag) (mg : Str → Option Value) (base : Heap) : Prop where
  kin : K.In base
  glob : base.Ns mainGlobals mg
  blt : ∃ mb, base.Ns builtinsNs mb ∧ ∀ x : Str, x ≠ "__name__" → mb x = bootBuiltins x
  nolimit : base.NoLimit

/-- the context: a def's body (or a comprehension's block) running. base: fixed through the whole law; s₀, H₀: the entry; outer: the frames whose slots others may change (a def's callers); stack: all frames that run;
   ex: iterators that were made ahead of the entry and are walked here (a comprehension's); fn: the names whose cells were made at the entry (a def: all; a comprehension's block: its own); calm: not within an except suite; pn: pins that every state bears; xe: what is wanted of an exception that leaves the code -/
structure Cx where
  prog : Program
  w : World
  K : PySem.W.Frag
  mg : Str → Option Value
  base : Heap
  A : Around
  N : List Str
  s₀ : Shared
  H₀ : Hp
  env : Env
  outer : List Env
  stack : List Env
  ex : List Addr
  fn : Str → Bool
  calm : Bool
  pn : List (Addr × Obj)
  xe : Value → Shared → Prop
/-- the callers' frames -/
noncomputable def frs (l : List Env) : List Addr := l.filterMap (·.frame)
noncomputable abbrev Cx.fs (X : Cx) : List Addr := frs X.outer

noncomputable def Vis (sc : Scope) (x : Str) : Prop := sc.names.lookup x = some .local ∨ sc.names.lookup x = some .cell ∨ sc.names.lookup x = some .free
noncomputable def Loc (sc : Scope) (x : Str) : Prop := sc.names.lookup x = some .local ∨ sc.names.lookup x = some .cell
noncomputable def Look (env : Env) (h : Heap) (m : Str → Option Value) (x : Str) (u : Value) : Prop :=
  (env.kindOf x = some .local ∧ m x = some u) ∨ ((env.kindOf x = some .cell ∨ env.kindOf x = some .free) ∧ ∃ c, env.cells.lookup x = some c ∧ h.IsCell c (some u))

structure Cx.Ok (X : Cx) : Prop where
  mod : Mod X.K X.mg X.base
  kind : X.env.scope.kind = .function
  glob : X.env.globals = mainGlobals
  blt : X.env.builtins = builtinsNs
  above : X.s₀.heap.objs.size ≤ X.env.locals
  inj : ∀ x y c, X.env.cells.lookup x = some c → X.env.cells.lookup y = some c → x = y
  has : ∀ x, (X.env.kindOf x = some .cell ∨ X.env.kindOf x = some .free) → ∃ c, X.env.cells.lookup x = some c
  cab : ∀ x c, X.fn x = true → X.env.cells.lookup x = some c → X.s₀.heap.objs.size ≤ c
  hd : X.calm = true → X.A.handled = none
  frames : X.A.frames = some X.stack
  stk : X.stack = X.outer ∨ (X.stack = X.env :: X.outer ∧ X.env.frame = some X.env.locals)
  exf : ∀ b ∈ X.ex, b ≠ X.env.locals ∧ ∀ x c, X.env.cells.lookup x = some c → c ≠ b
  bs : ∀ b o, X.base.get? b = some o → X.s₀.heap.get? b = some o ∧ X.H₀ b = none
  bsz : X.base.objs.size ≤ X.s₀.heap.objs.size
  noex : ∀ b o, X.base.get? b = some o → b ∉ X.ex
  exfs : ∀ b ∈ X.ex, b ∉ X.fs
  funs : X.s₀.heap.FunFrames X.base X.outer
  frf : ∀ b ∈ X.fs, X.H₀ b = none

structure Inv (X : Cx) (pins : List (Addr × Obj)) (σ : List (Option V)) (H : Hp) (s : Shared) : Prop where
  ok : X.Ok
  os : s.os = X.s₀.os
  bare : AllBare s.gens
  base : Un X.fs X.ex X.H₀ H X.s₀.heap s.heap
  loc : ∃ m, s.heap.Ns X.env.locals m ∧ ∀ (i : Nat) (x : Str) (v : V), X.N[i]? = some x → σ[i]? = some (some v) → Vis X.env.scope x → ∃ u, RelV v u ∧ Look X.env s.heap m x u
  cell : ∀ x c, X.env.cells.lookup x = some c → ∃ v, s.heap.IsCell c v
  free : H X.env.locals = none
  freeC : ∀ x c, X.env.cells.lookup x = some c → H c = none
  pin : ∀ p ∈ X.pn ++ pins, s.heap.get? p.1 = some p.2 ∧ H p.1 = none ∧ p.1 ≠ X.env.locals ∧ p.1 ∉ X.fs ∧ ∀ v, p.2.data ≠ .cell v
  hok : HOk X.prog X.w H s.heap
  len : σ.length = X.N.length

section
variable {X : Cx} {pins : List (Addr × Obj)} {σ : List (Option V)} {H H' : Hp} {s : Shared} {h' : Heap}

theorem Cx.Ok.nofr (ok : X.Ok) {b : Addr} {o : Obj} (e : X.base.get? b = some o) : b ∉ X.fs := fun hb => by
  have := (ok.funs.mem hb).1
  rw [e] at this; cases this
theorem Inv.bs (I : Inv X pins σ H s) : ∀ b o, X.base.get? b = some o → s.heap.get? b = some o ∧ H b = none := fun b o e =>
  ⟨I.base.keep b o (I.ok.bs b o e).1 (I.ok.bs b o e).2 (I.ok.nofr e) (I.ok.noex b o e), I.base.free b o (I.ok.bs b o e).1 (I.ok.bs b o e).2 (I.ok.noex b o e)⟩
theorem Inv.bk (I : Inv X pins σ H s) : ∀ b o, X.base.get? b = some o → s.heap.get? b = some o := fun b o e => (I.bs b o e).1
theorem Inv.mod (I : Inv X pins σ H s) : Mod X.K X.mg X.base := I.ok.mod
theorem Inv.kIn (I : Inv X pins σ H s) : X.K.In s.heap := I.ok.mod.kin.keeps I.bk
theorem Inv.nolimit (I : Inv X pins σ H s) : s.heap.NoLimit := I.ok.mod.nolimit.keeps I.bk
/-- the frame over the base: for OpenK's rules (K.In X.base is I.mod.kin) -/
theorem Inv.fr (I : Inv X pins σ H s) : ∃ m, Fr X.base X.env.locals s.heap m :=
  let ⟨m, hn, _⟩ := I.loc
  ⟨m, hn, I.bk, Nat.le_trans I.ok.bsz I.ok.above⟩
theorem Inv.lt (I : Inv X pins σ H s) : X.env.locals < s.heap.objs.size := let ⟨_, hn, _⟩ := I.loc; hn.lt
theorem Inv.sz (I : Inv X pins σ H s) : X.s₀.heap.objs.size ≤ s.heap.objs.size := Nat.le_trans I.ok.above (Nat.le_of_lt I.lt)
theorem Inv.nofs (I : Inv X pins σ H s) {a : Addr} (h : s.heap.objs.size ≤ a) : a ∉ X.fs := fun hb => by
  obtain ⟨_, o, ho, _⟩ := I.ok.funs.mem hb
  exact absurd (Nat.lt_of_lt_of_le (Heap.lt_size ho) (Nat.le_trans I.sz h)) (Nat.lt_irrefl _)
theorem Inv.cne (I : Inv X pins σ H s) : ∀ x c, X.env.cells.lookup x = some c → c ≠ X.env.locals := fun x c e z => by
  obtain ⟨v, o, ho, hd⟩ := I.cell x c e
  obtain ⟨m, ⟨o', es, ep, ho', hd', _⟩, _⟩ := I.loc
  rw [z, ho'] at ho; cases ho; rw [hd'] at hd; cases hd
theorem Inv.funs (I : Inv X pins σ H s) : s.heap.FunFrames X.base X.outer := by
  have all : ∀ (l : List Env), (∀ b ∈ frs l, b ∈ X.fs) → X.s₀.heap.FunFrames X.base l → s.heap.FunFrames X.base l := by
    intro l
    induction l with
    | nil => intro _ _; trivial
    | cons env r ih =>
      intro hs hl
      obtain ⟨hk, ⟨L, o, hf, hn, ho, hd⟩, hr⟩ := hl
      have hL : L ∈ X.fs := hs L (by unfold frs; rw [List.filterMap_cons, hf]; exact List.mem_cons_self)
      obtain ⟨sl, e⟩ := I.base.slot L o ho (I.ok.frf L hL) hL fun z => I.ok.exfs L z hL
      exact ⟨hk, ⟨L, _, hf, hn, e, hd⟩, ih (fun b hb => hs b (by unfold frs; rw [List.filterMap_cons, hf]; exact List.mem_cons_of_mem _ hb)) hr⟩
  exact all X.outer (fun _ hb => hb) I.ok.funs

/-- the frames that run, for a call -/
theorem Inv.stack (I : Inv X pins σ H s) : s.heap.FunFrames X.base X.stack := by
  rcases I.ok.stk with e | ⟨e, hf⟩
  · rw [e]; exact I.funs
  · rw [e]
    obtain ⟨m, hn, _⟩ := I.loc
    refine .cons (by rw [I.ok.kind]; decide) hf hn ?_ I.funs
    exact Heap.get?_none_of_le (Nat.le_trans I.ok.bsz I.ok.above)
theorem Inv.stkSub (I : Inv X pins σ H s) : ∀ b ∈ frs X.stack, b ∈ X.env.locals :: X.fs := fun b hb => by
  rcases I.ok.stk with e | ⟨e, hf⟩
  · rw [e] at hb; exact List.mem_cons_of_mem _ hb
  · rw [e] at hb
    unfold frs at hb
    rw [List.filterMap_cons, hf] at hb
    exact hb
theorem Inv.stkFree (I : Inv X pins σ H s) : ∀ b ∈ frs X.stack, H b = none := fun b hb => by
  rcases List.mem_cons.mp (I.stkSub b hb) with e | hb
  · rw [e]; exact I.free
  · obtain ⟨_, o, ho, _⟩ := I.ok.funs.mem hb
    exact I.base.free b o ho (I.ok.frf b hb) fun z => I.ok.exfs b z hb

/-- THE STEP: the untracked objects but the frame and the records at ch are kept (the callers' frames up to slots), the frame's map is kept, the new abstract heap is held -/
theorem Inv.step {g' : Array GenState} {t' : Nat} {d' : Drawn} {ch : List Addr} (I : Inv X pins σ H s)
    (hch : ∀ b ∈ ch, (b ∈ X.ex ∨ X.s₀.heap.objs.size ≤ b) ∧ b ≠ X.env.locals ∧ (∀ x c, X.env.cells.lookup x = some c → c ≠ b) ∧ ∀ p ∈ X.pn ++ pins, p.1 ≠ b)
    (keep : ∀ b o, b ≠ X.env.locals → b ∉ X.fs → b ∉ ch → s.heap.get? b = some o → H b = none → h'.get? b = some o)
    (slot : ∀ b o, b ≠ X.env.locals → b ∈ X.fs → b ∉ ch → s.heap.get? b = some o → H b = none → ∃ sl, h'.get? b = some { o with slots := sl }) (free : ∀ b o, b ∉ ch → s.heap.get? b = some o → H b = none → H' b = none)
    (there : ∀ b o, b ∉ ch → s.heap.get? b = some o → ∃ o', h'.get? b = some o')
    (tups : ∀ b xs, H b = some (.tup xs) → H' b = some (.tup xs)) (frzs : ∀ b o u, H b = some (.frz o u) → H' b = some (.frz o u)) (tbls : ∀ b ps, H b = some (.tbl ps) → ∃ more, H' b = some (.tbl (ps ++ more)))
    (ns : ∀ m, s.heap.Ns X.env.locals m → h'.Ns X.env.locals m) (hok : HOk X.prog X.w H' h') (hg : AllBare g') :
    Inv X pins σ H' { s with heap := h', gens := g', drawn := d', toks := t' } := by
  have neL : ∀ b o, X.s₀.heap.get? b = some o → b ≠ X.env.locals := fun b o e => Nat.ne_of_lt (Nat.lt_of_lt_of_le (Heap.lt_size e) I.ok.above)
  have neC : ∀ b o, X.s₀.heap.get? b = some o → b ∉ X.ex → b ∉ ch := fun b o e hx hb => by
    rcases (hch b hb).1 with z | z
    · exact hx z
    · exact absurd (Nat.lt_of_lt_of_le (Heap.lt_size e) z) (Nat.lt_irrefl _)
  have cellK : ∀ x c, X.env.cells.lookup x = some c → ∀ v, s.heap.IsCell c v → h'.IsCell c v := fun x c e v ⟨o, ho, hd⟩ => by
    have nch : c ∉ ch := fun z => (hch c z).2.2.1 x c e rfl
    by_cases hc : c ∈ X.fs
    · obtain ⟨sl, q⟩ := slot c o (I.cne x c e) hc nch ho (I.freeC x c e)
      exact ⟨_, q, hd⟩
    · exact ⟨o, keep c o (I.cne x c e) hc nch ho (I.freeC x c e), hd⟩
  refine ⟨I.ok, I.os, hg, ⟨fun b o e n hb hx => ?_, fun b o e n hb hx => ?_, fun b o e n hx => ?_, fun b o e hx => ?_, fun b xs e => tups b xs (I.base.tups b xs e), fun b o xs e => frzs b o xs (I.base.frzs b o xs e), fun b ps e => ?_⟩, ?_, fun x c e => ?_, ?_, fun x c e => ?_, fun p hp => ?_, hok, I.len⟩
  · exact keep b o (neL b o e) hb (neC b o e hx) (I.base.keep b o e n hb hx) (I.base.free b o e n hx)
  · obtain ⟨sl, e1⟩ := I.base.slot b o e n hb hx
    obtain ⟨sl', e2⟩ := slot b _ (neL b o e) hb (neC b o e hx) e1 (I.base.free b o e n hx)
    exact ⟨sl', e2⟩
  · obtain ⟨o', e1⟩ := I.base.there b o e hx
    exact free b o' (neC b o e hx) e1 (I.base.free b o e n hx)
  · obtain ⟨o', e1⟩ := I.base.there b o e hx
    exact there b o' (neC b o e hx) e1
  · obtain ⟨m1, e1⟩ := I.base.tbls b ps e
    obtain ⟨m2, e2⟩ := tbls b _ e1
    exact ⟨m1 ++ m2, by rw [e2, Array.append_assoc]⟩
  · obtain ⟨m, hn, hl⟩ := I.loc
    refine ⟨m, ns m hn, fun i x v e1 e2 e3 => ?_⟩
    obtain ⟨u, r, l⟩ := hl i x v e1 e2 e3
    refine ⟨u, r, ?_⟩
    rcases l with l | ⟨k, c, e, z⟩
    · exact .inl l
    · exact .inr ⟨k, c, e, cellK x c e _ z⟩
  · obtain ⟨v, z⟩ := I.cell x c e
    exact ⟨v, cellK x c e v z⟩
  · obtain ⟨m, ⟨o, _, _, ho, _⟩, _⟩ := I.loc
    exact free _ o (fun z => (hch _ z).2.1 rfl) ho I.free
  · obtain ⟨v, o, ho, hd⟩ := I.cell x c e
    exact free c o (fun z => (hch c z).2.2.1 x c e rfl) ho (I.freeC x c e)
  · obtain ⟨e, n, ne, nf, d⟩ := I.pin p hp
    have nch : p.1 ∉ ch := fun z => (hch p.1 z).2.2.2 p hp rfl
    exact ⟨keep p.1 p.2 ne nf nch e n, free p.1 p.2 nch e n, ne, nf, d⟩
/-- .. where the frame's own object is kept too -/
theorem Inv.un {t' : Nat} (I : Inv X pins σ H s) (u : Un X.fs [] H H' s.heap h') (hok : HOk X.prog X.w H' h') : Inv X pins σ H' { s with heap := h', toks := t' } := by
  obtain ⟨m, ⟨o, es, ep, ho, r⟩, _⟩ := id I.loc
  obtain ⟨sl, hL⟩ := u.any ho I.free (by simp)
  exact I.step (g' := s.gens) (d' := s.drawn) (ch := []) (fun _ z => nomatch z) (fun b o _ hb _ e n => u.keep b o e n hb (by simp)) (fun b o _ hb _ e n => u.slot b o e n hb (by simp)) (fun b o _ e n => u.free b o e n (by simp)) (fun b o _ e => u.there b o e (by simp)) u.tups u.frzs u.tbls (fun m' hm => by
    obtain ⟨o', es', ep', ho', r'⟩ := hm
    rw [ho] at ho'; cases ho'
    exact ⟨_, es', ep', hL, r'⟩) hok I.bare
/-- behind a call (or a comprehension's block): the slots of this frame may have changed too, the records at ch may have turned -/
theorem Inv.call {g' : Array GenState} {t' : Nat} {d' : Drawn} {ch : List Addr} (I : Inv X pins σ H s) (u : Un (frs X.stack) ch H H' s.heap h') (hok : HOk X.prog X.w H' h') (hg : AllBare g')
    (hch : ∀ b ∈ ch, (b ∈ X.ex ∨ X.s₀.heap.objs.size ≤ b) ∧ b ≠ X.env.locals ∧ (∀ x c, X.env.cells.lookup x = some c → c ≠ b) ∧ ∀ p ∈ X.pn ++ pins, p.1 ≠ b) :
    Inv X pins σ H' { s with heap := h', gens := g', drawn := d', toks := t' } := by
  obtain ⟨m, ⟨o, es, ep, ho, r⟩, _⟩ := id I.loc
  obtain ⟨sl, hL⟩ := u.any ho I.free fun z => (hch _ z).2.1 rfl
  exact I.step (ch := ch) hch (fun b o hL hb hc e n => u.keep b o e n (fun z => (List.mem_cons.mp (I.stkSub b z)).elim hL hb) hc) (fun b o _ _ hc e n => u.any e n hc) (fun b o hc e n => u.free b o e n hc) (fun b o hc e => u.there b o e hc) u.tups u.frzs u.tbls (fun m' hm => by
    obtain ⟨o', es', ep', ho', r'⟩ := hm
    rw [ho] at ho'; cases ho'
    exact ⟨_, es', ep', hL, r'⟩) hok hg
/-- an untracked record of ours (an iterator) has turned -/
theorem Inv.turned {t' : Nat} {it : Addr} (I : Inv X pins σ H s) (k : ∀ b o, b ≠ it → s.heap.get? b = some o → h'.get? b = some o) (hn : H it = none) (hL : it ≠ X.env.locals)
    (h1 : it ∈ X.ex ∨ X.s₀.heap.objs.size ≤ it) (h2 : ∀ x c, X.env.cells.lookup x = some c → c ≠ it) (h3 : ∀ p ∈ X.pn ++ pins, p.1 ≠ it) : Inv X pins σ H { s with heap := h', toks := t' } := by
  have nit : ∀ b u, H b = some u → b ≠ it := fun b u e z => by rw [z, hn] at e; cases e
  refine I.step (g' := s.gens) (d' := s.drawn) (ch := [it]) (fun b hb => ?_) (fun b o _ _ hc e _ => k b o (fun z => hc (by simp [z])) e) (fun b o _ _ hc e _ => ⟨o.slots, k b o (fun z => hc (by simp [z])) e⟩) (fun _ _ _ _ n => n)
    (fun b o hc e => ⟨o, k b o (fun z => hc (by simp [z])) e⟩) (fun _ _ e => e) (fun _ _ _ e => e) (fun b ps e => ⟨#[], by rw [e]; simp⟩) (fun m hm => ?_) (fun b u e => ?_) I.bare
  · have e : b = it := by simpa using hb
    subst e
    exact ⟨h1, hL, h2, h3⟩
  · obtain ⟨o, es, ep, ho, r⟩ := hm
    exact ⟨o, es, ep, k _ o (Ne.symm hL) ho, r⟩
  · refine (I.hok b u e).stay (fun c v hc q => k c v ?_ q) (fun _ q => q) fun _ _ q => q
    rcases hc with z | z
    · rw [z]; exact nit b u e
    · exact nit c _ z
theorem Inv.tok (I : Inv X pins σ H s) (t : Nat) : Inv X pins σ H { s with toks := t } := I.un (h' := s.heap) (t' := t) Un.refl I.hok
/-- all objects kept -/
theorem Inv.kept {t' : Nat} (I : Inv X pins σ H s) (k : ∀ b u, s.heap.get? b = some u → h'.get? b = some u) : Inv X pins σ H { s with heap := h', toks := t' } := I.un (Un.kept k) (I.hok.kept k)
/-- a new object laid and tracked -/
theorem Inv.laid {a : Addr} {o : HO} {t' : Nat} (I : Inv X pins σ H s) (k : ∀ b u, s.heap.get? b = some u → h'.get? b = some u) (hp : s.heap.objs.size ≤ a) (new : ObjOk X.prog X.w (upd H a o) h' a o) :
    Inv X pins σ (upd H a o) { s with heap := h', toks := t' } := I.un (Un.laid k hp (I.hok.fresh hp)) (I.hok.laid k hp new)
/-- an object written -/
theorem Inv.write {x e : Addr} {o : HO} {t' : Nat} (I : Inv X pins σ H s) (mu : Mut (H x)) (he : e = x ∨ H e = some (.own x)) (k : ∀ b u, b ≠ e → s.heap.get? b = some u → h'.get? b = some u) (heo : ∃ u, h'.get? e = some u)
    (new : ObjOk X.prog X.w (upd H x o) h' x o) : Inv X pins σ (upd H x o) { s with heap := h', toks := t' } := I.un (Un.write mu he k heo) (I.hok.write mu he k heo new)
/-- forgetting slots, pins -/
theorem Inv.weak {σ' : List (Option V)} (I : Inv X pins σ H s) (hl : σ'.length = σ.length) (w : ∀ (i : Nat) v, σ'[i]? = some (some v) → σ[i]? = some (some v)) : Inv X pins σ' H s :=
  ⟨I.ok, I.os, I.bare, I.base, let ⟨m, hn, hl'⟩ := I.loc; ⟨m, hn, fun i x v e1 e2 e3 => hl' i x v e1 (w i v e2) e3⟩, I.cell, I.free, I.freeC, I.pin, I.hok, hl.trans I.len⟩
theorem Inv.pins_of {pins' : List (Addr × Obj)} (I : Inv X pins σ H s) (h : ∀ p ∈ pins', s.heap.get? p.1 = some p.2 ∧ H p.1 = none ∧ p.1 ≠ X.env.locals ∧ p.1 ∉ X.fs ∧ ∀ v, p.2.data ≠ .cell v) : Inv X pins' σ H s :=
  ⟨I.ok, I.os, I.bare, I.base, I.loc, I.cell, I.free, I.freeC, fun p hp => (List.mem_append.mp hp).elim (fun z => I.pin p (List.mem_append_left _ z)) (h p), I.hok, I.len⟩

theorem nodup_ix {N : List Str} (hN : N.Nodup) {i j : Nat} {x : Str} (a : N[i]? = some x) (b : N[j]? = some x) : i = j := by
  obtain ⟨h1, e1⟩ := List.getElem?_eq_some_iff.mp a
  obtain ⟨h2, e2⟩ := List.getElem?_eq_some_iff.mp b
  exact (List.getElem_inj hN).mp (e1.trans e2.symm)

/-- a name is stored; what changed -/
theorem store_ok2 {M : Model} {A : Around} {E : Value → Shared → Prop} {i : Nat} {x : Str} {v : V} {u : Value} {Q : Unit → Shared → Prop} (I : Inv X pins σ H s) (hN : X.N.Nodup) (hi : X.N[i]? = some x) (hx : Loc X.env.scope x) (r : RelV v u)
    (h : ∀ s', Inv X pins (σ.set i (some v)) H s' → (∃ a, Heap.SameBut a s.heap s'.heap ∧ (a = X.env.locals ∨ X.env.cells.lookup x = some a)) → Q () s') (hf : X.fn x = true ∨ X.env.scope.names.lookup x = some .local := by first | exact .inl rfl | exact .inr rfl | assumption) : wpAny M A (storeName X.env x u) Q E s := by
  obtain ⟨m, hn, hl⟩ := id I.loc
  have hcls : (X.env.scope.kind == .class || (X.env.scope.kind == .module && X.env.locals != X.env.globals)) = false := by rw [I.ok.kind]; rfl
  have hiσ : i < σ.length := by rw [I.len]; exact (List.getElem?_eq_some_iff.mp hi).1
  have cne := I.cne
  have tracked : ∀ {a : Addr} {h' : Heap}, (∃ o, s.heap.get? a = some o ∧ H a = none) → Heap.SameBut a s.heap h' → HOk X.prog X.w H h' := fun {a h'} ha hs b ob e => by
    obtain ⟨_, _, hfree⟩ := ha
    refine (I.hok b ob e).stay (fun c w' hc q => (hs.2 c ?_).trans q) (fun _ q => q) fun _ _ q => q
    rintro rfl
    rcases hc with rfl | hc
    · rw [hfree] at e; cases e
    · rw [hfree] at hc; cases hc
  rcases hx with hk | hk
  · refine wpAny_storeName_local hk hn (fun h' hn' hs => ?_) hcls
    obtain ⟨oL, _, _, hoL, _⟩ := id hn
    refine h _ ⟨I.ok, I.os, I.bare, ⟨fun b o e n hb hx => ?_, fun b o e n hb hx => ?_, I.base.free, fun b o e hx => ?_, I.base.tups, I.base.frzs, I.base.tbls⟩, ⟨_, hn', fun j y v' e1 e2 e3 => ?_⟩, fun y c e => ?_, I.free, I.freeC, fun p hp => ?_, tracked ⟨oL, hoL, I.free⟩ hs, by simpa using I.len⟩ ⟨_, hs, .inl rfl⟩
    · exact (hs.2 b (Nat.ne_of_lt (Nat.lt_of_lt_of_le (Heap.lt_size e) I.ok.above))).trans (I.base.keep b o e n hb hx)
    · obtain ⟨sl, e1⟩ := I.base.slot b o e n hb hx
      exact ⟨sl, (hs.2 b (Nat.ne_of_lt (Nat.lt_of_lt_of_le (Heap.lt_size e) I.ok.above))).trans e1⟩
    · obtain ⟨o', e1⟩ := I.base.there b o e hx
      exact ⟨o', (hs.2 b (Nat.ne_of_lt (Nat.lt_of_lt_of_le (Heap.lt_size e) I.ok.above))).trans e1⟩
    · by_cases hj : j = i
      · subst hj
        rw [hi] at e1; cases e1
        rw [List.getElem?_set_self hiσ] at e2
        cases e2
        exact ⟨u, r, .inl ⟨hk, by simp⟩⟩
      · rw [List.getElem?_set_ne (Ne.symm hj)] at e2
        obtain ⟨u', r', q⟩ := hl j y v' e1 e2 e3
        refine ⟨u', r', ?_⟩
        rcases q with ⟨k, e⟩ | ⟨k, c, e, z⟩
        · refine .inl ⟨k, ?_⟩
          have : y ≠ x := fun e => hj (nodup_ix hN e1 (e ▸ hi))
          simp [this, e]
        · exact .inr ⟨k, c, e, z.sameBut hs (cne y c e)⟩
    · obtain ⟨w', z⟩ := I.cell y c e
      exact ⟨w', z.sameBut hs (cne y c e)⟩
    · obtain ⟨e, n, ne, nf, d⟩ := I.pin p hp
      exact ⟨(hs.2 p.1 ne).trans e, n, ne, nf, d⟩
  · have hfn : X.fn x = true := by
      rcases hf with z | z
      · exact z
      · rw [z] at hk; cases hk
    obtain ⟨c, hc⟩ := I.ok.has x (.inl hk)
    obtain ⟨w', z⟩ := I.cell x c hc
    refine wpAny_storeName_cell I.ok.kind hk hc z (fun h' hc' hs => ?_)
    obtain ⟨oc, hoc, hocd⟩ := id z
    refine h { s with heap := h' } ⟨I.ok, I.os, I.bare, ⟨fun b o e n hb hx => ?_, fun b o e n hb hx => ?_, I.base.free, fun b o e hx => ?_, I.base.tups, I.base.frzs, I.base.tbls⟩, ⟨m, hn.sameBut hs (Ne.symm (cne x c hc)), fun j y v' e1 e2 e3 => ?_⟩, fun y c' e => ?_, I.free, I.freeC, fun p hp => ?_, tracked ⟨oc, hoc, I.freeC x c hc⟩ hs, by simpa using I.len⟩ ⟨c, hs, .inr hc⟩
    · exact (hs.2 b (Nat.ne_of_lt (Nat.lt_of_lt_of_le (Heap.lt_size e) (I.ok.cab x c hfn hc)))).trans (I.base.keep b o e n hb hx)
    · obtain ⟨sl, e1⟩ := I.base.slot b o e n hb hx
      exact ⟨sl, (hs.2 b (Nat.ne_of_lt (Nat.lt_of_lt_of_le (Heap.lt_size e) (I.ok.cab x c hfn hc)))).trans e1⟩
    · obtain ⟨o', e1⟩ := I.base.there b o e hx
      exact ⟨o', (hs.2 b (Nat.ne_of_lt (Nat.lt_of_lt_of_le (Heap.lt_size e) (I.ok.cab x c hfn hc)))).trans e1⟩
    · by_cases hj : j = i
      · subst hj
        rw [hi] at e1; cases e1
        rw [List.getElem?_set_self hiσ] at e2
        cases e2
        exact ⟨u, r, .inr ⟨.inl hk, c, hc, hc'⟩⟩
      · rw [List.getElem?_set_ne (Ne.symm hj)] at e2
        obtain ⟨u', r', q⟩ := hl j y v' e1 e2 e3
        refine ⟨u', r', ?_⟩
        rcases q with q | ⟨k, c', e, z'⟩
        · exact .inl q
        · refine .inr ⟨k, c', e, z'.sameBut hs ?_⟩
          rintro rfl
          exact hj (nodup_ix hN e1 (I.ok.inj _ _ _ e hc ▸ hi))
    · by_cases hcc : c' = c
      · subst hcc; exact ⟨_, hc'⟩
      · obtain ⟨w2, z2⟩ := I.cell y c' e
        exact ⟨w2, z2.sameBut hs hcc⟩
    · obtain ⟨e, n, ne, nf, d⟩ := I.pin p hp
      refine ⟨(hs.2 p.1 ?_).trans e, n, ne, nf, d⟩
      intro q
      rw [q, hoc] at e
      have q' : oc = p.2 := Option.some.inj e
      exact d w' (by rw [← q']; exact hocd)
theorem store_ok {M : Model} {A : Around} {E : Value → Shared → Prop} {i : Nat} {x : Str} {v : V} {u : Value} {Q : Unit → Shared → Prop} (I : Inv X pins σ H s) (hN : X.N.Nodup) (hi : X.N[i]? = some x) (hx : Loc X.env.scope x) (r : RelV v u)
    (h : ∀ s', Inv X pins (σ.set i (some v)) H s' → Q () s') (hf : X.fn x = true ∨ X.env.scope.names.lookup x = some .local := by first | exact .inl rfl | exact .inr rfl | assumption) : wpAny M A (storeName X.env x u) Q E s :=
  store_ok2 I hN hi hx r (fun s' I' _ => h s' I') hf
/-- behind a call or a block, the state as it is -/
theorem Inv.call' {s' : Shared} {ch : List Addr} (I : Inv X pins σ H s) (ho : s'.os = s.os) (u : Un (frs X.stack) ch H H' s.heap s'.heap) (hok : HOk X.prog X.w H' s'.heap) (hg : AllBare s'.gens)
    (hch : ∀ b ∈ ch, (b ∈ X.ex ∨ X.s₀.heap.objs.size ≤ b) ∧ b ≠ X.env.locals ∧ (∀ x c, X.env.cells.lookup x = some c → c ≠ b) ∧ ∀ p ∈ X.pn ++ pins, p.1 ≠ b) : Inv X pins σ H' s' := by
  obtain ⟨h', g', d', t', o'⟩ := s'
  have e : o' = s.os := ho
  subst e
  exact I.call (g' := g') (t' := t') (d' := d') u hok hg hch
end

/-! ### the judgements -/
/-- an exception: its class, its own dict's address (where it has one), the abstract heap behind it -/
noncomputable abbrev XK := Value → Option Addr → Hp → Prop
noncomputable abbrev St := List (Option V)
noncomputable abbrev VK := V → Hp → Prop
/-- an expression's reading; a test's; an argument list's -/
noncomputable abbrev TE := St → Hp → VK → Prop
noncomputable abbrev TT := St → Hp → (Bool → Hp → Prop) → Prop
noncomputable abbrev TA := St → Hp → (List V → Hp → Prop) → Prop
/-- what is wanted behind a statement -/
structure Ends where
  nx : St → Hp → Prop
  rt : VK
  bk : St → Hp → Prop := fun _ _ => False
  ct : St → Hp → Prop := fun _ _ => False
noncomputable abbrev TS := Ends → St → Hp → Prop

noncomputable def EP (X : Cx) (pins : List (Addr × Obj)) (σ : St) (Q : VK) (u : Value) (s' : Shared) : Prop := ∃ v H', Inv X pins σ H' s' ∧ RelV v u ∧ Q v H'
noncomputable def TP (X : Cx) (pins : List (Addr × Obj)) (σ : St) (Q : Bool → Hp → Prop) (b : Bool) (s' : Shared) : Prop := ∃ H', Inv X pins σ H' s' ∧ Q b H'
noncomputable def AP (X : Cx) (pins : List (Addr × Obj)) (σ : St) (Q : List V → Hp → Prop) (us : List Value) (s' : Shared) : Prop := ∃ vs H', Inv X pins σ H' s' ∧ Vals vs us ∧ Q vs H'
noncomputable def SP (X : Cx) (pins : List (Addr × Obj)) (D : Ends) (f : Flow) (s' : Shared) : Prop :=
  match f with
  | .next => ∃ σ' H', Inv X pins σ' H' s' ∧ D.nx σ' H'
  | .brk => ∃ σ' H', Inv X pins σ' H' s' ∧ D.bk σ' H'
  | .cont => ∃ σ' H', Inv X pins σ' H' s' ∧ D.ct σ' H'
  | .ret u => ∃ v σ' H', Inv X pins σ' H' s' ∧ RelV v u ∧ D.rt v H'

noncomputable def PE (X : Cx) (e : Expr) (t : TE) : Prop :=
  ∀ (pins : List (Addr × Obj)) (s : Shared) (σ : St) (H : Hp) (Q : VK), Inv X pins σ H s → t σ H Q → wpAny (model X.prog X.w) X.A (eval e X.env) (EP X pins σ Q) X.xe s
noncomputable def PT (X : Cx) (e : Expr) (t : TT) : Prop :=
  ∀ (pins : List (Addr × Obj)) (s : Shared) (σ : St) (H : Hp) (Q : Bool → Hp → Prop), Inv X pins σ H s → t σ H Q → wpAny (model X.prog X.w) X.A (isTrue e X.env (eval e X.env)) (TP X pins σ Q) X.xe s
/-- a test whatever its 'whole' is (and, or) -/
noncomputable def PW (X : Cx) (e : Expr) (t : TT) : Prop :=
  ∀ (whole : Sem Value) (pins : List (Addr × Obj)) (s : Shared) (σ : St) (H : Hp) (Q : Bool → Hp → Prop), Inv X pins σ H s → t σ H Q → wpAny (model X.prog X.w) X.A (isTrue e X.env whole) (TP X pins σ Q) X.xe s
theorem PW.pt {X : Cx} {e : Expr} {t : TT} (h : PW X e t) : PT X e t := h _
/-- an argument list (no star), from the left -/
noncomputable def PA (X : Cx) (es : List Expr) (t : TA) : Prop :=
  ∀ (pos : Pos) (pins : List (Addr × Obj)) (s : Shared) (σ : St) (H : Hp) (Q : List V → Hp → Prop), Inv X pins σ H s → t σ H Q → wpAny (model X.prog X.w) X.A (spliced (backTo pos (starEach es X.env))) (AP X pins σ Q) X.xe s
noncomputable def PS (X : Cx) (st : Stmt) (t : TS) : Prop :=
  ∀ (pins : List (Addr × Obj)) (s : Shared) (σ : St) (H : Hp) (D : Ends), Inv X pins σ H s → t D σ H → wpAny (model X.prog X.w) X.A (exec st X.env) (SP X pins D) X.xe s
noncomputable def PSs (X : Cx) (st : List Stmt) (t : TS) : Prop :=
  ∀ (pins : List (Addr × Obj)) (s : Shared) (σ : St) (H : Hp) (D : Ends), Inv X pins σ H s → t D σ H → wpAny (model X.prog X.w) X.A (execs st X.env) (SP X pins D) X.xe s
/-- weaken the end -/
theorem thn {α : Type} {t : Sem α} {Q Q' : α → Shared → Prop} {M : Model} {A : Around} {E : Value → Shared → Prop} {s : Shared} (h : wpAny M A t Q E s) (hQ : ∀ a s, Q a s → Q' a s) : wpAny M A t Q' E s := wpAny_mono h hQ fun _ _ x => x
end L2

namespace L2
open PySem PySem.Spec PyProof.Rows
section
variable {X : Cx}

/-! ### names and constants -/
noncomputable def tVar (i : Nat) : TE := fun σ H Q => ∃ v, σ[i]? = some (some v) ∧ Q v H
noncomputable def tC (v : V) : TE := fun _ H Q => Q v H
theorem pe_var {i : Nat} {x : Str} {pos : Pos} (hN : X.N[i]? = some x) (hv : Vis X.env.scope x) (hd : (x == ("__debug__" : Str)) = false := by decide) (hcd : (x == ("__classdict__" : Str)) = false := by decide) : PE X (.Name x pos) (tVar i) := by
  intro pins s σ H Q I h
  obtain ⟨v, e, h⟩ := h
  obtain ⟨m, hn, hl⟩ := I.loc
  obtain ⟨u, r, l⟩ := hl i x v hN e hv
  have fin : EP X pins σ Q u s := ⟨v, H, I, r, h⟩
  rcases l with ⟨hk, hm⟩ | ⟨hk, c, hc, hcell⟩
  · exact wpAny_Name (wpAny_loadName_local I.ok.kind hk hn hm fin) hd
  · rcases hk with hk | hk
    · exact wpAny_Name (wpAny_loadName_cell I.ok.kind hk hc hcell fin) hd
    · exact wpAny_Name (wpAny_loadName_free I.ok.kind hk hc hcell fin hcd) hd
theorem pe_int {i j pos} : PE X (.Constant (.int i) j pos) (tC (.int i)) := fun _ _ _ H _ I h => wpAny_Constant_int ⟨.int i, H, I.tok _, ⟨_, rfl⟩, h⟩
theorem pe_bl {b j pos} : PE X (.Constant (.bool b) j pos) (tC (.bl b)) := fun _ _ _ H _ I h => Constant_bool ⟨.bl b, H, I, rfl, h⟩
theorem pe_non {j pos} : PE X (.Constant .none j pos) (tC .non) := fun _ _ _ H _ I h => Constant_none ⟨.non, H, I, rfl, h⟩
theorem pe_str {x j pos} : PE X (.Constant (.str x) j pos) (tC (.str x)) := fun _ _ _ H _ I h => Calls.Constant_str ⟨.str x, H, I.tok _, ⟨_, rfl⟩, h⟩

/-- a global name of the def -/
noncomputable def Gl (X : Cx) (x : Str) : Prop := X.env.kindOf x = some .globalImplicit
theorem ld_glob {E : Value → Shared → Prop} {pins : List (Addr × Obj)} {s : Shared} {σ : St} {H : Hp} {x : Str} {u : Value} {pos : Pos} {Q : Value → Shared → Prop} (I : Inv X pins σ H s) (hg : Gl X x) (hm : X.mg x = some u) (h : Q u s)
    (hd : (x == ("__debug__" : Str)) = false := by decide) : wpAny (model X.prog X.w) X.A (eval (.Name x pos) X.env) Q E s :=
  Calls.Name_function_global I.ok.kind hg (Calls.loadGlobal_global (by rw [I.ok.glob]; exact I.mod.glob.keeps I.bk) hm h) hd
theorem ld_blt {E : Value → Shared → Prop} {pins : List (Addr × Obj)} {s : Shared} {σ : St} {H : Hp} {x : Str} {u : Value} {pos : Pos} {Q : Value → Shared → Prop} (I : Inv X pins σ H s) (hg : Gl X x) (hm : X.mg x = none) (hv : bootBuiltins x = some u) (h : Q u s)
    (hn : x ≠ "__name__" := by decide) (hd : (x == ("__debug__" : Str)) = false := by decide) : wpAny (model X.prog X.w) X.A (eval (.Name x pos) X.env) Q E s := by
  obtain ⟨mb, h1, h2⟩ := I.mod.blt
  exact Calls.Name_function_global I.ok.kind hg (Calls.loadGlobal_builtin (by rw [I.ok.glob]; exact I.mod.glob.keeps I.bk) hm (by rw [I.ok.blt]; exact h1.keeps I.bk) ((h2 x hn).trans hv) h) hd
/-- a module's constant, a class, a function, as a value -/
theorem pe_glob {x : Str} {v : V} {u : Value} {pos : Pos} (hg : Gl X x) (hm : X.mg x = some u) (r : RelV v u) (hd : (x == ("__debug__" : Str)) = false := by decide) : PE X (.Name x pos) (tC v) :=
  fun _ _ _ H _ I h => ld_glob I hg hm ⟨v, H, I, r, h⟩ hd
theorem pe_bltn {x : Str} {v : V} {u : Value} {pos : Pos} (hg : Gl X x) (hm : X.mg x = none) (hv : bootBuiltins x = some u) (r : RelV v u) (hn : x ≠ "__name__" := by decide) (hd : (x == ("__debug__" : Str)) = false := by decide) : PE X (.Name x pos) (tC v) :=
  fun _ _ _ H _ I h => ld_blt I hg hm hv ⟨v, H, I, r, h⟩ hn hd

/-! ### arithmetic -/
variable {a b : Expr} {ta tb : TE} {pos : Pos}
/-! ### comparisons -/
/-- a comparison as a value, as a test -/
noncomputable def tB (t : TE) : TT := fun σ H Q => t σ H fun x H1 => ∃ c, x = .bl c ∧ Q c H1
/-- an expression whose value is a bool, as a test -/
theorem pt_val {e : Expr} {t : TE} (h : PE X e t) (he : ∀ whole, isTrue e X.env whole = (do let v ← whole; standAt e.pos; holding [v] (truthy v)) := by intro _; rfl) : PT X e (tB t) := by
  intro pins s σ H Q I hw
  refine isTrue_plain (thn (h pins s σ H _ I hw) fun v s1 ⟨x, H1, I1, r1, q1⟩ => ?_) (he _)
  obtain ⟨d, rfl, q⟩ := q1
  cases r1
  exact wpAny_truthy_bool ⟨H1, I1, q⟩

/-! ### and, or, not -/
variable {tA tB' : TT} {rest : List Expr}
noncomputable def tAnd (t u : TT) : TT := fun σ H Q => t σ H fun c H1 => if c = true then u σ H1 Q else Q false H1
noncomputable def tOr (t u : TT) : TT := fun σ H Q => t σ H fun c H1 => if c = true then Q true H1 else u σ H1 Q
noncomputable def tNot (t : TT) : TT := fun σ H Q => t σ H fun c H1 => Q (!c) H1
theorem pw_and1 (ha : PT X a tA) : PW X (.BoolOp .And [a] pos) tA := by
  intro wh pins s σ H Q I h
  refine isTrue_and (thn (ha pins s σ H Q I h) fun c s1 e => ?_)
  cases c with
  | true => exact isTrue_and_nil e
  | false => exact e
theorem pw_or1 (ha : PT X a tA) : PW X (.BoolOp .Or [a] pos) tA := by
  intro wh pins s σ H Q I h
  refine isTrue_or (thn (ha pins s σ H Q I h) fun c s1 e => ?_)
  cases c with
  | false => exact isTrue_or_nil e
  | true => exact e
theorem pw_and (ha : PT X a tA) (hb : PW X (.BoolOp .And (b :: rest) pos) tB') : PW X (.BoolOp .And (a :: b :: rest) pos) (tAnd tA tB') := by
  intro wh pins s σ H Q I h
  refine isTrue_and (thn (ha pins s σ H _ I h) fun c s1 ⟨H1, I1, q1⟩ => ?_)
  cases c with
  | true => exact hb wh pins s1 σ H1 Q I1 q1
  | false => exact ⟨H1, I1, q1⟩
theorem pw_or (ha : PT X a tA) (hb : PW X (.BoolOp .Or (b :: rest) pos) tB') : PW X (.BoolOp .Or (a :: b :: rest) pos) (tOr tA tB') := by
  intro wh pins s σ H Q I h
  refine isTrue_or (thn (ha pins s σ H _ I h) fun c s1 ⟨H1, I1, q1⟩ => ?_)
  cases c with
  | true => exact ⟨H1, I1, q1⟩
  | false => exact hb wh pins s1 σ H1 Q I1 q1
theorem pt_not (ha : PT X a tA) : PT X (.UnaryOp .Not a pos) (tNot tA) := by
  intro pins s σ H Q I h
  exact isTrue_not (ha pins s σ H (fun c H1 => Q (!c) H1) I h)
/-- .. as values (bools) -/
noncomputable def tAndV (ta tb : TE) : TE := fun σ H Q => ta σ H fun x H1 => ∃ c, x = .bl c ∧ if c = true then tb σ H1 Q else Q (.bl false) H1
noncomputable def tNotV (ta : TE) : TE := fun σ H Q => ta σ H fun x H1 => ∃ c, x = .bl c ∧ Q (.bl (!c)) H1
theorem pe_one {op} {t : TE} (h : PE X a t) : PE X (.BoolOp op [a] pos) t := fun pins s σ H Q I hw => BoolOp_one (h pins s σ H Q I hw)
theorem pe_and (ha : PE X a ta) (hb : PE X (.BoolOp .And (b :: rest) pos) tb) : PE X (.BoolOp .And (a :: b :: rest) pos) (tAndV ta tb) := by
  intro pins s σ H Q I h
  refine BoolOp_and (thn (ha pins s σ H _ I h) fun v s1 ⟨x, H1, I1, r1, q1⟩ => ?_)
  obtain ⟨c, rfl, q1⟩ := q1
  cases r1
  refine wpAny_truthy_bool ?_
  cases c with
  | true => exact hb pins s1 σ H1 Q I1 q1
  | false => exact ⟨.bl false, H1, I1, rfl, q1⟩
theorem pe_not (ha : PE X a ta) : PE X (.UnaryOp .Not a pos) (tNotV ta) := by
  intro pins s σ H Q I h
  refine UnaryOp_ (thn (ha pins s σ H _ I h) fun v s1 ⟨x, H1, I1, r1, q1⟩ => ?_)
  obtain ⟨c, rfl, q1⟩ := q1
  cases r1
  exact not_of (wpAny_truthy_bool ⟨.bl (!c), H1, I1, rfl, q1⟩)
end
end L2

namespace L2
open PySem PySem.Spec PyProof.Rows

/-! ### a list, a tuple that is read: tracked, frozen, or an object of the module -/
noncomputable def SqL (K : PySem.W.Frag) (H : Hp) (a : Addr) (xs : List V) : Prop :=
  Rd H a (.lst xs) ∨
    ∃ (o : Obj) (its : Array Value) (n : Nat), K.lookup a = some o ∧ o.cls = .type "list" ∧ o.dict = none ∧ o.data = .seq its n ∧ its.size ≤ sizeLine ∧ Vals xs its.toList
noncomputable def SqT (K : PySem.W.Frag) (H : Hp) (a : Addr) (xs : List V) : Prop :=
  Rd H a (.tup xs) ∨
    ∃ (o : Obj) (its : Array Value) (n : Nat), K.lookup a = some o ∧ o.cls = .type "tuple" ∧ o.data = .seq its n ∧ its.size ≤ sizeLine ∧ Vals xs its.toList
noncomputable def absV : Value → Option V
  | .none => some .non
  | .bool b => some (.bl b)
  | .int i _ => some (.int i)
  | .str x _ => some (.str x)
  | .bytes b _ => some (.byt b)
  | .float b _ => some (.flt b)
  | .ref a => some (.ref a)
  | .type n => some (.ty n)
  | _ => none
theorem RelV.abs {x : V} {u : Value} (r : RelV x u) : absV u = some x := by
  cases x with
  | non => cases r; rfl
  | bl _ => cases r; rfl
  | int _ => obtain ⟨t, rfl⟩ := r; rfl
  | str _ => obtain ⟨t, rfl⟩ := r; rfl
  | byt _ => obtain ⟨t, rfl⟩ := r; rfl
  | flt _ => obtain ⟨t, rfl⟩ := r; rfl
  | ref _ => cases r; rfl
  | ty _ => cases r; rfl
theorem RelV.inj {x y : V} {u : Value} (r : RelV x u) (q : RelV y u) : x = y := Option.some.inj (r.abs.symm.trans q.abs)
theorem Vals.inj : ∀ {xs ys : List V} {us : List Value}, Vals xs us → Vals ys us → xs = ys
  | _, _, _, .nil, .nil => rfl
  | _, _, _, .cons r t, .cons r' t' => by rw [r.inj r', Vals.inj t t']
section
variable {X : Cx} {pins : List (Addr × Obj)} {σ : St} {H : Hp} {s : Shared} {a : Addr} {xs ys : List V}
theorem SqL.of {K : PySem.W.Frag} (h : H a = some (.lst xs)) : SqL K H a xs := .inl (.inl h)
theorem SqT.of {K : PySem.W.Frag} (h : H a = some (.tup xs)) : SqT K H a xs := .inl (.inl h)
theorem Inv.list (I : Inv X pins σ H s) (h : SqL X.K H a xs) : ∃ its : List Value, Vals xs its ∧ PlainL s.heap a its.toArray ∧ xs.length ≤ sizeLine := by
  rcases h with h | ⟨o, its, n, hk, hc, hd, hs, hz, r⟩
  · obtain ⟨z, its, n, r, e⟩ := h.ok I.hok
    exact ⟨its, r, ⟨_, n, e, rfl, rfl, rfl⟩, z⟩
  · refine ⟨its.toList, r, ⟨o, n, I.kIn a o hk, hc, hd, by simpa using hs⟩, ?_⟩
    have e := r.length
    simp only [Array.length_toList] at e
    omega
theorem Inv.tuple (I : Inv X pins σ H s) (h : SqT X.K H a xs) : ∃ its : List Value, Vals xs its ∧ IsTup s.heap a its.toArray ∧ xs.length ≤ sizeLine := by
  rcases h with h | ⟨o, its, n, hk, hc, hs, hz, r⟩
  · obtain ⟨z, its, r, p⟩ := h.ok I.hok
    exact ⟨its, r, p, z⟩
  · refine ⟨its.toList, r, ⟨o, I.kIn a o hk, hc, n, by simpa using hs⟩, ?_⟩
    have e := r.length
    simp only [Array.length_toList] at e
    omega
theorem Inv.list_inj (I : Inv X pins σ H s) (h : SqL X.K H a xs) (h' : SqL X.K H a ys) : xs = ys := by
  obtain ⟨its, r, ⟨o, n, e, _, _, d⟩, _⟩ := I.list h
  obtain ⟨its', r', ⟨o', n', e', _, _, d'⟩, _⟩ := I.list h'
  rw [e] at e'; cases e'
  rw [d] at d'
  injection d' with d1 _
  have : its = its' := by simpa using congrArg Array.toList d1
  subst this
  exact r.inj r'
end

/-! ### another wish about exceptions -/
noncomputable abbrev Cx.wish (X : Cx) (E : Value → Shared → Prop) : Cx := { X with xe := E }
/-- no exception leaves -/
noncomputable abbrev Cx.nox (X : Cx) : Cx := X.wish fun _ _ => False
theorem Cx.Ok.wish {X : Cx} (ok : X.Ok) (E : Value → Shared → Prop) : (X.wish E).Ok :=
  ⟨ok.mod, ok.kind, ok.glob, ok.blt, ok.above, ok.inj, ok.has, ok.cab, ok.hd, ok.frames, ok.stk, ok.exf, ok.bs, ok.bsz, ok.noex, ok.exfs, ok.funs, ok.frf⟩
theorem Cx.Ok.unwish {X : Cx} {E : Value → Shared → Prop} (ok : (X.wish E).Ok) : X.Ok :=
  ⟨ok.mod, ok.kind, ok.glob, ok.blt, ok.above, ok.inj, ok.has, ok.cab, ok.hd, ok.frames, ok.stk, ok.exf, ok.bs, ok.bsz, ok.noex, ok.exfs, ok.funs, ok.frf⟩
section
variable {X : Cx} {pins : List (Addr × Obj)} {σ : St} {H : Hp} {s : Shared} {E : Value → Shared → Prop}
theorem Inv.wish (I : Inv X pins σ H s) (E : Value → Shared → Prop) : Inv (X.wish E) pins σ H s := ⟨I.ok.wish E, I.os, I.bare, I.base, I.loc, I.cell, I.free, I.freeC, I.pin, I.hok, I.len⟩
theorem Inv.unwish (I : Inv (X.wish E) pins σ H s) : Inv X pins σ H s := ⟨I.ok.unwish, I.os, I.bare, I.base, I.loc, I.cell, I.free, I.freeC, I.pin, I.hok, I.len⟩
theorem SP.unwish {D : Ends} {f : Flow} {s' : Shared} (h : SP (X.wish E) pins D f s') : SP X pins D f s' := by
  cases f with
  | next => obtain ⟨σ', H', I, q⟩ := h; exact ⟨σ', H', I.unwish, q⟩
  | brk => obtain ⟨σ', H', I, q⟩ := h; exact ⟨σ', H', I.unwish, q⟩
  | cont => obtain ⟨σ', H', I, q⟩ := h; exact ⟨σ', H', I.unwish, q⟩
  | ret u => obtain ⟨v, σ', H', I, r, q⟩ := h; exact ⟨v, σ', H', I.unwish, r, q⟩
theorem PE.nox {e : Expr} {t : TE} (h : PE X.nox e t) : PE X e t := fun pins s σ H Q I hw =>
  wpAny_mono (h pins s σ H Q (I.wish _) hw) (fun _ _ ⟨v, H', I', r, q⟩ => ⟨v, H', I'.unwish, r, q⟩) fun _ _ z => False.elim z
theorem PT.nox {e : Expr} {t : TT} (h : PT X.nox e t) : PT X e t := fun pins s σ H Q I hw =>
  wpAny_mono (h pins s σ H Q (I.wish _) hw) (fun _ _ ⟨H', I', q⟩ => ⟨H', I'.unwish, q⟩) fun _ _ z => False.elim z
theorem PSs.nox {st : List Stmt} {t : TS} (h : PSs X.nox st t) : PSs X st t := fun pins s σ H D I hw =>
  wpAny_mono (h pins s σ H D (I.wish _) hw) (fun _ _ q => q.unwish) fun _ _ z => False.elim z
end

/-! ### blocks and small statements -/
section
variable {X : Cx} {st : Stmt} {rest : List Stmt} {t u : TS} {e : Expr} {te : TE} {pos : Pos}
noncomputable def tNext : TS := fun D σ H => D.nx σ H
noncomputable def tSeq (t u : TS) : TS := fun D σ H => t { D with nx := u D } σ H
theorem pss_nil : PSs X [] tNext := fun _ _ σ H _ I h => wpAny_execs_nil ⟨σ, H, I, h⟩
theorem pss_cons (h1 : PS X st t) (h2 : PSs X rest u) : PSs X (st :: rest) (tSeq t u) := by
  intro pins s σ H D I h
  refine wpAny_execs_cons (thn (h1 pins s σ H { D with nx := u D } I h) fun f s1 q => ?_)
  cases f with
  | next =>
    obtain ⟨σ', H', I', q⟩ := q
    exact h2 pins s1 σ' H' D I' q
  | ret v => exact q
  | brk => exact q
  | cont => exact q
theorem pss_one (h1 : PS X st t) : PSs X [st] t := by
  intro pins s σ H D I h
  refine wpAny_execs_cons (thn (h1 pins s σ H D I h) fun f s1 q => ?_)
  cases f with
  | next => exact wpAny_execs_nil q
  | ret v => exact q
  | brk => exact q
  | cont => exact q
/-- in a def's body nothing is shown -/
theorem Inv.quiet {pins : List (Addr × Obj)} {σ : St} {H : Hp} {s : Shared} (I : Inv X pins σ H s) : interactive X.env = false := by simp [interactive, I.ok.kind]
/-- an expression whose value is dropped -/
noncomputable def tDrop (te : TE) : TS := fun D σ H => te σ H fun _ H1 => D.nx σ H1
theorem ps_expr (he : PE X e te) (hs : swapsWith e none pos.line X.env = pure false := by rfl) : PS X (.Expr e pos) (tDrop te) := by
  intro pins s σ H D I h
  exact wpAny_Expr_any (thn (he pins s σ H _ I h) fun v s1 ⟨x, H1, I1, r1, q1⟩ => ⟨σ, H1, I1, q1⟩) I.quiet hs
noncomputable def tRet (te : TE) : TS := fun D σ H => te σ H D.rt
theorem ps_ret (he : PE X e te) : PS X (.Return (some e) pos) (tRet te) := by
  intro pins s σ H D I h
  exact wpAny_Return_some (thn (he pins s σ H _ I h) fun v s1 ⟨x, H1, I1, r1, q1⟩ => ⟨x, σ, H1, I1, r1, q1⟩)
noncomputable def tIfS (c : TT) (t u : TS) : TS := fun D σ H => c σ H fun b H1 => if b = true then t D σ H1 else u D σ H1
theorem ps_if {c : Expr} {a b : List Stmt} {tc : TT} (hc : PT X c tc) (ha : PSs X a t) (hb : PSs X b u) : PS X (.If c a b pos) (tIfS tc t u) := by
  intro pins s σ H D I h
  refine wpAny_If (thn (hc pins s σ H _ I h) fun d s1 ⟨H1, I1, q1⟩ => ?_)
  cases d with
  | true => exact ha pins s1 σ H1 D I1 q1
  | false => exact hb pins s1 σ H1 D I1 q1
/-- code that the proof never comes to -/
noncomputable def tNever : TS := fun _ _ _ => False
theorem ps_never : PS X st tNever := fun _ _ _ _ _ _ h => h.elim
end

/-! ### targets -/
noncomputable abbrev TG := V → St → Hp → (St → Hp → Prop) → Prop
noncomputable abbrev TGs := List V → St → Hp → (St → Hp → Prop) → Prop
noncomputable def PG (X : Cx) (target : Expr) (t : TG) : Prop :=
  ∀ (pins : List (Addr × Obj)) (s : Shared) (σ : St) (H : Hp) (v : V) (u : Value) (Q : St → Hp → Prop), Inv X pins σ H s → RelV v u → t v σ H Q →
    wpAny (model X.prog X.w) X.A (assign target X.env u) (fun _ s' => ∃ σ' H', Inv X pins σ' H' s' ∧ Q σ' H') X.xe s
/-- several targets, one after another -/
noncomputable def PGs (X : Cx) (ts : List Expr) (t : TGs) : Prop :=
  ∀ (pins : List (Addr × Obj)) (s : Shared) (σ : St) (H : Hp) (vs : List V) (us : List Value) (Q : St → Hp → Prop), Inv X pins σ H s → Vals vs us → t vs σ H Q →
    wpAny (model X.prog X.w) X.A (assignInOrder ((assignEach ts X.env).map (·.2)) us) (fun _ s' => ∃ σ' H', Inv X pins σ' H' s' ∧ Q σ' H') X.xe s
/-- o[i] = v, by values -/
noncomputable abbrev TSet := V → V → V → Hp → (Hp → Prop) → Prop
noncomputable def PSet (X : Cx) (t : TSet) : Prop :=
  ∀ (pins : List (Addr × Obj)) (s : Shared) (σ : St) (H : Hp) (o i v : V) (ov iv u : Value) (Q : Hp → Prop), Inv X pins σ H s → RelV o ov → RelV i iv → RelV v u → t o i v H Q →
    wpAny (model X.prog X.w) X.A (setItem ov iv u) (fun _ s' => ∃ H', Inv X pins σ H' s' ∧ Q H') X.xe s
/-- a op= b, by values -/
noncomputable abbrev TIp := V → V → Hp → VK → Prop
noncomputable def PIp (X : Cx) (op : Operator) (t : TIp) : Prop :=
  ∀ (pins : List (Addr × Obj)) (s : Shared) (σ : St) (H : Hp) (x y : V) (v u : Value) (Q : VK), Inv X pins σ H s → RelV x v → RelV y u → t x y H Q →
    wpAny (model X.prog X.w) X.A (inplaceOp op v u) (EP X pins σ Q) X.xe s
section
variable {X : Cx} {pos : Pos}
noncomputable def gName (i : Nat) : TG := fun v σ H Q => Q (σ.set i (some v)) H
theorem pg_name {i : Nat} {x : Str} (hN : X.N.Nodup) (hi : X.N[i]? = some x) (hx : Loc X.env.scope x) (hf : X.fn x = true ∨ X.env.scope.names.lookup x = some .local := by first | exact .inl rfl | exact .inr rfl | assumption) : PG X (.Name x pos) (gName i) := by
  intro pins s σ H v u Q I r h
  exact wpAny_assign_Name (store_ok I hN hi hx r (fun s' I' => ⟨_, H, I', h⟩) hf)
noncomputable def gNil : TGs := fun vs σ H Q => vs = [] ∧ Q σ H
noncomputable def gCons (t : TG) (u : TGs) : TGs := fun vs σ H Q => ∃ v r, vs = v :: r ∧ t v σ H fun σ' H' => u r σ' H' Q
theorem pgs_nil : PGs X [] gNil := by
  intro pins s σ H vs us Q I r h
  obtain ⟨e, h⟩ := h
  subst e
  cases r
  exact assignInOrder_nil ⟨σ, H, I, h⟩
theorem pgs_cons {e : Expr} {es : List Expr} {t : TG} {u : TGs} (h1 : PG X e t) (h2 : PGs X es u)
    (hs : (assignEach (e :: es) X.env).map (·.2) = assign e X.env :: (assignEach es X.env).map (·.2) := by rfl) : PGs X (e :: es) (gCons t u) := by
  intro pins s σ H vs us Q I r h
  obtain ⟨v, vr, e1, h⟩ := h
  subst e1
  cases r with
  | cons r rr =>
    rw [hs]
    refine assignInOrder_cons (thn (h1 pins s σ H _ _ _ I r h) fun _ s1 ⟨σ1, H1, I1, q1⟩ => ?_)
    exact h2 pins s1 σ1 H1 _ _ Q I1 rr q1
/-- (a, b, ..) = a tuple of that length -/
noncomputable def gTup (K : PySem.W.Frag) (n : Nat) (t : TGs) : TG := fun v σ H Q => ∃ a xs, v = .ref a ∧ SqT K H a xs ∧ xs.length = n ∧ t xs σ H Q
theorem pg_tup {es : List Expr} {k : Nat} {t : TGs} {n : Nat} (hc : X.calm = true) (h : PGs X es t)
    (hn : (assignEach es X.env).length = n := by rfl) (hst : (assignEach es X.env).findIdx? (·.1) = none := by rfl) : PG X (.Tuple es k pos) (gTup X.K n t) := by
  intro pins s σ H v u Q I r hw
  obtain ⟨a, xs, e1, hq, hl, hw⟩ := hw
  subst e1
  cases r
  obtain ⟨its, rv, ht, hz⟩ := I.tuple hq
  refine assign_Tuple_tuple (I.ok.hd hc) ht (by simp [hn, ← hl, rv.length]) hst fun h' hx => ?_
  have I1 : Inv X pins σ H { s with heap := h' } := I.kept (t' := s.toks) fun b o e => hx b o (Nat.ne_of_lt (Heap.lt_size e)) e
  exact h pins _ σ H xs _ Q I1 (by simpa using rv) hw
/-- o[i] = .. -/
noncomputable def gSub (to ti : TE) (t : TSet) : TG := fun v σ H Q => to σ H fun o H1 => ti σ H1 fun i H2 => t o i v H2 fun H3 => Q σ H3
theorem pg_sub {o i : Expr} {to ti : TE} {t : TSet} (ho : PE X o to) (hi : PE X i ti) (hs : PSet X t)
    (ha : ∀ v, assign (.Subscript o i pos) X.env v = (do
      let ov ← holding [v] (eval o X.env)
      let iv ← holding [v, ov] (eval i X.env)
      standAt pos
      holding [v, ov, iv] (setItem ov iv v)
      release [v, ov, iv] []) := by intro _; rfl) : PG X (.Subscript o i pos) (gSub to ti t) := by
  intro pins s σ H v u Q I r h
  rw [ha]
  refine wpAny_bind (wpAny_holding (thn (ho pins s σ H _ I h) fun ov s1 ⟨x, H1, I1, r1, q1⟩ => ?_))
  refine wpAny_bind (wpAny_holding (thn (hi pins s1 σ H1 _ I1 q1) fun iv s2 ⟨y, H2, I2, r2, q2⟩ => ?_))
  refine wpAny_bind (wpAny_standAt (wpAny_bind (wpAny_holding (thn (hs pins s2 σ H2 x y v ov iv u _ I2 r1 r2 r q2) fun _ s3 ⟨H3, I3, q3⟩ => ?_))))
  exact wpAny_release ⟨σ, H3, I3, q3⟩
/-- target = value -/
noncomputable def tAsg (te : TE) (g : TG) : TS := fun D σ H => te σ H fun x H1 => g x σ H1 D.nx
theorem ps_asg {tg e : Expr} {te : TE} {g : TG} (he : PE X e te) (hg : PG X tg g) (hs : swapsWithSole [tg] e pos.line X.env = pure false := by rfl) (hw : swappedStores [tg] e X.env = pure none := by rfl)
    (h1 : (assignEach [tg] X.env).map (·.2) = [assign tg X.env] := by rfl) : PS X (.Assign [tg] e pos) (tAsg te g) := by
  intro pins s σ H D I h
  refine wpAny_Assign_stores (thn (he pins s σ H _ I h) fun v s1 ⟨x, H1, I1, r1, q1⟩ => ?_) hs hw
  rw [h1]
  exact thn (hg pins s1 σ H1 x v _ I1 r1 q1) fun _ s2 q => q
/-- name = value -/
theorem ps_set {i : Nat} {x : Str} {e : Expr} {te : TE} {pos' : Pos} (hN : X.N.Nodup) (hi : X.N[i]? = some x) (hx : Loc X.env.scope x) (he : PE X e te) (hs : swapsWith e (some (.Name x pos')) pos.line X.env = pure false := by rfl) (hf : X.fn x = true ∨ X.env.scope.names.lookup x = some .local := by first | exact .inl rfl | exact .inr rfl | assumption) :
    PS X (.Assign [.Name x pos'] e pos) (tAsg te (gName i)) := by
  intro pins s σ H D I h
  refine wpAny_Assign_Name (thn (he pins s σ H _ I h) fun v s1 ⟨y, H1, I1, r1, q1⟩ => ?_) hs
  exact store_ok I1 hN hi hx r1 (fun s2 I2 => ⟨_, H1, I2, q1⟩) hf
/-- name op= e -/
noncomputable def tAug (i : Nat) (te : TE) (ti : TIp) : TS := fun D σ H => ∃ x, σ[i]? = some (some x) ∧ te σ H fun y H1 => ti x y H1 fun z H2 => D.nx (σ.set i (some z)) H2
theorem ps_aug {i : Nat} {x : Str} {e : Expr} {te : TE} {op : Operator} {ti : TIp} {pos' : Pos} (hN : X.N.Nodup) (hi : X.N[i]? = some x) (hx : Loc X.env.scope x) (he : PE X e te) (ho : PIp X op ti) (hf : X.fn x = true ∨ X.env.scope.names.lookup x = some .local := by first | exact .inl rfl | exact .inr rfl | assumption) :
    PS X (.AugAssign (.Name x pos') op e pos) (tAug i te ti) := by
  intro pins s σ H D I h
  obtain ⟨v, e1, h⟩ := h
  obtain ⟨m, hn, hl⟩ := I.loc
  have vis : Vis X.env.scope x := by rcases hx with k | k; exact .inl k; exact .inr (.inl k)
  obtain ⟨u, r, l⟩ := hl i x v hi e1 vis
  refine wpAny_AugAssign_Name ?_
  have go : wpAny (model X.prog X.w) X.A (eval e X.env) (fun w s₂ => wpAny (model X.prog X.w) X.A (inplaceOp op u w) (fun r s₃ => wpAny (model X.prog X.w) X.A (storeName X.env x r) (fun _ => SP X pins D .next) X.xe s₃) X.xe s₂) X.xe s := by
    refine thn (he pins s σ H _ I h) fun w s1 ⟨y, H1, I1, r1, q1⟩ => ?_
    refine thn (ho pins s1 σ H1 v y u w _ I1 r r1 q1) fun z s2 ⟨zv, H2, I2, r2, q2⟩ => ?_
    exact store_ok I2 hN hi hx r2 (fun s3 I3 => ⟨_, H2, I3, q2⟩) hf
  rcases l with ⟨hk, hm⟩ | ⟨hk, c, hc, hcell⟩
  · exact wpAny_loadName_local I.ok.kind hk hn hm go
  · rcases hk with hk | hk
    · exact wpAny_loadName_cell I.ok.kind hk hc hcell go
    · rcases hx with k | k
      · have : X.env.scope.names.lookup x = some .free := hk
        rw [k] at this; cases this
      · have : X.env.scope.names.lookup x = some .free := hk
        rw [k] at this; cases this
end

/-! ### while -/
section
variable {X : Cx} {pos : Pos}
/-- the invariant W with its measure -/
noncomputable def tWhile (c : TT) (tb : TS) : TS := fun D σ H => ∃ W : Nat → St → Hp → Prop, (∃ m, W m σ H) ∧ ∀ m σ H, W m σ H →
  c σ H fun b H1 => if b = true then ∃ N : St → Hp → Prop, (∀ σ' H', N σ' H' → ∃ m', m' < m ∧ W m' σ' H') ∧ tb { D with nx := N, ct := N, bk := D.nx } σ H1 else D.nx σ H1
theorem ps_while {c : Expr} {body : List Stmt} {tc : TT} {tb : TS} (hp : PassesOwn (model X.prog X.w) X.A X.env X.xe) (hc : PT X c tc) (hb : PSs X body tb) : PS X (.While c body [] pos) (tWhile tc tb) := by
  intro pins s σ H D I h
  obtain ⟨W, ⟨m0, w0⟩, turn⟩ := h
  refine wpAny_While (codeAny_whileLoop (fun n s' => ∃ σ' H', Inv X pins σ' H' s' ∧ W n σ' H') ?_ m0 ⟨σ, H, I, w0⟩)
  rintro n s1 ⟨σ1, H1, I1, w1⟩
  refine wpAny_passesOwn hp (thn (hc pins s1 σ1 H1 _ I1 (turn n σ1 H1 w1)) fun b s2 ⟨H2, I2, q2⟩ => ?_)
  cases b with
  | true =>
    obtain ⟨N, hN, q2⟩ := q2
    rw [if_pos rfl]
    refine wpAny_passesOwn hp (thn (hb pins s2 σ1 H2 _ I2 q2) fun f s3 q3 => ?_)
    cases f with
    | next =>
      obtain ⟨σ3, H3, I3, n3⟩ := q3
      obtain ⟨m', hm, w3⟩ := hN σ3 H3 n3
      exact ⟨m', hm, σ3, H3, I3, w3⟩
    | cont =>
      obtain ⟨σ3, H3, I3, n3⟩ := q3
      obtain ⟨m', hm, w3⟩ := hN σ3 H3 n3
      exact ⟨m', hm, σ3, H3, I3, w3⟩
    | brk => exact q3
    | ret v => exact q3
  | false =>
    rw [if_neg Bool.false_ne_true]
    exact wpAny_execs_nil ⟨σ1, H2, I2, q2⟩
end

/-! ### what a loop or a comprehension walks -/
/-- at turn i: it yields x (the heap may grow), or it stops -/
structure It where
  go : Nat → Hp → Prop
  yld : Nat → Hp → V → Hp → Prop
  stop : Nat → Hp → Prop
/-- the iterator's own objects may turn: they are not the frame's, not pinned, younger than the entry (or a comprehension's own) -/
noncomputable def FpOk (X : Cx) (pins : List (Addr × Obj)) (H : Hp) (b : Addr) : Prop :=
  H b = none ∧ b ≠ X.env.locals ∧ b ∉ X.fs ∧ (b ∈ X.ex ∨ X.s₀.heap.objs.size ≤ b) ∧ (∀ x c, X.env.cells.lookup x = some c → c ≠ b) ∧ ∀ p ∈ X.pn ++ pins, p.1 ≠ b
theorem Inv.fpOk {X : Cx} {pins : List (Addr × Obj)} {σ : St} {H H' : Hp} {s : Shared} {b : Addr} (I : Inv X pins σ H s) (hb : s.heap.objs.size ≤ b) (hn : H' b = none) : FpOk X pins H' b := by
  refine ⟨hn, Nat.ne_of_gt (Nat.lt_of_lt_of_le I.lt hb), I.nofs hb, .inr (Nat.le_trans I.sz hb), fun x c e z => ?_, fun p hp z => ?_⟩
  · obtain ⟨v, q⟩ := I.cell x c e
    exact absurd (Nat.lt_of_lt_of_le q.lt (by rw [z]; exact hb)) (Nat.lt_irrefl _)
  · exact absurd (Nat.lt_of_lt_of_le (Heap.lt_size (I.pin p hp).1) (by rw [z]; exact hb)) (Nat.lt_irrefl _)
structure Turn (P : Program) (w : World) (K : PySem.W.Frag) (tg : Expr) (J : It) (fp : List Addr) (it : Addr) (tn : Nat → Heap → Prop) : Prop where
  mem : it ∈ fp
  obj : ∀ i h, tn i h → ∀ b ∈ fp, ∃ o, h.get? b = some o ∧ ∀ v, o.data ≠ .cell v
  keep : ∀ i h h', tn i h → (∀ b ∈ fp, ∀ o, h.get? b = some o → h'.get? b = some o) → tn i h'
  item : ∀ (X : Cx), X.prog = P → X.w = w → X.K = K → X.calm = true → ∀ (i : Nat) (pins : List (Addr × Obj)) (s : Shared) (σ : St) (H : Hp) (E : Value → Shared → Prop), Inv X pins σ H s → (∀ b ∈ fp, FpOk X pins H b) → tn i s.heap → J.go i H →
    wpAny (model P w) X.A (pyNext (.ref it)) (fun r s1 => ∃ u, r = some u ∧
      wpAny (model P w) X.A (letOwnedTupleGo tg (.ref it) u) (fun _ s2 => ∃ x H', Inv X pins σ H' s2 ∧ RelV x u ∧ J.yld i H x H' ∧ tn (i + 1) s2.heap ∧ ∀ b ∈ fp, H' b = none) E s1) E s
  done : ∀ (X : Cx), X.prog = P → X.w = w → X.K = K → X.calm = true → ∀ (i : Nat) (pins : List (Addr × Obj)) (s : Shared) (σ : St) (H : Hp) (E : Value → Shared → Prop), Inv X pins σ H s → (∀ b ∈ fp, FpOk X pins H b) → tn i s.heap → J.stop i H →
    wpAny (model P w) X.A (pyNext (.ref it)) (fun r s1 => r = none ∧ Inv X pins σ H s1) E s
  self : ∀ (A : Around) (i : Nat) (s : Shared) (Q : Value → Shared → Prop) (E : Value → Shared → Prop), tn i s.heap → Q (.ref it) s → wpAny (model P w) A (pyIter (.ref it)) Q E s
noncomputable abbrev TI := St → Hp → (It → Hp → Prop) → Prop
/-- an iterator has come -/
noncomputable def PIE (X : Cx) (pins : List (Addr × Obj)) (σ : St) (tg : Expr) (R : It → Hp → Prop) (itv : Value) (s2 : Shared) : Prop :=
  ∃ (it : Addr) (fp : List Addr) (tn : Nat → Heap → Prop) (J : It) (H' : Hp), itv = .ref it ∧ Inv X pins σ H' s2 ∧ Turn X.prog X.w X.K tg J fp it tn ∧ tn 0 s2.heap ∧ (∀ b ∈ fp, FpOk X pins H' b) ∧ R J H'
noncomputable def PI (X : Cx) (tg iter : Expr) (wi : TI) : Prop :=
  ∀ (pins : List (Addr × Obj)) (s : Shared) (σ : St) (H : Hp) (R : It → Hp → Prop), Inv X pins σ H s → wi σ H R →
    wpAny (model X.prog X.w) X.A (eval iter X.env) (fun v s1 => wpAny (model X.prog X.w) X.A (pyIter v) (PIE X pins σ tg R) X.xe s1) X.xe s

/-- the step ahead of the store is nothing for an iterator that keeps no tuple -/
theorem go_of {M : Model} {A : Around} {E : Value → Shared → Prop} {s : Shared} {tg : Expr} {it : Addr} {u : Value} {o : Obj} {n : String} {vs : Array Value} {Q : Unit → Shared → Prop} (ho : s.heap.get? it = some o) (hc : o.cls = .type n) (hd : o.data = .fields vs)
    (hn : ["enumerate", "zip", "dict_itemiterator", "dict_reverseitemiterator", "odict_iterator", "itertools.zip_longest", "itertools.pairwise"].contains n = false) (hQ : Q () s) : wpAny M A (letOwnedTupleGo tg (.ref it) u) Q E s := by
  unfold letOwnedTupleGo
  cases tg <;> first
    | exact wpAny_pure hQ
    | (cases u <;> first
        | exact wpAny_pure hQ
        | (refine wpAny_bind (wpAny_load ho ?_)
           rw [hc, hd]
           show wpAny M A (if (["enumerate", "zip", "dict_itemiterator", "dict_reverseitemiterator", "odict_iterator", "itertools.zip_longest", "itertools.pairwise"].contains n && vs[0]? == some (rawInt _)) = true then _ else _) Q E s
           rw [if_neg (by intro h; rw [hn, Bool.false_and] at h; cases h)]
           exact wpAny_pure hQ))

/-- the list at a, as it stands at each turn (a loop may append to it) -/
noncomputable def Itl (K : PySem.W.Frag) (a : Addr) : It :=
  ⟨fun i H => ∃ xs x, SqL K H a xs ∧ xs[i]? = some x, fun i H x H' => H' = H ∧ ∀ xs, SqL K H a xs → xs[i]? = some x, fun i H => ∃ xs, SqL K H a xs ∧ xs.length ≤ i⟩
/-- lo, lo + 1, .. (n of them) -/
noncomputable def Itr (lo : Int) (n : Nat) : It := ⟨fun i _ => i < n, fun i H x H' => H' = H ∧ x = .int (lo + i), fun i _ => n ≤ i⟩
theorem turn_list {P : Program} {w : World} {K : PySem.W.Frag} {tg : Expr} (a it : Addr) : Turn P w K tg (Itl K a) [it] it (fun i h => h.IsListIter it a i) where
  mem := by simp
  obj := fun i h st b hb => by
    have e : b = it := by simpa using hb
    subst e
    obtain ⟨o, e, c, d⟩ := st
    exact ⟨o, e, fun v z => by rw [d] at z; cases z⟩
  keep := fun i h h' st k => st.at fun o e => k it (by simp) o e
  item := by
    intro X hP hw hK hc i pins s σ H E I hf st hg
    subst hP hw hK
    obtain ⟨xs, x, hq, hx⟩ := hg
    obtain ⟨its, rv, p, hz⟩ := I.list hq
    obtain ⟨u, hu, ru⟩ := rv.get hx
    obtain ⟨f0, f1, f2, f3, f4, f5⟩ := hf it (by simp)
    refine wpAny_pyNext_list_item st p.isList (x := u) (by simpa using hu) fun h' st' sb => ?_
    have I1 : Inv X pins σ H { s with heap := h' } := I.turned (t' := s.toks) (fun b o hb e => (sb.2 b hb).trans e) f0 f1 f3 f4 f5
    obtain ⟨o, e, c, d⟩ := id st'
    exact ⟨u, rfl, go_of (s := { s with heap := h' }) e c d (by decide) ⟨x, H, I1, ru, ⟨rfl, fun ys hy => by rw [I.list_inj hy hq]; exact hx⟩, st', fun b hb => (hf b hb).1⟩⟩
  done := by
    intro X hP hw hK hc i pins s σ H E I hf st hg
    subst hP hw hK
    obtain ⟨xs, hq, hx⟩ := hg
    obtain ⟨its, rv, p, hz⟩ := I.list hq
    obtain ⟨f0, f1, f2, f3, f4, f5⟩ := hf it (by simp)
    have hl := rv.length
    exact wpAny_pyNext_list_end (I.ok.hd hc) st p.isList (by simp; omega) fun h' eb => ⟨rfl, I.turned (t' := s.toks) (fun b o hb e => eb b o hb e) f0 f1 f3 f4 f5⟩
  self := fun _ _ _ _ _ st h => wpAny_pyIter_listiter st h
theorem turn_range {P : Program} {w : World} {K : PySem.W.Frag} {tg : Expr} (it : Addr) (lo : Int) (n : Nat) : Turn P w K tg (Itr lo n) [it] it (fun i h => IsRangeIter h it (lo + (i : Nat) * 1) ((n : Int) - (i : Nat)) 1) where
  mem := by simp
  obj := fun i h st b hb => by
    have e : b = it := by simpa using hb
    subst e
    exact ⟨_, st, fun v z => by
      have z' : Data.fields _ = Data.cell v := z
      cases z'⟩
  keep := fun i h h' st k => k it (by simp) _ st
  item := by
    intro X hP hw hK hc i pins s σ H E I hf st hg
    subst hP hw hK
    obtain ⟨f0, f1, f2, f3, f4, f5⟩ := hf it (by simp)
    have W := Walks.range (prog := X.prog) (w := X.w) (I.ok.hd hc) it lo 1 n
    refine W.item i s _ _ hg st fun v h' tk hv st' kk => ?_
    obtain ⟨t, rfl⟩ := hv
    have I1 : Inv X pins σ H { s with heap := h', toks := tk } := I.turned (fun b o hb e => kk b o (by simpa using hb) e) f0 f1 f3 f4 f5
    refine ⟨_, rfl, go_of (s := { s with heap := h', toks := tk }) (n := "range_iterator") st' rfl rfl (by decide) ⟨.int (lo + i), H, I1, ⟨t, ?_⟩, ⟨rfl, rfl⟩, st', fun b hb => (hf b hb).1⟩⟩
    rw [Int.mul_one]
  done := by
    intro X hP hw hK hc i pins s σ H E I hf st hg
    subst hP hw hK
    obtain ⟨f0, f1, f2, f3, f4, f5⟩ := hf it (by simp)
    exact wpAny_pyNext_range_end (I.ok.hd hc) st (by have : n ≤ i := hg; omega) fun h' eb => ⟨rfl, I.turned (t' := s.toks) (fun b o hb e => eb b o hb e) f0 f1 f3 f4 f5⟩
  self := fun _ _ _ _ _ st h => wpAny_pyIter_rangeiter st h
end L2

namespace L2
open PySem PySem.Spec PyProof.Rows
section
variable {X : Cx} {tg : Expr}
noncomputable def iList (K : PySem.W.Frag) (tl : TE) : TI := fun σ H R => tl σ H fun x H1 => ∃ a, x = .ref a ∧ (∃ xs, SqL K H1 a xs) ∧ R (Itl K a) H1
theorem pi_list {l : Expr} {tl : TE} (hl : PE X l tl) : PI X tg l (iList X.K tl) := by
  intro pins s σ H R I h
  refine thn (hl pins s σ H _ I h) fun v s1 ⟨x, H1, I1, r1, q1⟩ => ?_
  obtain ⟨a, e, ⟨xs, hq⟩, q⟩ := q1
  subst e
  cases r1
  obtain ⟨its, rv, p, hz⟩ := I1.list hq
  refine wpAny_pyIter_list p.isList ?_
  refine ⟨s1.heap.objs.size, [s1.heap.objs.size], _, _, H1, rfl, I1.kept (t' := s1.toks) fun b o e => Heap.get?_push_of_some _ e, turn_list a _, ⟨_, Heap.get?_push_size _ rfl, rfl, rfl⟩, fun b hb => ?_, q⟩
  have e : b = s1.heap.objs.size := by simpa using hb
  subst e
  exact I1.fpOk (Nat.le_refl _) (I1.hok.fresh (Nat.le_refl _))
/-- a range object just made, walked -/
theorem range_it {pins : List (Addr × Obj)} {σ : St} {H : Hp} {s : Shared} {R : It → Hp → Prop} {E : Value → Shared → Prop} {lo hi : Int} {t u v : Tok} {tk : Nat} (I : Inv X pins σ H s) (h1 : -(2 ^ 62) ≤ lo) (h2 : lo < 2 ^ 62) (h3 : -(2 ^ 62) ≤ hi) (h4 : hi < 2 ^ 62)
    (q : R (Itr lo (hi - lo).toNat) H) : wpAny (model X.prog X.w) X.A (pyIter (.ref s.heap.objs.size)) (PIE X pins σ tg R) E { s with heap := s.heap.push { cls := .type "range", data := .fields #[.int lo t, .int hi u, .int 1 v] }, toks := tk } := by
  refine wpAny_pyIter_range (IsRange.new ..) (small_one h1 h2 h3 h4) ?_
  have I1 : Inv X pins σ H { s with heap := s.heap.push { cls := .type "range", data := .fields #[.int lo t, .int hi u, .int 1 v] }, toks := tk } := I.kept fun b o e => Heap.get?_push_of_some _ e
  refine ⟨(s.heap.push { cls := .type "range", data := .fields #[.int lo t, .int hi u, .int 1 v] }).objs.size, [(s.heap.push { cls := .type "range", data := .fields #[.int lo t, .int hi u, .int 1 v] }).objs.size], _, _, H, rfl,
    I1.kept (t' := tk) fun b o e => Heap.get?_push_of_some _ e, turn_range _ lo (hi - lo).toNat, ?_, fun b hb => ?_, q⟩
  · have e1 : lo + ((0 : Nat) : Int) * 1 = lo := by simp
    have e2 : (((hi - lo).toNat : Nat) : Int) - ((0 : Nat) : Int) = Builtin.Range.rangeSize lo hi 1 := by rw [rangeSize_one]; split <;> omega
    show IsRangeIter _ _ (lo + ((0 : Nat) : Int) * 1) ((((hi - lo).toNat : Nat) : Int) - ((0 : Nat) : Int)) 1
    rw [e1, e2]
    exact Heap.get?_push_size _ rfl
  · have e : b = (s.heap.push { cls := .type "range", data := .fields #[.int lo t, .int hi u, .int 1 v] }).objs.size := by simpa using hb
    subst e
    exact I1.fpOk (Nat.le_refl _) (I1.hok.fresh (Nat.le_refl _))
noncomputable def iRng1 (ta : TA) : TI := fun σ H R => ta σ H fun vs H1 => ∃ j : Int, vs = [.int j] ∧ -(2 ^ 62) ≤ j ∧ j < 2 ^ 62 ∧ R (Itr 0 j.toNat) H1
theorem pi_range1 {a : Expr} {ta : TA} {p pos : Pos} (hg : Gl X "range") (hm : X.mg "range" = none) (ha : PA X [a] ta) (hs : starEach [a] X.env = [(false, eval a X.env)] := by rfl) : PI X tg (.Call (.Name "range" p) [a] [] pos) (iRng1 ta) := by
  intro pins s σ H R I h
  refine Call_ (ld_blt I hg hm boot_range (PyProof.Rows.callWith_type1 (thn (ha pos pins s σ H _ I h) fun us s1 ⟨vs, H1, I1, r1, q1⟩ => ?_) hs rfl))
  obtain ⟨j, e, q1, q2, q⟩ := q1
  subst e
  cases r1 with
  | cons r rr =>
    cases rr
    obtain ⟨t, rfl⟩ := r
    exact call_range_1 (range_it I1 (by omega) (by omega) q1 q2 (by simpa using q))
/-! ### for -/
/-- W: the invariant by the turn and a measure; N: what the body is to reach -/
noncomputable def tFor (wi : TI) (g : TG) (tb : TS) : TS := fun D σ H => wi σ H fun J H1 => ∃ W : Nat → Nat → St → Hp → Prop, (∃ m, W 0 m σ H1) ∧ ∀ i m σ H, W i m σ H →
  (J.stop i H ∧ D.nx σ H) ∨ (J.go i H ∧ ∃ N : St → Hp → Prop, (∀ σ' H', N σ' H' → ∃ m', m' < m ∧ W (i + 1) m' σ' H') ∧ ∀ x H', J.yld i H x H' → g x σ H' fun σ2 H2 => tb { D with nx := N, ct := N, bk := D.nx } σ2 H2)
/-- the records at fp as they stand -/
noncomputable def pinsAt (fp : List Addr) (h : Heap) : List (Addr × Obj) := fp.filterMap fun b => (h.get? b).map fun o => (b, o)
theorem mem_pinsAt {fp : List Addr} {h : Heap} {b : Addr} {o : Obj} (hb : b ∈ fp) (e : h.get? b = some o) : (b, o) ∈ pinsAt fp h := List.mem_filterMap.mpr ⟨b, hb, by rw [e]; rfl⟩
theorem of_pinsAt {fp : List Addr} {h : Heap} {p : Addr × Obj} (hp : p ∈ pinsAt fp h) : p.1 ∈ fp ∧ h.get? p.1 = some p.2 := by
  obtain ⟨b, hb, e⟩ := List.mem_filterMap.mp hp
  cases q : h.get? b with
  | none => rw [q] at e; cases e
  | some o =>
    rw [q] at e
    have e' : (b, o) = p := Option.some.inj e
    subst e'
    exact ⟨hb, q⟩
theorem Inv.pinned {pins : List (Addr × Obj)} {σ : St} {H : Hp} {s : Shared} {fp : List Addr} (I : Inv X pins σ H s) (hf : ∀ b ∈ fp, FpOk X pins H b) (ho : ∀ b ∈ fp, ∃ o, s.heap.get? b = some o ∧ ∀ v, o.data ≠ .cell v) : Inv X (pins ++ pinsAt fp s.heap) σ H s :=
  I.pins_of fun p hp => (List.mem_append.mp hp).elim (fun z => I.pin p (List.mem_append_right _ z)) fun z => by
    obtain ⟨hb, e⟩ := of_pinsAt z
    obtain ⟨f0, f1, f2, _⟩ := hf p.1 hb
    obtain ⟨o, e', d⟩ := ho p.1 hb
    rw [e] at e'; cases e'
    exact ⟨e, f0, f1, f2, d⟩
theorem Inv.unpinned {pins pl : List (Addr × Obj)} {σ : St} {H : Hp} {s : Shared} (I : Inv X (pins ++ pl) σ H s) : Inv X pins σ H s := I.pins_of fun p hp => I.pin p (List.mem_append_right _ (List.mem_append_left _ hp))
theorem ps_for {iter : Expr} {body : List Stmt} {wi : TI} {g : TG} {tb : TS} {pos : Pos} (hp : PassesOwn (model X.prog X.w) X.A X.env X.xe) (hc : X.calm = true) (hi : PI X tg iter wi) (hg : PG X tg g) (hb : PSs X body tb)
    (hs : ∀ x, foldedSetIterable iter X.env x = pure x := by intro _; rfl) : PS X (.For tg iter body [] pos) (tFor wi g tb) := by
  intro pins s σ H D I h
  refine wpAny_For (thn (hi pins s σ H _ I h) fun v s1 h1 => thn h1 fun itv s2 h2 => ?_) hs
  obtain ⟨it, fp, tn, J, H2, e, I2, T, st2, f2, W, ⟨m0, w0⟩, turn⟩ := h2
  subst e
  -- what stays true of the iterator's objects through the loop
  have stat : ∀ {H' : Hp}, (∀ b ∈ fp, H' b = none) → ∀ b ∈ fp, FpOk X pins H' b := fun hn b hb => ⟨hn b hb, (f2 b hb).2⟩
  refine codeAny_forLoop_any (fun n s' => ∃ i σ' H', Inv X pins σ' H' s' ∧ tn i s'.heap ∧ (∀ b ∈ fp, H' b = none) ∧ W i n σ' H') ?_ m0 ⟨0, σ, H2, I2, st2, fun b hb => (f2 b hb).1, w0⟩
  rintro n s3 ⟨i, σ3, H3, I3, st3, fr3, w3⟩
  rcases turn i n σ3 H3 w3 with ⟨stop, qn⟩ | ⟨go, N, hN, step⟩
  · refine wpAny_passesOwn hp (thn (T.done X rfl rfl rfl hc i pins s3 σ3 H3 X.xe I3 (stat fr3) st3 stop) fun r s4 ⟨hr, I4⟩ => ?_)
    subst hr
    exact wpAny_execs_nil ⟨σ3, H3, I4, qn⟩
  · refine wpAny_passesOwn hp (thn (T.item X rfl rfl rfl hc i pins s3 σ3 H3 X.xe I3 (stat fr3) st3 go) fun r s4 ⟨u, hr, h4⟩ => ?_)
    subst hr
    refine wpAny_passesOwn hp (thn h4 fun _ s5 ⟨x, H5, I5, r5, y5, st5, fr5⟩ => ?_)
    have I5' := I5.pinned (stat fr5) (T.obj _ _ st5)
    refine wpAny_passesOwn hp (thn (hg _ s5 σ3 H5 x u _ I5' r5 (step x H5 y5)) fun _ s6 ⟨σ6, H6, I6, q6⟩ => ?_)
    refine wpAny_passesOwn hp (thn (hb _ s6 σ6 H6 _ I6 q6) fun f s7 q7 => ?_)
    have again : ∀ {σ7 : St} {H7 : Hp}, Inv X (pins ++ pinsAt fp s5.heap) σ7 H7 s7 → N σ7 H7 → ∃ m, m < n ∧ ∃ i σ' H', Inv X pins σ' H' s7 ∧ tn i s7.heap ∧ (∀ b ∈ fp, H' b = none) ∧ W i m σ' H' := fun {σ7 H7} I7 n7 => by
      obtain ⟨m', hm, w7⟩ := hN σ7 H7 n7
      refine ⟨m', hm, i + 1, σ7, H7, I7.unpinned, T.keep _ _ _ st5 fun b hb o e => (I7.pin (b, o) (List.mem_append_right _ (List.mem_append_right _ (mem_pinsAt hb e)))).1, fun b hb => ?_, w7⟩
      obtain ⟨o, e, d⟩ := T.obj _ _ st5 b hb
      exact (I7.pin (b, o) (List.mem_append_right _ (List.mem_append_right _ (mem_pinsAt hb e)))).2.1
    cases f with
    | next => obtain ⟨σ7, H7, I7, n7⟩ := q7; exact again I7 n7
    | cont => obtain ⟨σ7, H7, I7, n7⟩ := q7; exact again I7 n7
    | brk => obtain ⟨σ7, H7, I7, q7⟩ := q7; exact ⟨σ7, H7, I7.unpinned, q7⟩
    | ret v => obtain ⟨x7, σ7, H7, I7, r7, q7⟩ := q7; exact ⟨x7, σ7, H7, I7.unpinned, r7, q7⟩
end

/-! ### the forms one uses -/
theorem for_range {lo : Int} {n : Nat} {g : TG} {tb : TS} {D : Ends} {σ : St} {H : Hp} (Pv : Nat → St → Hp → Prop) (h0 : Pv 0 σ H)
    (hs : ∀ i σ H, i < n → Pv i σ H → g (.int (lo + i)) σ H fun σ2 H2 => tb { D with nx := Pv (i + 1), ct := Pv (i + 1), bk := D.nx } σ2 H2) (hd : ∀ σ H, Pv n σ H → D.nx σ H) :
    ∃ W : Nat → Nat → St → Hp → Prop, (∃ m, W 0 m σ H) ∧ ∀ i m σ H, W i m σ H →
      ((Itr lo n).stop i H ∧ D.nx σ H) ∨ ((Itr lo n).go i H ∧ ∃ N : St → Hp → Prop, (∀ σ' H', N σ' H' → ∃ m', m' < m ∧ W (i + 1) m' σ' H') ∧ ∀ x H', (Itr lo n).yld i H x H' → g x σ H' fun σ2 H2 => tb { D with nx := N, ct := N, bk := D.nx } σ2 H2) := by
  refine ⟨fun i m σ H => m = n - i ∧ i ≤ n ∧ Pv i σ H, ⟨n, by simp, Nat.zero_le _, h0⟩, ?_⟩
  rintro i m σ H ⟨rfl, hi, p⟩
  by_cases hlt : i < n
  · refine .inr ⟨hlt, Pv (i + 1), fun σ' H' p' => ⟨n - (i + 1), by omega, rfl, hlt, p'⟩, fun x H' y => ?_⟩
    obtain ⟨e, y⟩ := y
    subst e y
    exact hs i σ _ hlt p
  · have e : i = n := by omega
    subst e
    exact .inl ⟨Nat.le_refl _, hd σ H p⟩
/-- while, by a word and a measure of the state -/
theorem while_by {c : TT} {tb : TS} {D : Ends} {σ : St} {H : Hp} (Pv : St → Hp → Prop) (μ : St → Hp → Nat) (h0 : Pv σ H)
    (hs : ∀ σ H, Pv σ H → c σ H fun b H1 => if b = true then tb { D with nx := fun σ' H' => Pv σ' H' ∧ μ σ' H' < μ σ H, ct := fun σ' H' => Pv σ' H' ∧ μ σ' H' < μ σ H, bk := D.nx } σ H1 else D.nx σ H1)
    (mono : ∀ σ H Q Q', (∀ b H1, Q b H1 → Q' b H1) → c σ H Q → c σ H Q') : tWhile c tb D σ H := by
  refine ⟨fun m σ H => m = μ σ H ∧ Pv σ H, ⟨_, rfl, h0⟩, ?_⟩
  rintro m σ H ⟨rfl, p⟩
  refine mono σ H _ _ (fun b H1 q => ?_) (hs σ H p)
  cases b with
  | true => exact ⟨_, fun σ' H' ⟨p', l⟩ => ⟨_, l, rfl, p'⟩, q⟩
  | false => exact q
end L2

namespace L2
open PySem PySem.Spec PyProof.Rows

noncomputable abbrev R2 := V → V → Hp → VK → Prop
/-- a two-place operation on values: f is binaryOp op, inplaceOp op or compareOp op -/
noncomputable def OpR (X : Cx) (f : Value → Value → Sem Value) (r : R2) : Prop :=
  ∀ (pins : List (Addr × Obj)) (s : Shared) (σ : St) (H : Hp) (x y : V) (v u : Value) (Q : VK), Inv X pins σ H s → RelV x v → RelV y u → r x y H Q →
    wpAny (model X.prog X.w) X.A (f v u) (EP X pins σ Q) X.xe s
/-- a one-place operation -/
noncomputable def UnR (X : Cx) (f : Value → Sem Value) (r : V → Hp → VK → Prop) : Prop :=
  ∀ (pins : List (Addr × Obj)) (s : Shared) (σ : St) (H : Hp) (x : V) (v : Value) (Q : VK), Inv X pins σ H s → RelV x v → r x H Q →
    wpAny (model X.prog X.w) X.A (f v) (EP X pins σ Q) X.xe s
/-- a call of a value that is known (a builtin, a type) with values -/
noncomputable def CallR (X : Cx) (f : Value) (r : List V → Hp → VK → Prop) : Prop :=
  ∀ (pins : List (Addr × Obj)) (s : Shared) (σ : St) (H : Hp) (xs : List V) (us : List Value) (Q : VK), Inv X pins σ H s → Vals xs us → r xs H Q →
    wpAny (model X.prog X.w) X.A (call f us) (EP X pins σ Q) X.xe s
/-- a value's truth -/
noncomputable def TruR (X : Cx) (r : V → Hp → (Bool → Hp → Prop) → Prop) : Prop :=
  ∀ (pins : List (Addr × Obj)) (s : Shared) (σ : St) (H : Hp) (x : V) (v : Value) (Q : Bool → Hp → Prop), Inv X pins σ H s → RelV x v → r x H Q →
    wpAny (model X.prog X.w) X.A (truthy v) (TP X pins σ Q) X.xe s

noncomputable def tOp (r : R2) (ta tb : TE) : TE := fun σ H Q => ta σ H fun x H1 => tb σ H1 fun y H2 => r x y H2 Q
noncomputable def tUn (r : V → Hp → VK → Prop) (ta : TE) : TE := fun σ H Q => ta σ H fun x H1 => r x H1 Q
/-- ints in, under C, and a value out -/
noncomputable def rI (C : Int → Int → Prop) (g : Int → Int → V) : R2 := fun x y H Q => ∃ i j, x = .int i ∧ y = .int j ∧ C i j ∧ Q (g i j) H
noncomputable def rI0 (g : Int → Int → V) : R2 := fun x y H Q => ∃ i j, x = .int i ∧ y = .int j ∧ Q (g i j) H
noncomputable def rU (g : Int → V) : V → Hp → VK → Prop := fun x H Q => ∃ i, x = .int i ∧ Q (g i) H

section
variable {X : Cx} {a b c : Expr} {ta tb tc : TE} {pos : Pos}

theorem binT (ha : PE X a ta) (hb : PE X b tb) {pins : List (Addr × Obj)} {s : Shared} {σ : St} {H : Hp} {R : V → V → Hp → Prop} (I : Inv X pins σ H s)
    (h : ta σ H fun x H1 => tb σ H1 fun y H2 => R x y H2) {Q : Value → Shared → Prop} {f : Value → Value → Sem Value}
    (hf : ∀ v u s2 x y H2, Inv X pins σ H2 s2 → RelV x v → RelV y u → R x y H2 → wpAny (model X.prog X.w) X.A (f v u) Q X.xe s2) :
    wpAny (model X.prog X.w) X.A (eval a X.env) (fun v s₁ => wpAny (model X.prog X.w) X.A (eval b X.env) (fun u s₂ => wpAny (model X.prog X.w) X.A (f v u) Q X.xe s₂) X.xe s₁) X.xe s := by
  refine thn (ha pins s σ H _ I h) fun v s1 ⟨x, H1, I1, r1, q1⟩ => ?_
  refine thn (hb pins s1 σ H1 _ I1 q1) fun u s2 ⟨y, H2, I2, r2, q2⟩ => ?_
  exact hf v u s2 x y H2 I2 r1 r2 q2

theorem pe_op {op : Operator} {r : R2} (ho : OpR X (binaryOp op) r) (ha : PE X a ta) (hb : PE X b tb) : PE X (.BinOp a op b pos) (tOp r ta tb) := by
  intro pins s σ H Q I h
  exact wpAny_BinOp (binT ha hb I h fun v u s2 x y H2 I2 rx ry q => ho pins s2 σ H2 x y v u Q I2 rx ry q)
theorem pe_un {op : UnaryOp} {r : V → Hp → VK → Prop} (ho : UnR X (unaryOp op) r) (ha : PE X a ta) : PE X (.UnaryOp op a pos) (tUn r ta) := by
  intro pins s σ H Q I h
  exact UnaryOp_ (thn (ha pins s σ H _ I h) fun v s1 ⟨x, H1, I1, r1, q1⟩ => ho pins s1 σ H1 x v Q I1 r1 q1)
/-! ### ints -/
theorem opI {f : Value → Value → Sem Value} {C : Int → Int → Prop} {g : Int → Int → Int}
    (rule : ∀ (i j : Int) (t u : Tok) (s : Shared) (Q : Value → Shared → Prop) (E : Value → Shared → Prop), C i j → Q (.int (g i j) s.toks) { s with toks := s.toks + 1 } → wpAny (model X.prog X.w) X.A (f (.int i t) (.int j u)) Q E s) :
    OpR X f (rI C fun i j => .int (g i j)) := by
  intro pins s σ H x y v u Q I rx ry h
  obtain ⟨i, j, rfl, rfl, hc, q⟩ := h
  obtain ⟨t, rfl⟩ := rx
  obtain ⟨t', rfl⟩ := ry
  exact rule i j t t' s _ _ hc ⟨.int (g i j), H, I.tok _, ⟨_, rfl⟩, q⟩
theorem opI0 {f : Value → Value → Sem Value} {g : Int → Int → Int}
    (rule : ∀ (i j : Int) (t u : Tok) (s : Shared) (Q : Value → Shared → Prop) (E : Value → Shared → Prop), Q (.int (g i j) s.toks) { s with toks := s.toks + 1 } → wpAny (model X.prog X.w) X.A (f (.int i t) (.int j u)) Q E s) :
    OpR X f (rI0 fun i j => .int (g i j)) := by
  intro pins s σ H x y v u Q I rx ry h
  obtain ⟨i, j, rfl, rfl, q⟩ := h
  obtain ⟨t, rfl⟩ := rx
  obtain ⟨t', rfl⟩ := ry
  exact rule i j t t' s _ _ ⟨.int (g i j), H, I.tok _, ⟨_, rfl⟩, q⟩
theorem opB0 {f : Value → Value → Sem Value} {g : Int → Int → Bool}
    (rule : ∀ (i j : Int) (t u : Tok) (s : Shared) (Q : Value → Shared → Prop) (E : Value → Shared → Prop), Q (.bool (g i j)) s → wpAny (model X.prog X.w) X.A (f (.int i t) (.int j u)) Q E s) :
    OpR X f (rI0 fun i j => .bl (g i j)) := by
  intro pins s σ H x y v u Q I rx ry h
  obtain ⟨i, j, rfl, rfl, q⟩ := h
  obtain ⟨t, rfl⟩ := rx
  obtain ⟨t', rfl⟩ := ry
  exact rule i j t t' s _ _ ⟨.bl (g i j), H, I, rfl, q⟩

noncomputable def CPow (i j : Int) : Prop := 0 ≤ j ∧ j ≤ 1000000 ∧ i.natAbs < 2 ^ 64
noncomputable def CMul (i j : Int) : Prop := (-(2 ^ 64) < i ∧ i < 2 ^ 64) ∨ (-(2 ^ 64) < j ∧ j < 2 ^ 64)
theorem CMul.ok {i j : Int} (h : CMul i j) : IntMulOk i j := by
  rcases h with ⟨h1, h2⟩ | ⟨h1, h2⟩
  · exact .of_left (intBits_le_64 h1 h2)
  · exact .of_right (intBits_le_64 h1 h2)
theorem op_add : OpR X (binaryOp .Add) (rI0 fun i j => .int (i + j)) := opI0 fun _ _ _ _ _ _ _ q => add_int q
theorem op_sub : OpR X (binaryOp .Sub) (rI0 fun i j => .int (i - j)) := opI0 fun _ _ _ _ _ _ _ q => sub_int q
/-- % by a positive divisor of any size -/
theorem op_mod : OpR X (binaryOp .Mod) (rI (fun _ j => 0 < j) fun i j => .int (i % j)) := opI fun i j _ _ _ _ _ hc q => by
  have h1 : (0 : Int) < j := hc
  exact mod_int' (by omega) (by rw [Int.fmod_eq_emod_of_nonneg i (by omega)]; exact q)
theorem op_modN : OpR X (binaryOp .Mod) (rI (fun _ j => j ≠ 0) fun i j => .int (i.fmod j)) := opI fun _ _ _ _ _ _ _ hc q => mod_int' hc q
theorem op_pow : OpR X (binaryOp .Pow) (rI CPow fun i j => .int (i ^ j.toNat)) := opI fun _ _ _ _ _ _ _ hc q => pow_int_small hc.1 hc.2.1 hc.2.2 q
theorem iop_add : OpR X (inplaceOp .Add) (rI0 fun i j => .int (i + j)) := opI0 fun _ _ _ _ _ _ _ q => iadd_int q
theorem unI {f : Value → Sem Value} {g : Int → Int}
    (rule : ∀ (i : Int) (t : Tok) (s : Shared) (Q : Value → Shared → Prop) (E : Value → Shared → Prop), Q (.int (g i) s.toks) { s with toks := s.toks + 1 } → wpAny (model X.prog X.w) X.A (f (.int i t)) Q E s) :
    UnR X f (rU fun i => .int (g i)) := by
  intro pins s σ H x v Q I rx h
  obtain ⟨i, rfl, q⟩ := h
  obtain ⟨t, rfl⟩ := rx
  exact rule i t s _ _ ⟨.int (g i), H, I.tok _, ⟨_, rfl⟩, q⟩
theorem un_neg : UnR X (unaryOp .USub) (rU fun i => .int (-i)) := unI fun _ _ _ _ _ q => neg_int q
/-! ### bools among ints: n += (a < b) -/
end

/-! ### comparisons -/
/-- the scalars that == tells apart as data does -/
noncomputable def scal : V → V → Bool
  | .non, .non => true | .non, .int _ => true | .int _, .non => true | .non, .bl _ => true | .bl _, .non => true | .non, .str _ => true | .str _, .non => true
  | .int _, .int _ => true | .bl _, .bl _ => true | .str _, .str _ => true | .byt _, .byt _ => true
  | .int _, .str _ => true | .str _, .int _ => true | .bl _, .str _ => true | .str _, .bl _ => true
  | _, _ => false
noncomputable def rEq : R2 := fun x y H Q => scal x y = true ∧ Q (.bl (decide (x = y))) H
noncomputable def rNe : R2 := fun x y H Q => scal x y = true ∧ Q (.bl (!decide (x = y))) H

theorem dec_int {i j : Int} : decide (V.int i = V.int j) = (i == j) := by
  rw [Bool.eq_iff_iff]
  simp
theorem dec_bl {i j : Bool} : decide (V.bl i = V.bl j) = (i == j) := by
  rw [Bool.eq_iff_iff]
  simp
theorem dec_str {i j : Str} : decide (V.str i = V.str j) = (i == j) := by
  rw [Bool.eq_iff_iff]
  simp
theorem dec_byt {i j : Array UInt8} : decide (V.byt i = V.byt j) = (i.toList == j.toList) := by
  rw [Bool.eq_iff_iff]
  cases i
  cases j
  simp

section
variable {X : Cx} {a b c : Expr} {ta tb tc : TE} {pos : Pos}
theorem fin_bl {pins : List (Addr × Obj)} {σ : St} {H : Hp} {s : Shared} {Q : VK} {k k' : Bool} (I : Inv X pins σ H s) (q : Q (.bl k) H) (e : k = k') : EP X pins σ Q (.bool k') s := by
  subst e
  exact ⟨.bl k, H, I, rfl, q⟩
theorem op_eq : OpR X (compareOp .Eq) rEq := by
  intro pins s σ H x y v u Q I rx ry h
  obtain ⟨hs, q⟩ := h
  cases x with
  | non =>
    cases rx
    cases y with
    | non => cases ry; exact PySem.EqNone.eq_none_none (fin_bl I q (by simp))
    | bl j => cases ry; exact PySem.EqNone.eq_none_bool (fin_bl I q (by simp))
    | int j => obtain ⟨t', rfl⟩ := ry; exact PySem.EqNone.eq_none_int (fin_bl I q (by simp))
    | str j => obtain ⟨t', rfl⟩ := ry; exact PySem.EqNone.eq_none_str (fin_bl I q (by simp))
    | _ => exact absurd (show false = true from hs) Bool.false_ne_true
  | bl i =>
    cases rx
    cases y with
    | non => cases ry; exact PySem.EqNone.eq_bool_none (fin_bl I q (by simp))
    | bl j => cases ry; exact eq_bool (fin_bl I q dec_bl)
    | str j => obtain ⟨t', rfl⟩ := ry; exact PySem.EqMixed.eq_bool_str (fin_bl I q (by simp))
    | _ => exact absurd (show false = true from hs) Bool.false_ne_true
  | int i =>
    obtain ⟨t, rfl⟩ := rx
    cases y with
    | non => cases ry; exact PySem.EqNone.eq_int_none (fin_bl I q (by simp))
    | int j => obtain ⟨t', rfl⟩ := ry; exact eq_int (fin_bl I q dec_int)
    | str j => obtain ⟨t', rfl⟩ := ry; exact PySem.EqMixed.eq_int_str (fin_bl I q (by simp))
    | _ => exact absurd (show false = true from hs) Bool.false_ne_true
  | str i =>
    obtain ⟨t, rfl⟩ := rx
    cases y with
    | non => cases ry; exact PySem.EqNone.eq_str_none (fin_bl I q (by simp))
    | bl j => cases ry; exact PySem.EqMixed.eq_str_bool (fin_bl I q (by simp))
    | int j => obtain ⟨t', rfl⟩ := ry; exact PySem.EqMixed.eq_str_int (fin_bl I q (by simp))
    | str j => obtain ⟨t', rfl⟩ := ry; exact eq_str (fin_bl I q dec_str)
    | _ => exact absurd (show false = true from hs) Bool.false_ne_true
  | byt i =>
    obtain ⟨t, rfl⟩ := rx
    cases y with
    | byt j => obtain ⟨t', rfl⟩ := ry; exact PySem.W.eq_bytes (fin_bl I q dec_byt)
    | _ => exact absurd (show false = true from hs) Bool.false_ne_true
  | _ => cases y <;> exact absurd (show false = true from hs) Bool.false_ne_true
theorem op_ne : OpR X (compareOp .NotEq) rNe := by
  intro pins s σ H x y v u Q I rx ry h
  obtain ⟨hs, q⟩ := h
  cases x with
  | non =>
    cases rx
    cases y with
    | non => cases ry; exact PySem.EqNone.ne_none_none (fin_bl I q (by simp))
    | bl j => cases ry; exact PySem.EqNone.ne_none_bool (fin_bl I q (by simp))
    | int j => obtain ⟨t', rfl⟩ := ry; exact PySem.EqNone.ne_none_int (fin_bl I q (by simp))
    | str j => obtain ⟨t', rfl⟩ := ry; exact PySem.EqNone.ne_none_str (fin_bl I q (by simp))
    | _ => exact absurd (show false = true from hs) Bool.false_ne_true
  | bl i =>
    cases rx
    cases y with
    | non => cases ry; exact PySem.EqNone.ne_bool_none (fin_bl I q (by simp))
    | bl j => cases ry; exact ne_bool (fin_bl I q (congrArg not dec_bl))
    | str j => obtain ⟨t', rfl⟩ := ry; exact PySem.EqMixed.ne_bool_str (fin_bl I q (by simp))
    | _ => exact absurd (show false = true from hs) Bool.false_ne_true
  | int i =>
    obtain ⟨t, rfl⟩ := rx
    cases y with
    | non => cases ry; exact PySem.EqNone.ne_int_none (fin_bl I q (by simp))
    | int j => obtain ⟨t', rfl⟩ := ry; exact ne_int (fin_bl I q (congrArg not dec_int))
    | str j => obtain ⟨t', rfl⟩ := ry; exact PySem.EqMixed.ne_int_str (fin_bl I q (by simp))
    | _ => exact absurd (show false = true from hs) Bool.false_ne_true
  | str i =>
    obtain ⟨t, rfl⟩ := rx
    cases y with
    | non => cases ry; exact PySem.EqNone.ne_str_none (fin_bl I q (by simp))
    | bl j => cases ry; exact PySem.EqMixed.ne_str_bool (fin_bl I q (by simp))
    | int j => obtain ⟨t', rfl⟩ := ry; exact PySem.EqMixed.ne_str_int (fin_bl I q (by simp))
    | str j => obtain ⟨t', rfl⟩ := ry; exact ne_str (fin_bl I q (congrArg not dec_str))
    | _ => exact absurd (show false = true from hs) Bool.false_ne_true
  | byt i =>
    obtain ⟨t, rfl⟩ := rx
    cases y with
    | byt j => obtain ⟨t', rfl⟩ := ry; exact PySem.W.ne_bytes (fin_bl I q (congrArg not dec_byt))
    | _ => exact absurd (show false = true from hs) Bool.false_ne_true
  | _ => cases y <;> exact absurd (show false = true from hs) Bool.false_ne_true

theorem op_lt : OpR X (compareOp .Lt) (rI0 fun i j => .bl (decide (i < j))) := opB0 fun _ _ _ _ _ _ _ q => lt_int q
theorem op_le : OpR X (compareOp .LtE) (rI0 fun i j => .bl (decide (i ≤ j))) := opB0 fun _ _ _ _ _ _ _ q => le_int q
theorem op_gt : OpR X (compareOp .Gt) (rI0 fun i j => .bl (decide (j < i))) := opB0 fun _ _ _ _ _ _ _ q => gt_int q
theorem op_ge : OpR X (compareOp .GtE) (rI0 fun i j => .bl (decide (j ≤ i))) := opB0 fun _ _ _ _ _ _ _ q => ge_int q
/-- two rules for one operation: by cases -/
theorem OpR.or {f : Value → Value → Sem Value} {r r' : R2} (h : OpR X f r) (h' : OpR X f r') : OpR X f (fun x y H Q => r x y H Q ∨ r' x y H Q) := by
  intro pins s σ H x y v u Q I rx ry q
  rcases q with q | q
  · exact h pins s σ H x y v u Q I rx ry q
  · exact h' pins s σ H x y v u Q I rx ry q

theorem nomark (b : Expr) {op : CmpOp} (h : op ≠ .In := by decide) (h2 : op ≠ .NotIn := by decide) : behindInMarks op b = false := by
  have e1 : (op == CmpOp.In) = false := by cases op <;> first | rfl | exact absurd rfl h
  have e2 : (op == CmpOp.NotIn) = false := by cases op <;> first | rfl | exact absurd rfl h2
  cases b <;> simp [behindInMarks, e1, e2]
/-- a reading of a value as a test -/
noncomputable def tTest (t : TE) : TT := fun σ H Q => t σ H fun x H' => ∃ k, x = .bl k ∧ Q k H'
theorem pt_cmpR {op : CmpOp} {r : R2} (ho : OpR X (compareOp op) r) (ha : PE X a ta) (hb : PE X b tb) (hm : behindInMarks op b = false) : PT X (.Compare a [op] [b] pos) (tTest (tOp r ta tb)) := by
  intro pins s σ H Q I h
  refine wpAny_isTrue_Compare1 (thn (ha pins s σ H _ I h) fun v s1 ⟨x, H1, I1, r1, q1⟩ => thn (hb pins s1 σ H1 _ I1 q1) fun u s2 ⟨y, H2, I2, r2, q2⟩ =>
    thn (ho pins s2 σ H2 x y v u _ I2 r1 r2 q2) fun c s3 ⟨z, H3, I3, r3, k, e, q3⟩ => ?_) hm
  subst e
  cases r3
  exact wpAny_truthy_bool ⟨H3, I3, q3⟩
/-! ### truth -/
/-- a value's truth by the abstract heap -/
noncomputable def TruV (K : PySem.W.Frag) (x : V) (H : Hp) (k : Bool) : Prop :=
  match x with
  | .non => k = false
  | .bl b => k = b
  | .int i => k = (i != 0)
  | .str y => y.length ≤ sizeLine ∧ k = ((y.length : Int) != 0)
  | .byt y => y.size ≤ sizeLine ∧ k = ((y.size : Int) != 0)
  | .ref p => (∃ xs, SqL K H p xs ∧ k = !xs.isEmpty) ∨ (∃ xs, SqT K H p xs ∧ k = !xs.isEmpty) ∨ ∃ kvs, H p = some (.dK kvs) ∧ k = !kvs.isEmpty
  | _ => False
theorem isEmpty_kv {κ : Type} {kvs : List (κ × V)} {vs : List (κ × Value)} (r : KV kvs vs) : (!vs.isEmpty) = !kvs.isEmpty := by
  cases r <;> rfl
theorem isEmpty_of {xs : List V} {its : List Value} (r : Vals xs its) : (!its.toArray.isEmpty) = !xs.isEmpty := by
  cases r <;> simp
theorem line63 : (sizeLine : Nat) < 2 ^ 63 := by rw [sizeLine_eq]; decide
theorem tru_ok : TruR X (fun x H Q => ∃ k, TruV X.K x H k ∧ Q k H) := by
  intro pins s σ H x v Q I rx h
  obtain ⟨k, e, q⟩ := h
  have hl := line63
  have hs : sizeLine = 16777216 := sizeLine_eq
  cases x with
  | non =>
    cases rx
    have e' : k = false := e
    subst e'
    exact truthy_none ⟨H, I, q⟩
  | bl b =>
    cases rx
    have e' : k = b := e
    subst e'
    exact wpAny_truthy_bool ⟨H, I, q⟩
  | int i =>
    obtain ⟨t, rfl⟩ := rx
    have e' : k = (i != 0) := e
    subst e'
    exact PySem.P.truthy_int ⟨H, I, q⟩
  | str y =>
    obtain ⟨t, rfl⟩ := rx
    obtain ⟨hy, e'⟩ : y.length ≤ sizeLine ∧ k = ((y.length : Int) != 0) := e
    subst e'
    exact PySem.P.truthy_str (by omega) ⟨H, I.tok _, q⟩
  | byt y =>
    obtain ⟨t, rfl⟩ := rx
    obtain ⟨hy, e'⟩ : y.size ≤ sizeLine ∧ k = ((y.size : Int) != 0) := e
    subst e'
    exact PySem.W.truthy_bytes (by omega) ⟨H, I.tok _, q⟩
  | ref p =>
    cases rx
    have e' : (∃ xs, SqL X.K H p xs ∧ k = !xs.isEmpty) ∨ (∃ xs, SqT X.K H p xs ∧ k = !xs.isEmpty) ∨ ∃ kvs, H p = some (.dK kvs) ∧ k = !kvs.isEmpty := e
    rcases e' with ⟨xs, hx, e'⟩ | ⟨xs, hx, e'⟩ | ⟨kvs, hx, e'⟩
    · subst e'
      obtain ⟨its, r, pl, hz⟩ := I.list hx
      have hlen := r.length
      exact wpAny_truthy_list pl.isList (by simp only [List.size_toArray]; omega) ⟨H, I.tok _, by rw [isEmpty_of r]; exact q⟩
    · subst e'
      obtain ⟨its, r, pl, hz⟩ := I.tuple hx
      have hlen := r.length
      exact truthy_tuple pl (by simp only [List.size_toArray]; omega) ⟨H, I.tok _, by rw [isEmpty_of r]; exact q⟩
    · subst e'
      obtain ⟨hz, hS, vs, r, m⟩ : kvs.length ≤ sizeLine ∧ (p == sysModules) = false ∧ ∃ vs, KV kvs vs ∧ s.heap.DictOf (mixKind X.prog X.w) p vs := I.hok p _ hx
      have hlen : kvs.length = vs.length := Paired.length r
      exact wpAny_truthy_dict hS m (by omega) ⟨H, I.tok _, by rw [isEmpty_kv r]; exact q⟩
  | _ => exact (show False from e).elim
/-- any expression whose test is its value's truth (a name, a call, a subscript, a field ..: he by fun _ => rfl) -/
theorem pt_truth (ha : PE X a ta) (he : ∀ whole, isTrue a X.env whole = (do let v ← whole; standAt a.pos; holding [v] (truthy v))) :
    PT X a (fun σ H Q => ta σ H fun x H' => ∃ k, TruV X.K x H' k ∧ Q k H') := by
  intro pins s σ H Q I h
  exact isTrue_plain (thn (ha pins s σ H _ I h) fun v s1 ⟨x, H1, I1, r1, q1⟩ => tru_ok pins s1 σ H1 x v Q I1 r1 q1) (he _)

/-! ### strs and bytes -/
/-! ### scalar builtins, by CallR -/
theorem vals1 {x : V} {us : List Value} (r : Vals [x] us) : ∃ u, us = [u] ∧ RelV x u := by
  cases r with
  | cons r1 r2 => cases r2; exact ⟨_, rfl, r1⟩
theorem vals2 {x y : V} {us : List Value} (r : Vals [x, y] us) : ∃ u w', us = [u, w'] ∧ RelV x u ∧ RelV y w' := by
  cases r with
  | cons r1 r2 =>
    cases r2 with
    | cons r3 r4 => cases r4; exact ⟨_, _, rfl, r1, r3⟩
theorem call_max2 (hc : X.calm = true) : CallR X (.builtin "max") (fun xs H Q => ∃ i j, xs = [.int i, .int j] ∧ Q (.int (if j > i then j else i)) H) := by
  intro pins s σ H xs us Q I r h
  obtain ⟨i, j, rfl, q⟩ := h
  obtain ⟨u, w', rfl, ⟨t, rfl⟩, ⟨t', rfl⟩⟩ := vals2 r
  refine max_two_ints (I.ok.hd hc) fun h' tk k => ⟨_, H, I.kept k, ?_, q⟩
  by_cases hj : j > i
  · rw [if_pos hj, if_pos hj]; exact ⟨_, rfl⟩
  · rw [if_neg hj, if_neg hj]; exact ⟨_, rfl⟩
end
end L2

namespace L2
open PySem PySem.Spec PyProof.Rows

/-! ### an instance, its attributes a map -/
structure ObjM (h : Heap) (x dx C : Addr) (mA : Str → Option Value) : Prop where
  obj : h.get? x = some (PySem.W.instObj C dx)
  ns : h.Ns1 dx mA
  ne : dx ≠ x

theorem lookIn_ns {h : Heap} {dx : Addr} {mA : Str → Option Value} (n : h.Ns1 dx mA) : ∃ od, h.get? dx = some od ∧ ∀ name, PySem.W.lookIn name od = some (mA name) := by
  obtain ⟨o, es, ep, ho, hd, hk, _, hm⟩ := n
  refine ⟨o, ho, fun name => ?_⟩
  have e := hm name
  unfold nsFind findBy at e
  rw [← Array.find?_toList] at e
  unfold PySem.W.lookIn
  rw [hd]
  dsimp only
  split
  · rename_i y q
    rw [q] at e
    exact congrArg some e
  · rename_i q
    rw [q] at e
    have a : es.toList.any (·.refKey) = false := by
      rw [List.any_eq_false]
      intro y hy
      obtain ⟨z, t, hkey⟩ := hk y (Array.mem_toList_iff.mp hy)
      simp [DictEntry.refKey, hkey]
    have a' : ¬ es.toList.any (·.refKey) = true := by rw [a]; exact Bool.false_ne_true
    rw [if_neg a']
    exact congrArg some e

theorem ObjM.look {h : Heap} {x dx C : Addr} {mA : Str → Option Value} (I : ObjM h x dx C mA) : ∃ od, PySem.W.InstAt h x (PySem.W.instObj C dx) C (some od) ∧ ∀ name, PySem.W.lookIn name od = some (mA name) :=
  let ⟨od, ho, hl⟩ := lookIn_ns I.ns
  ⟨od, ⟨I.obj, rfl, rfl, ho⟩, hl⟩

section
variable {prog : Program} {w : World} {A : Around} {E : Value → Shared → Prop} {s : Shared} {K : PySem.W.Frag} {x dx C f : Addr} {mA : Str → Option Value} {name : Str} {v : Value}

theorem get_map {expr : Bool} {Q : Value → Shared → Prop} (X : K.In s.heap) (I : ObjM s.heap x dx C mA) (hg : PySem.W.plainGet K C name = true) (hh : PySem.W.hasDictIn K C = true)
    (ha : PySem.W.findIn K (.ref C) name = some none) (hv : mA name = some v) (hv' : PySem.W.handedIn v = true) (h : Q v { s with toks := s.toks + 1 }) :
    wpAny (model prog w) A (getAttr (.ref x) name expr) Q E s := by
  obtain ⟨od, J, hl⟩ := I.look
  exact PySem.W.get_value X J (PySem.W.plainGet_of hg).1 (PySem.W.findObj_own hh ha rfl (by rw [hl, hv])) hv' h

theorem get_meth {pl : Sem Bool} {Q : Value × List Value → Shared → Prop} (X : K.In s.heap) (I : ObjM s.heap x dx C mA) (hg : PySem.W.plainGet K C name = true)
    (hf : PySem.W.findIn K (.ref C) name = some (some (.ref f))) (ht : PySem.W.isFn K (.ref f) = true) (hv : mA name = none) (h : Q (.ref f, [.ref x]) s) :
    wpAny (model prog w) A (getMethod (.ref x) name pl) Q E s := by
  obtain ⟨od, J, hl⟩ := I.look
  exact PySem.W.method_fn X J (PySem.W.plainGet_of hg).1 (PySem.W.plainGet_of hg).2 hf (beq_iff_eq.mp ht) (by show (PySem.W.lookIn name od).map (·.isSome) = some false; rw [hl, hv]; rfl) h

theorem set_map {ns : List Str} {Q : Unit → Shared → Prop} (X : K.In s.heap) (I : ObjM s.heap x dx C mA)
    (hs : PySem.W.findIn K (.ref C) "__setattr__" = some (some (.builtin "object.__setattr__"))) (hp : PySem.W.plainOver K C = true) (ht : PySem.W.takerIn K C name = some none) (hh : PySem.W.hasDictIn K C = true)
    (hw : PySem.Within mA ns) (hsz : ns.length ≤ sizeLine)
    (h : ∀ h', ObjM h' x dx C (fun y => if y = name then some v else mA y) → Heap.SameBut dx s.heap h' → Q () { s with heap := h', toks := s.toks + 2 }) :
    wpAny (model prog w) A (setAttr (.ref x) name v) Q E s := by
  obtain ⟨od, J, hl⟩ := I.look
  refine PySem.W.set_plain X J hs (PySem.W.osa_open (s := { s with toks := s.toks + 1 }) (r := none) X J hp ht fun b => ?_)
  obtain ⟨cd, hc, hd'⟩ := PySem.W.any_some hh
  have hx : s.heap.get? x = some ⟨.ref C, some dx, .plain, #[]⟩ := I.obj
  refine wpAny_bind (wpAny_pure (wpAny_bind (wpAny_bind (wpAny_loadPart hx (wpAny_bind (PySem.W.Looks.here (s := { s with toks := s.toks + 1 }) (PySem.W.looks_clsIn X hc) ?_))))))
  rw [hd']
  refine wpAny_pure (a := some dx) (wpAny_bind (wpAny_pure (wpAny_bind ?_)))
  refine wpAny_nsSet1 (s := { s with toks := s.toks + 1 }) I.ns fun h' hn2 hs2 => ?_
  obtain ⟨oD, esD, epD, hoD, hdD, hcD⟩ := hn2.count (PySem.Within.cons name v hw)
  refine wpAny_bind (wpAny_lookBehind hoD (by rw [hdD]; exact pastItsLine_dict (Nat.le_trans hcD (by rw [List.length_cons]; omega))) ?_)
  exact wpAny_pure (h _ ⟨(hs2.2 _ (Ne.symm I.ne)).trans I.obj, hn2, I.ne⟩ hs2)

/-- C(..): the dict at the heap's end, the instance behind it; then its __init__ -/
theorem make_map {R : Result → Shared → Prop} {vs : List Value} {kw : List (Str × Value)} (X : K.In s.heap) (hm : PySem.W.makesIn K C = true)
    (hi : PySem.W.findIn K (.ref C) "__init__" = some (some (.ref f))) (hf : PySem.W.typeIn K (.ref f) = some (.type "function"))
    (h : codeAny (model prog w) (A.under (.builtin "type.__call__" ⟨.ref C :: vs, kw⟩)) (.call (.ref f) ⟨.ref (s.heap.objs.size + 1) :: vs, kw⟩) (PySem.W.InitBack (s.heap.objs.size + 1) R)
      { s with heap := (s.heap.push PySem.W.emptyDict).push (PySem.W.instObj C s.heap.objs.size) }) :
    codeAny (model prog w) A (.call (.ref C) ⟨vs, kw⟩) R s := by
  obtain ⟨hh, g, d, t, os⟩ := s
  exact PySem.W.make_core (PySem.W.makes_of X hm) (PySem.W.looks_findIn X hi) (fun self => PySem.W.bind_fn X self hf) (.inl rfl) h
end

/-! ### the attributes as a list of pairs -/
noncomputable def putF (f : Str) (v : V) : List (Str × V) → List (Str × V)
  | [] => [(f, v)]
  | (g, x) :: r => if g = f then (g, v) :: r else (g, x) :: putF f v r
theorem lookup_putF (f g : Str) (v : V) : ∀ fs : List (Str × V), (putF f v fs).lookup g = if g = f then some v else fs.lookup g
  | [] => by
    show List.lookup g [(f, v)] = _
    by_cases h : g = f
    · have hb : (g == f) = true := beq_iff_eq.mpr h
      simp only [List.lookup, hb, if_pos h]
    · have hb : (g == f) = false := beq_eq_false_iff_ne.mpr h
      simp only [List.lookup, hb, if_neg h]
  | (k, x) :: r => by
    have ih := lookup_putF f g v r
    rw [show putF f v ((k, x) :: r) = (if k = f then (k, v) :: r else (k, x) :: putF f v r) from rfl]
    by_cases hk : k = f
    · rw [if_pos hk]
      by_cases h : g = k
      · have hb : (g == k) = true := beq_iff_eq.mpr h
        simp only [List.lookup, hb, if_pos (h.trans hk)]
      · have hb : (g == k) = false := beq_eq_false_iff_ne.mpr h
        simp only [List.lookup, hb, if_neg (fun e : g = f => h (e.trans hk.symm))]
    · rw [if_neg hk]
      by_cases h : g = k
      · have hb : (g == k) = true := beq_iff_eq.mpr h
        simp only [List.lookup, hb, if_neg (fun e : g = f => hk (h.symm.trans e))]
      · have hb : (g == k) = false := beq_eq_false_iff_ne.mpr h
        simp only [List.lookup, hb]
        exact ih
theorem keys_putF (f : Str) (v : V) : ∀ fs : List (Str × V), f ∈ (putF f v fs).map (·.1) ∧ ∀ g, g ∈ fs.map (·.1) → g ∈ (putF f v fs).map (·.1)
  | [] => ⟨by simp [putF], fun g h => by simp at h⟩
  | (k, x) :: r => by
    obtain ⟨i1, i2⟩ := keys_putF f v r
    rw [show putF f v ((k, x) :: r) = (if k = f then (k, v) :: r else (k, x) :: putF f v r) from rfl]
    by_cases hk : k = f
    · rw [if_pos hk]
      subst hk
      exact ⟨by simp, fun g h => by simpa using h⟩
    · rw [if_neg hk]
      refine ⟨?_, fun g h => ?_⟩
      · rw [List.map_cons]
        exact List.mem_cons_of_mem _ i1
      · rw [List.map_cons] at h ⊢
        rcases List.mem_cons.mp h with e | e
        · exact List.mem_cons.mpr (.inl e)
        · exact List.mem_cons_of_mem _ (i2 g e)
theorem length_putF (f : Str) (v : V) : ∀ fs : List (Str × V), (putF f v fs).length ≤ fs.length + 1
  | [] => by simp [putF]
  | (k, x) :: r => by
    have ih := length_putF f v r
    rw [show putF f v ((k, x) :: r) = (if k = f then (k, v) :: r else (k, x) :: putF f v r) from rfl]
    by_cases hk : k = f
    · rw [if_pos hk, List.length_cons, List.length_cons]; omega
    · rw [if_neg hk, List.length_cons, List.length_cons]; omega

theorem RelO.some_of {v : V} {o : Option Value} (r : RelO (some v) o) : ∃ u, o = some u ∧ RelV v u := by
  cases o with
  | none => exact (show False from r).elim
  | some u => exact ⟨u, rfl, r⟩
theorem RelO.none_of {o : Option Value} (r : RelO none o) : o = none := by
  cases o with
  | none => rfl
  | some u => exact (show False from r).elim
theorem handed_of {v : V} {u : Value} (r : RelV v u) : PySem.W.handedIn u = true := by
  cases v with
  | non => cases (show u = Value.none from r); rfl
  | bl b => cases (show u = Value.bool b from r); rfl
  | int i => obtain ⟨t, e⟩ := (show ∃ t, u = Value.int i t from r); cases e; rfl
  | str x => obtain ⟨t, e⟩ := (show ∃ t, u = Value.str x t from r); cases e; rfl
  | byt b => obtain ⟨t, e⟩ := (show ∃ t, u = Value.bytes b t from r); cases e; rfl
  | flt b => obtain ⟨t, e⟩ := (show ∃ t, u = Value.float b t from r); cases e; rfl
  | ref a => cases (show u = Value.ref a from r); rfl
  | ty n => cases (show u = Value.type n from r); rfl

section
variable {P : Program} {w : World} {H H' : Hp} {h h' : Heap} {a C dx : Addr} {fs fs' : List (Str × V)}
theorem ins_get (hok : HOk P w H h) (e : H a = some (.ins C dx fs)) : ∃ mA, ObjM h a dx C mA ∧ (∀ f, RelO (fs.lookup f) (mA f)) ∧ PySem.Within mA (fs.map (·.1)) ∧ fs.length ≤ 1000 ∧ H dx = some (.own a) := by
  obtain ⟨d, z, ne, ob, mA, n, r, q⟩ := (show ObjOk P w H h a (.ins C dx fs) from hok a _ e)
  exact ⟨mA, ⟨ob, n, ne⟩, r, q, z, d⟩
end

/-! ### what of the text a class must have -/
structure Cls (K : PySem.W.Frag) (C : Addr) : Prop where
  pg : PySem.W.plainGet K C Str.empty = true
  hd : PySem.W.hasDictIn K C = true
  po : PySem.W.plainOver K C = true
  sa : PySem.W.findIn K (.ref C) "__setattr__" = some (some (.builtin "object.__setattr__"))
theorem Cls.get {K : PySem.W.Frag} {C : Addr} (c : Cls K C) (f : Str) : PySem.W.plainGet K C f = true := c.pg
/-- no class of it has the name -/
noncomputable def NoAttr (K : PySem.W.Frag) (C : Addr) (f : Str) : Prop := PySem.W.findIn K (.ref C) f = some none
theorem NoAttr.taker {K : PySem.W.Frag} {C : Addr} {f : Str} (n : NoAttr K C f) : PySem.W.takerIn K C f = some none := by
  unfold PySem.W.takerIn
  rw [show PySem.W.findIn K (.ref C) f = some none from n]
  rfl
/-- a method: a plain def of the class or of one above it -/
structure Meth (K : PySem.W.Frag) (C : Addr) (m : Str) (f : Addr) : Prop where
  at_ : PySem.W.findIn K (.ref C) m = some (some (.ref f))
  fn : PySem.W.isFn K (.ref f) = true
  kp : PySem.W.keepIn K (.ref f) = true

section
variable {X : Cx} {pins : List (Addr × Obj)} {σ : St} {H : Hp} {s : Shared} {a C dx : Addr} {fs : List (Str × V)} {f : Str} {v : V} {A : Around} {E : Value → Shared → Prop}

theorem getattr_ok {b : Bool} {Q : Value → Shared → Prop} (I : Inv X pins σ H s) (e : H a = some (.ins C dx fs)) (c : Cls X.K C) (n : NoAttr X.K C f) (l : fs.lookup f = some v)
    (h : ∀ u s', Inv X pins σ H s' → RelV v u → Q u s') : wpAny (model X.prog X.w) A (getAttr (.ref a) f b) Q E s := by
  obtain ⟨mA, O, r, _, _, _⟩ := ins_get I.hok e
  obtain ⟨u, hu, ru⟩ := RelO.some_of (v := v) (o := mA f) (by rw [← l]; exact r f)
  exact get_map I.kIn O (c.get f) c.hd n hu (handed_of ru) (h u _ (I.tok _) ru)

theorem getmeth_ok {m : Str} {g : Addr} {pl : Sem Bool} {Q : Value × List Value → Shared → Prop} (I : Inv X pins σ H s) (e : H a = some (.ins C dx fs)) (c : Cls X.K C) (k : Meth X.K C m g) (l : fs.lookup m = none)
    (h : Q (.ref g, [.ref a]) s) : wpAny (model X.prog X.w) A (getMethod (.ref a) m pl) Q E s := by
  obtain ⟨mA, O, r, _, _, _⟩ := ins_get I.hok e
  have hn : mA m = none := RelO.none_of (by rw [← l]; exact r m)
  exact get_meth I.kIn O (c.get m) k.at_ k.fn hn h

theorem setattr_ok {y : V} {u : Value} {Q : Unit → Shared → Prop} (I : Inv X pins σ H s) (e : H a = some (.ins C dx fs)) (c : Cls X.K C) (n : NoAttr X.K C f) (hl : fs.length < 1000) (ry : RelV y u)
    (h : ∀ s', Inv X pins σ (upd H a (.ins C dx (putF f y fs))) s' → Q () s') : wpAny (model X.prog X.w) A (setAttr (.ref a) f u) Q E s := by
  obtain ⟨mA, O, r, wi, _, ho⟩ := ins_get I.hok e
  have hz : (fs.map (·.1)).length ≤ sizeLine := by rw [List.length_map, sizeLine_eq]; omega
  refine set_map I.kIn O c.sa c.po n.taker c.hd wi hz fun h' O' sb => h _ ?_
  have hd : ∃ o, h'.get? dx = some o := let ⟨o, _, _, e', _⟩ := O'.ns; ⟨o, e'⟩
  refine I.write (x := a) (e := dx) (by rw [e]; exact True.intro) (.inr ho) (fun b q hb z => (sb.2 b hb).trans z) hd ?_
  refine ⟨by rw [upd_ne O.ne]; exact ho, ?_, O.ne, O'.obj, _, O'.ns, fun g => ?_, fun g hg => ?_⟩
  · have := length_putF f y fs; omega
  · show RelO ((putF f y fs).lookup g) (if g = f then some u else mA g)
    rw [lookup_putF]
    by_cases q : g = f
    · rw [if_pos q, if_pos q]; exact ry
    · rw [if_neg q, if_neg q]; exact r g
  · by_cases q : g = f
    · rw [q]; exact (keys_putF f y fs).1
    · refine (keys_putF f y fs).2 g (wi g fun z => hg ?_)
      show (if g = f then some u else mA g) = none
      rw [if_neg q]; exact z

/-- a new instance, tracked, without attributes -/
theorem Inv.made (I : Inv X pins σ H s) : Inv X pins σ (upd (upd H s.heap.objs.size (.own (s.heap.objs.size + 1))) (s.heap.objs.size + 1) (.ins C s.heap.objs.size []))
    { s with heap := (s.heap.push PySem.W.emptyDict).push (PySem.W.instObj C s.heap.objs.size) } := by
  have e1 : (s.heap.push PySem.W.emptyDict).get? s.heap.objs.size = some PySem.W.emptyDict := Heap.get?_push_size s.heap rfl
  have e2 : ((s.heap.push PySem.W.emptyDict).push (PySem.W.instObj C s.heap.objs.size)).get? (s.heap.objs.size + 1) = some (PySem.W.instObj C s.heap.objs.size) := by
    have := Heap.get?_push_size (s.heap.push PySem.W.emptyDict) (o := PySem.W.instObj C s.heap.objs.size) rfl
    rwa [Heap.size_push] at this
  have e3 : (s.heap.push PySem.W.emptyDict).Ns s.heap.objs.size (fun _ => none) := ⟨PySem.W.emptyDict, #[], _, e1, rfl, (fun e he => absurd he (by simp)), fun _ => rfl⟩
  have I1 := I.laid (a := s.heap.objs.size) (o := .own (s.heap.objs.size + 1)) (h' := s.heap.push PySem.W.emptyDict) (t' := s.toks) (fun b u q => Heap.get?_push_of_some _ q) (Nat.le_refl _) ⟨_, e1⟩
  refine I1.laid (a := s.heap.objs.size + 1) (o := .ins C s.heap.objs.size []) (t' := s.toks) (fun b u q => Heap.get?_push_of_some _ q) (Nat.le_of_eq (Heap.size_push _ _)) ?_
  have ne : s.heap.objs.size ≠ s.heap.objs.size + 1 := Nat.ne_of_lt (Nat.lt_succ_self _)
  refine ⟨by rw [upd_ne ne, upd_same], Nat.zero_le _, ne, e2, fun _ => none, (Heap.Ns1.of_empty e3).at fun o q => Heap.get?_push_of_some _ q, fun _ => True.intro, fun y hy => absurd rfl hy⟩

/-- e.f where nothing but the object is asked: through attributeBase (super) and the last hold -/
theorem attr_of {prog : Program} {w : World} {env : Env} {e : Expr} {f : Str} {pos : Pos} {s : Shared} {Q : Value → Shared → Prop} (hb : attributeBase e f env (eval e env) = eval e env)
    (h : wpAny (model prog w) A (eval e env) (fun o s₁ => wpAny (model prog w) A (getAttr o f true) Q E s₁) E s) : wpAny (model prog w) A (eval (.Attribute e f pos) env) Q E s :=
  Attribute_any_ h (by rw [arm_eval_Attribute, hb])
end

/-! ### readings and rules -/
/-- e.f, an attribute of the instance -/
noncomputable def tFld (K : PySem.W.Frag) (ta : TE) (f : Str) : TE := fun σ H Q => ta σ H fun x H1 => ∃ a C dx fs v, x = .ref a ∧ H1 a = some (.ins C dx fs) ∧ Cls K C ∧ NoAttr K C f ∧ fs.lookup f = some v ∧ Q v H1
/-- e.f = value -/
noncomputable def sFld (K : PySem.W.Frag) (ta tv : TE) (f : Str) : TS := fun D σ H => tv σ H fun y H1 => ta σ H1 fun x H2 => ∃ a C dx fs, x = .ref a ∧ H2 a = some (.ins C dx fs) ∧ Cls K C ∧ NoAttr K C f ∧ fs.length < 1000 ∧
  D.nx σ (upd H2 a (.ins C dx (putF f y fs)))
section
variable {X : Cx} {o e value : Expr} {f : Str} {pos pos' tpos : Pos} {ta tv : TE}
theorem pe_fld (he : PE X e ta) (hb : attributeBase e f X.env (eval e X.env) = eval e X.env) : PE X (.Attribute e f pos) (tFld X.K ta f) := by
  intro pins s σ H Q I h
  refine attr_of hb (thn (he pins s σ H _ I h) fun u s1 ⟨x, H1, I1, rx, a, C, dx, fs, v, ex, ea, c, n, l, q⟩ => ?_)
  subst ex
  obtain rfl : u = Value.ref a := rx
  exact getattr_ok I1 ea c n l fun u' s2 I2 ru => ⟨v, H1, I2, ru, q⟩
theorem ps_fld (ha : PE X o ta) (hv : PE X value tv) (hs : swapsWith value (some (.Attribute o f pos')) pos.line X.env = pure false) : PS X (.Assign [.Attribute o f pos'] value pos) (sFld X.K ta tv f) := by
  intro pins s σ H D I h
  refine plainObj_wpAny_Assign_Attribute (thn (hv pins s σ H _ I h) fun u s1 ⟨y, H1, I1, ry, q⟩ => thn (ha pins s1 σ H1 _ I1 q) fun ov s2 ⟨x, H2, I2, rx, a, C, dx, fs, ex, ea, c, n, l, q2⟩ => ?_) hs
  subst ex
  obtain rfl : ov = Value.ref a := rx
  exact setattr_ok I2 ea c n l ry fun s3 I3 => ⟨σ, _, I3, q2⟩
end

/-! ### isinstance -/
section
variable {X : Cx} {pins : List (Addr × Obj)} {σ : St} {H : Hp} {s : Shared} {A : Around} {E : Value → Shared → Prop} {Q : Value → Shared → Prop} {c : Value} {b : Bool}
/-- the type of a value, as the fragment's deciders take it; for an instance its class -/
inductive TyOf (K : PySem.W.Frag) (H : Hp) : V → Value → Prop where
  | non : TyOf K H .non (.type "NoneType")
  | bl (x : Bool) : TyOf K H (.bl x) (.type "bool")
  | int (i : Int) : TyOf K H (.int i) (.type "int")
  | str (x : Str) : TyOf K H (.str x) (.type "str")
  | flt (x : UInt64) : TyOf K H (.flt x) (.type "float")
  | lst {a : Addr} {xs : List V} (e : H a = some (.lst xs)) : TyOf K H (.ref a) (.type "list")
  | frz {a : Addr} {o : Obj} {xs : List V} (e : H a = some (.frz o (.lst xs))) : TyOf K H (.ref a) (.type "list")
  | tup {a : Addr} {xs : List V} (e : H a = some (.tup xs)) : TyOf K H (.ref a) (.type "tuple")
  | dK {a : Addr} {kvs : List (Key × V)} (e : H a = some (.dK kvs)) : TyOf K H (.ref a) (.type "dict")
  | dT {a : Addr} {kvs : List (List Key × V)} (e : H a = some (.dT kvs)) : TyOf K H (.ref a) (.type "dict")
  | ins {a C dx : Addr} {fs : List (Str × V)} (e : H a = some (.ins C dx fs)) (cl : Cls K C) (ha : PySem.W.findIn K (.ref C) "__class__" = some (some (.builtin "object.__class__")))
      (hn : PySem.W.specialIn K (.builtin "object.__class__") "__get__" = some (some (.builtin "getset_descriptor.__get__"))) (htk : PySem.W.takesIn K (.builtin "object.__class__") = some true)
      (hm : PySem.W.mroIn K C (.type "object") = some true) : TyOf K H (.ref a) (.ref C)
/-- isinstance(x, c) for one class c, a built-in or an own one: kitOne's answer -/
theorem isinst_ok {x : V} {u t : Value} (I : Inv X pins σ H s) (rx : RelV x u) (ty : TyOf X.K H x t) (e : PySem.W.kitOne X.K t c = some b) (h : ∀ tk, Q (.bool b) { s with toks := tk }) :
    wpAny (model X.prog X.w) A (call (.builtin "isinstance") [u, c]) Q E s := by
  cases ty with
  | non => cases (show u = Value.none from rx); exact PySem.W.kia_one PySem.W.kitx_none I.kIn True.intro e (fun z => nomatch z) h
  | bl y => cases (show u = Value.bool y from rx); exact PySem.W.kia_one PySem.W.kitx_bool I.kIn True.intro e (fun z => nomatch z) h
  | int i => obtain ⟨t, q⟩ := (show ∃ t, u = Value.int i t from rx); cases q; exact PySem.W.kia_one PySem.W.kitx_int I.kIn True.intro e (fun z => nomatch z) h
  | str y => obtain ⟨t, q⟩ := (show ∃ t, u = Value.str y t from rx); cases q; exact PySem.W.kia_one PySem.W.kitx_str I.kIn True.intro e (fun z => nomatch z) h
  | flt y => obtain ⟨t, q⟩ := (show ∃ t, u = Value.float y t from rx); cases q; exact PySem.W.kia_one PySem.W.kitx_float I.kIn True.intro e (fun z => nomatch z) h
  | @lst a xs ea =>
    cases (show u = Value.ref a from rx)
    obtain ⟨_, _, n, _, h1⟩ := (show ObjOk X.prog X.w H s.heap a (.lst xs) from I.hok a _ ea)
    exact PySem.W.kia_one PySem.W.kitx_list I.kIn ⟨_, h1, rfl⟩ e (fun z => nomatch z) h
  | @frz a ob xs ea =>
    cases (show u = Value.ref a from rx)
    obtain ⟨_, _, _, n, _, h1⟩ := (show ObjOk X.prog X.w H s.heap a (.frz ob (.lst xs)) from I.hok a _ ea)
    exact PySem.W.kia_one PySem.W.kitx_list I.kIn ⟨_, h1, rfl⟩ e (fun z => nomatch z) h
  | @tup a xs ea =>
    cases (show u = Value.ref a from rx)
    obtain ⟨_, _, _, p⟩ := (show ObjOk X.prog X.w H s.heap a (.tup xs) from I.hok a _ ea)
    obtain ⟨o, h1, h2, _⟩ := p
    exact PySem.W.kia_one PySem.W.kitx_tuple I.kIn ⟨o, h1, h2⟩ e (fun z => nomatch z) h
  | @dK a kvs ea =>
    cases (show u = Value.ref a from rx)
    obtain ⟨_, _, vs, _, p⟩ := (show ObjOk X.prog X.w H s.heap a (.dK kvs) from I.hok a _ ea)
    obtain ⟨o, es, ep, h1, h2, _⟩ := p
    exact PySem.W.kia_one PySem.W.kitx_dict I.kIn ⟨o, h1, h2.1⟩ e (fun z => nomatch z) h
  | @dT a kvs ea =>
    cases (show u = Value.ref a from rx)
    obtain ⟨_, _, xs, _, o, es, ep, h1, h2, _⟩ := (show ObjOk X.prog X.w H s.heap a (.dT kvs) from I.hok a _ ea)
    exact PySem.W.kia_one PySem.W.kitx_dict I.kIn ⟨o, h1, h2.1⟩ e (fun z => nomatch z) h
  | @ins a C dx fs ea cl ha hn htk hm =>
    cases (show u = Value.ref a from rx)
    obtain ⟨mA, O, _⟩ := ins_get I.hok ea
    obtain ⟨od, J, _⟩ := O.look
    exact PySem.W.kia_one (PySem.W.kitx_own (cl.get _) cl.hd ha hn htk hm) I.kIn J e (fun z => nomatch z) h
end
end L2

namespace L2
open PySem PySem.Spec PyProof.Rows

/-! ### room -/
structure Room (k : Nat) (A : Around) : Prop where
  hd : A.handled = none
  dp : A.depth + 3 * k + 5 < recursionLimit
  un : A.units + 16 * k + 200 < cLine
theorem Room.mono {j k : Nat} {A : Around} (r : Room k A) (h : j ≤ k) : Room j A := ⟨r.hd, by have := r.dp; omega, by have := r.un; omega⟩
theorem Room.deeper {k : Nat} {A : Around} (r : Room (k + 1) A) (env : Env) : Room k (A.deeper env) :=
  ⟨r.hd, by have := r.dp; show A.depth + 1 + 3 * k + 5 < _; omega, by have := r.un; show A.units + 3 + 16 * k + 200 < _; omega⟩
theorem make_depth {A : Around} {C : Addr} {us : List Value} {kw : List (Str × Value)} : (A.under (.builtin "type.__call__" ⟨.ref C :: us, kw⟩)).depth = A.depth + 1 := by
  first | rfl | simp [Around.under, Code.weight, Code.isCreation, Code.isGuard, Code.isCaller, Code.frames, Code.isFrame, guardIds]
theorem make_units {A : Around} {C : Addr} {us : List Value} {kw : List (Str × Value)} : (A.under (.builtin "type.__call__" ⟨.ref C :: us, kw⟩)).units = A.units + 1 := by
  first | rfl | simp [Around.under, Code.cUnits, Code.frames, Code.isFrame]
theorem Room.make {k : Nat} {A : Around} (r : Room (k + 1) A) (C : Addr) (us : List Value) (kw : List (Str × Value)) : Room k (A.under (.builtin "type.__call__" ⟨.ref C :: us, kw⟩)) :=
  ⟨r.hd, by have := r.dp; rw [make_depth]; omega, by have := r.un; rw [make_units]; omega⟩
theorem Room.depth {k : Nat} {A : Around} (r : Room k A) : A.depth < recursionLimit := by have := r.dp; omega
theorem Room.units {k : Nat} {A : Around} (r : Room k A) : A.units + 64 < cLine := by have := r.un; omega
/-! ### argument lists and displays -/
noncomputable def tNil : TA := fun _ H Q => Q [] H
noncomputable def tCons (ta : TE) (tr : TA) : TA := fun σ H Q => ta σ H fun x H1 => tr σ H1 fun xs H2 => Q (x :: xs) H2
section
variable {X : Cx} {e : Expr} {es : List Expr} {te : TE} {t : TA} {pos : Pos}
theorem pa_nil : PA X [] tNil := fun _ _ _ _ H Q I h => Calls.spliced_nil ⟨[], H, I, .nil, h⟩
theorem pa_cons (ha : PE X e te) (hr : PA X es t) (hs : starEach (e :: es) X.env = (false, eval e X.env) :: starEach es X.env := by rfl) : PA X (e :: es) (tCons te t) := by
  intro pos pins s σ H Q I h
  rw [hs]
  show wpAny _ _ (spliced ((false, eval e X.env) :: backTo pos (starEach es X.env))) _ _ s
  refine Calls.spliced_cons (thn (ha pins s σ H _ I h) fun u s1 ⟨x, H1, I1, r1, q1⟩ => ?_)
  exact thn (hr pos pins s1 σ H1 _ I1 q1) fun us s2 ⟨xs, H2, I2, r2, q2⟩ => ⟨x :: xs, H2, I2, .cons r1 r2, q2⟩

/-- a tuple, a list of written items -/
noncomputable def tTup (t : TA) : TE := fun σ H Q => t σ H fun xs H1 => xs.length ≤ sizeLine ∧ ∀ p, H1 p = none → Q (.ref p) (upd H1 p (.tup xs))
noncomputable def tLst (t : TA) : TE := fun σ H Q => t σ H fun xs H1 => xs.length ≤ sizeLine ∧ ∀ p, H1 p = none → Q (.ref p) (upd H1 p (.lst xs))
theorem pe_tup {x1} (h : PA X es t) : PE X (.Tuple es x1 pos) (tTup t) := by
  intro pins s σ H Q I hq
  refine wpAny_Tuple_spliced (thn (h pos pins s σ H _ I hq) fun us s1 ⟨xs, H1, I1, r, z, q⟩ => ⟨by rw [← r.length]; exact z, ?_⟩)
  have hf : H1 s1.heap.objs.size = none := I1.hok.fresh (Nat.le_refl _)
  refine ⟨.ref s1.heap.objs.size, upd H1 s1.heap.objs.size (.tup xs), I1.laid (t' := s1.toks) (fun b u e => Heap.get?_push_of_some _ e) (Nat.le_refl _) ?_, rfl, q _ hf⟩
  exact ⟨z, us, r, ⟨_, Heap.get?_push_size _ rfl, rfl, _, rfl⟩⟩
theorem pe_lst (h : PA X es t) : PE X (.List es pos) (tLst t) := by
  intro pins s σ H Q I hq
  refine wpAny_List_spliced (thn (h pos pins s σ H _ I hq) fun us s1 ⟨xs, H1, I1, r, z, q⟩ => ⟨by rw [← r.length]; exact z, ?_⟩)
  have hf : H1 s1.heap.objs.size = none := I1.hok.fresh (Nat.le_refl _)
  refine ⟨.ref s1.heap.objs.size, upd H1 s1.heap.objs.size (.lst xs), I1.laid (t' := s1.toks) (fun b u e => Heap.get?_push_of_some _ e) (Nat.le_refl _) ?_, rfl, q _ hf⟩
  exact ⟨z, us, 0, r, Heap.get?_push_size _ rfl⟩
end

/-! ### what a def promises -/
/-- a def's promise: the bound arguments in the parameters' order, the heap, the wanted end, the wanted exception -/
noncomputable abbrev Sp := List V → Hp → VK → XK → Prop
/-- how an exception lies behind a call (file 08 gives it): the callers' frames, abstract heap and state ahead of the call, the wish, the exception, the state -/
noncomputable abbrev CXT := List Env → Hp → Shared → XK → Value → Shared → Prop

/-- the state at a call -/
structure Env0 (P : Program) (w : World) (K : PySem.W.Frag) (mg : Str → Option Value) (base : Heap) (A : Around) (outer : List Env) (s : Shared) (H : Hp) : Prop where
  frames : A.frames = some outer
  mod : Mod K mg base
  bs : ∀ b o, base.get? b = some o → s.heap.get? b = some o ∧ H b = none
  bsz : base.objs.size ≤ s.heap.objs.size
  funs : s.heap.FunFrames base outer
  frf : ∀ b ∈ frs outer, H b = none
  hok : HOk P w H s.heap
  bare : AllBare s.gens
/-- a call's end -/
noncomputable def CE (outer : List Env) (P : Program) (w : World) (H : Hp) (s : Shared) (Q : VK) (u : Value) (s' : Shared) : Prop :=
  ∃ v H', s'.os = s.os ∧ AllBare s'.gens ∧ Un (frs outer) [] H H' s.heap s'.heap ∧ HOk P w H' s'.heap ∧ RelV v u ∧ Q v H'
noncomputable def CR (CX : CXT) (outer : List Env) (P : Program) (w : World) (H : Hp) (s : Shared) (Q : VK) (E : XK) (r : Result) (s' : Shared) : Prop :=
  match r with
  | .ok (.ret u) => CE outer P w H s Q u s'
  | .ok _ => False
  | .error e => CX outer H s E e s'
structure FnOk (P : Program) (w : World) (K : PySem.W.Frag) (mg : Str → Option Value) (base : Heap) (CX : CXT) (k : Nat) (f : Addr) (fd : FuncData) (ps : List Str) (sp : Sp) : Prop where
  len : ∀ vs H Q E, sp vs H Q E → vs.length = ps.length
  run : ∀ (A : Around) (outer : List Env) (s : Shared) (H : Hp) (args : Args) (us : List Value) (vs : List V) (Q : VK) (E : XK), Room k A → Env0 P w K mg base A outer s H → BindsTo s fd args (ps.zip us) → Vals vs us → sp vs H Q E →
    codeAny (model P w) A (.call (.ref f) args) (CR CX outer P w H s Q E) s
theorem FnOk.mono {P : Program} {w : World} {K : PySem.W.Frag} {mg : Str → Option Value} {base : Heap} {CX : CXT} {j k : Nat} {f : Addr} {fd : FuncData} {ps : List Str} {sp : Sp} (F : FnOk P w K mg base CX j f fd ps sp) (h : j ≤ k) :
    FnOk P w K mg base CX k f fd ps sp := ⟨F.len, fun A outer s H args us vs Q E hr => F.run A outer s H args us vs Q E (hr.mono h)⟩
/-- a weaker promise -/
theorem FnOk.imp {P : Program} {w : World} {K : PySem.W.Frag} {mg : Str → Option Value} {base : Heap} {CX : CXT} {k : Nat} {f : Addr} {fd : FuncData} {ps : List Str} {sp sp' : Sp} (F : FnOk P w K mg base CX k f fd ps sp)
    (h : ∀ vs H Q E, sp' vs H Q E → sp vs H Q E) : FnOk P w K mg base CX k f fd ps sp' :=
  ⟨fun vs H Q E q => F.len vs H Q E (h _ _ _ _ q), fun A outer s H args us vs Q E hr he hb hv hs => F.run A outer s H args us vs Q E hr he hb hv (h _ _ _ _ hs)⟩

theorem Env0.make {P : Program} {w : World} {K : PySem.W.Frag} {mg : Str → Option Value} {base : Heap} {A : Around} {outer : List Env} {s : Shared} {H : Hp} (e : Env0 P w K mg base A outer s H) (C : Addr) (us : List Value) (kw : List (Str × Value)) :
    Env0 P w K mg base (A.under (.builtin "type.__call__" ⟨.ref C :: us, kw⟩)) outer s H := ⟨by first | exact e.frames | (simpa [Around.under, Code.envs, Code.isFrame, pushEnvs] using e.frames), e.mod, e.bs, e.bsz, e.funs, e.frf, e.hok, e.bare⟩
section
variable {X : Cx} {pins : List (Addr × Obj)} {σ : St} {H : Hp} {s s' : Shared}
/-- from a body: what a callee wants -/
theorem Inv.env0 (I : Inv X pins σ H s) : Env0 X.prog X.w X.K X.mg X.base X.A X.stack s H :=
  ⟨I.ok.frames, I.ok.mod, I.bs, Nat.le_trans I.ok.bsz I.sz, I.stack, I.stkFree, I.hok, I.bare⟩
/-- behind a call -/
theorem Inv.after {Q : VK} {u : Value} (I : Inv X pins σ H s) (h : CE X.stack X.prog X.w H s Q u s') : EP X pins σ Q u s' := by
  obtain ⟨v, H', os, bare, un, hok, r, q⟩ := h
  obtain ⟨hh, g, d, t, os'⟩ := s'
  obtain rfl : os' = s.os := os
  exact ⟨v, H', I.call (h' := hh) (g' := g) (d' := d) (t' := t) (ch := []) un hok bare (fun b z => absurd z (by simp)), r, q⟩
end

/-! ### calls -/
/-- f(..): the written arguments, then the defaults dvs; E: what is wanted of an exception -/
noncomputable def tCall (sp : Sp) (dvs : List V) (E : XK) (t : TA) : TE := fun σ H Q => t σ H fun vs H1 => sp (vs ++ dvs) H1 Q E
/-- o.m(..) of an instance of the class at C -/
noncomputable def tMeth (C : Addr) (m : Str) (sp : Sp) (dvs : List V) (E : XK) (ta : TE) (t : TA) : TE := fun σ H Q => ta σ H fun x H1 => ∃ a dx fs, x = .ref a ∧ H1 a = some (.ins C dx fs) ∧ fs.lookup m = none ∧
  t σ H1 fun vs H2 => sp (x :: (vs ++ dvs)) H2 Q E
/-- C(..): a new instance and its dict, then __init__ -/
noncomputable def tMake (C : Addr) (sp : Sp) (dvs : List V) (E : XK) (t : TA) : TE := fun σ H Q => t σ H fun vs H1 => ∀ x dx, H1 x = none → H1 dx = none → dx ≠ x →
  sp (.ref x :: (vs ++ dvs)) (upd (upd H1 dx (.own x)) x (.ins C dx [])) (fun v H2 => v = .non ∧ Q (.ref x) H2) E

/-- how the parameters are bound: us the positional arguments, kw the keywords' values by name, ds the defaults that fill up -/
noncomputable def Binds (K : PySem.W.Frag) (fd : FuncData) (ps : List Str) (ds : List Value) : Prop :=
  ∀ (s : Shared) (us : List Value), K.In s.heap → (us ++ ds).length = ps.length → BindsTo s fd ⟨us, []⟩ (ps.zip (us ++ ds))
/-- every parameter is given -/
theorem Binds.all {K : PySem.W.Frag} {fd : FuncData} {ps : List Str} (h : ∀ us : List Value, us.length = ps.length → bindArgs fd ⟨us, []⟩ = pure (ps.zip us)) : Binds K fd ps [] := fun s us _ hl => by
  rw [List.append_nil] at hl ⊢
  exact .of_eq (h us hl)

/-- an exception of a callee reaches what this body wants of exceptions -/
noncomputable def Passes (CX : CXT) (X : Cx) (E : XK) : Prop := ∀ (pins : List (Addr × Obj)) (σ : St) (H : Hp) (s : Shared) (e : Value) (s' : Shared), Inv X pins σ H s → CX X.stack H s E e s' → X.xe e s'

section
variable {X : Cx} {CX : CXT} {k : Nat} {f C : Addr} {fd : FuncData} {ps : List Str} {sp : Sp} {dvs : List V} {ds : List Value} {E : XK} {x m : Str} {p pos apos : Pos} {e o : Expr} {es : List Expr} {ta : TE} {t : TA}

/-- the callee runs -/
theorem run_fn {pins : List (Addr × Obj)} {σ : St} {H : Hp} {s : Shared} {Q : VK} {us : List Value} {vs : List V} (F : FnOk X.prog X.w X.K X.mg X.base CX k f fd ps sp) (hr : Room k X.A) (hb : Binds X.K fd ps ds) (hd : Vals dvs ds) (hx : Passes CX X E)
    (I : Inv X pins σ H s) (r : Vals vs us) (h : sp (vs ++ dvs) H Q E) : wpAny (model X.prog X.w) X.A (call (.ref f) us) (EP X pins σ Q) X.xe s := by
  have r2 : Vals (vs ++ dvs) (us ++ ds) := r.append hd
  have hl : (us ++ ds).length = ps.length := by rw [← r2.length]; exact F.len _ _ _ _ h
  refine wpAny_call (codeAny_mono (F.run X.A X.stack s H ⟨us, []⟩ (us ++ ds) (vs ++ dvs) Q E hr I.env0 (hb s us I.kIn hl) r2 h) fun r s' hq => ?_)
  cases r with
  | error e => exact hx pins σ H s e s' I hq
  | ok fl =>
    cases fl with
    | ret u => exact I.after hq
    | next => exact False.elim hq
    | brk => exact False.elim hq
    | cont => exact False.elim hq

theorem pe_call (F : FnOk X.prog X.w X.K X.mg X.base CX k f fd ps sp) (hr : Room k X.A) (hg : Gl X x) (hm : X.mg x = some (.ref f)) (hk : PySem.W.keepIn X.K (.ref f) = true) (hb : Binds X.K fd ps ds) (hd : Vals dvs ds) (hx : Passes CX X E)
    (ha : PA X (e :: es) t) (hdb : (x == ("__debug__" : Str)) = false := by decide) (he : starEach (e :: es) X.env = (false, eval e X.env) :: starEach es X.env := by rfl) (hpl : (backTo pos (starEach es X.env)).any (·.1) = false := by rfl) :
    PE X (.Call (.Name x p) (e :: es) [] pos) (tCall sp dvs E t) := by
  intro pins s σ H Q I h
  refine wpAny_Call_Name_kw (ld_glob I hg hm ?_ hdb)
  refine PySem.W.callWith_K (h₀ := X.base) I.ok.mod.kin hk (thn (ha pos pins s σ H _ I h) fun us s1 ⟨vs, H1, I1, r, q⟩ => ⟨I1.kIn, ?_⟩) he hpl
  exact run_fn F hr hb hd hx I1 r q
/-- o.m(e, ..) -/
theorem pe_meth {pl : Sem Bool} (he : PE X o ta) (c : Cls X.K C) (hm : Meth X.K C m f) (F : FnOk X.prog X.w X.K X.mg X.base CX k f fd ps sp) (hr : Room k X.A) (hb : Binds X.K fd ps ds) (hd : Vals dvs ds) (hx : Passes CX X E) (ha : PA X (e :: es) t)
    (hst : starEach (e :: es) X.env = (false, eval e X.env) :: starEach es X.env := by rfl) (hpl : (backTo pos (starEach es X.env)).any (·.1) = false := by rfl)
    (ht : eval (.Call (.Attribute o m apos) (e :: es) [] pos) X.env = (do
      let ov ← eval o X.env
      standAt apos.atName
      let (f, first) ← holding [ov] (getMethod ov m pl)
      callWith pos f first (backTo pos (starEach (e :: es) X.env)) (backToKw pos (keywordEach [] X.env))) := by rfl) :
    PE X (.Call (.Attribute o m apos) (e :: es) [] pos) (tMeth C m sp dvs E ta t) := by
  intro pins s σ H Q I h
  refine PySem.W.methodCall_KW (pl := pl) (thn (he pins s σ H _ I h) fun u s1 ⟨x, H1, I1, rx, a, dx, fs, ex, ea, l, q⟩ => ?_) ht
  subst ex
  obtain rfl : u = Value.ref a := rx
  refine getmeth_ok I1 ea c hm l ?_
  refine PySem.W.callWith_K (first := [.ref a]) (h₀ := X.base) I.ok.mod.kin hm.kp (thn (ha pos pins s1 σ H1 _ I1 q) fun us s2 ⟨vs, H2, I2, r, q2⟩ => ⟨I2.kIn, ?_⟩) hst hpl
  exact run_fn (us := .ref a :: us) (vs := .ref a :: vs) F hr hb hd hx I2 (.cons rfl r) q2
/-- what a class must have to be made -/
structure Mk (K : PySem.W.Frag) (C f : Addr) : Prop where
  makes : PySem.W.makesIn K C = true
  init : PySem.W.findIn K (.ref C) "__init__" = some (some (.ref f))
  fn : PySem.W.isFn K (.ref f) = true
  kp : PySem.W.keepIn K (.ref C) = true

theorem run_make {pins : List (Addr × Obj)} {σ : St} {H : Hp} {s : Shared} {Q : VK} {us : List Value} {vs : List V} (M : Mk X.K C f) (F : FnOk X.prog X.w X.K X.mg X.base CX k f fd ps sp) (hr : Room (k + 1) X.A) (hb : Binds X.K fd ps ds) (hd : Vals dvs ds)
    (hx : Passes CX X E) (I : Inv X pins σ H s) (r : Vals vs us)
    (h : ∀ x dx, H x = none → H dx = none → dx ≠ x → sp (.ref x :: (vs ++ dvs)) (upd (upd H dx (.own x)) x (.ins C dx [])) (fun v H2 => v = .non ∧ Q (.ref x) H2) E) :
    wpAny (model X.prog X.w) X.A (call (.ref C) us) (EP X pins σ Q) X.xe s := by
  have hq := h (s.heap.objs.size + 1) s.heap.objs.size (I.hok.fresh (Nat.le_succ _)) (I.hok.fresh (Nat.le_refl _)) (Nat.ne_of_lt (Nat.lt_succ_self _))
  have I2 := Inv.made (C := C) I
  have r2 : Vals (V.ref (s.heap.objs.size + 1) :: (vs ++ dvs)) (Value.ref (s.heap.objs.size + 1) :: (us ++ ds)) := .cons rfl (r.append hd)
  have hl : (Value.ref (s.heap.objs.size + 1) :: us ++ ds).length = ps.length := by
    have e := r2.length
    rw [F.len _ _ _ _ hq] at e
    exact e.symm
  refine wpAny_call (make_map (f := f) I.kIn M.makes M.init (beq_iff_eq.mp M.fn) (codeAny_mono (F.run _ X.stack _ _ ⟨Value.ref (s.heap.objs.size + 1) :: us, []⟩ (Value.ref (s.heap.objs.size + 1) :: (us ++ ds)) _ _ E (hr.make C us [])
    (I2.env0.make C us []) (hb _ (Value.ref (s.heap.objs.size + 1) :: us) I2.kIn hl) r2 hq) fun r s' hq' => ?_))
  cases r with
  | error e => exact hx pins σ _ _ e s' I2 hq'
  | ok fl =>
    cases fl with
    | ret u =>
      obtain ⟨v, H', I3, rv, ev, q3⟩ := I2.after hq'
      subst ev
      exact ⟨rv, ⟨V.ref (s.heap.objs.size + 1), H', I3, rfl, q3⟩⟩
    | next => exact False.elim hq'
    | brk => exact False.elim hq'
    | cont => exact False.elim hq'
theorem pe_make (M : Mk X.K C f) (F : FnOk X.prog X.w X.K X.mg X.base CX k f fd ps sp) (hr : Room (k + 1) X.A) (hg : Gl X x) (hm : X.mg x = some (.ref C)) (hb : Binds X.K fd ps ds) (hd : Vals dvs ds) (hx : Passes CX X E)
    (ha : PA X (e :: es) t) (hdb : (x == ("__debug__" : Str)) = false := by decide) (he : starEach (e :: es) X.env = (false, eval e X.env) :: starEach es X.env := by rfl) (hpl : (backTo pos (starEach es X.env)).any (·.1) = false := by rfl) :
    PE X (.Call (.Name x p) (e :: es) [] pos) (tMake C sp dvs E t) := by
  intro pins s σ H Q I h
  refine wpAny_Call_Name_kw (ld_glob I hg hm ?_ hdb)
  refine PySem.W.callWith_K (h₀ := X.base) I.ok.mod.kin M.kp (thn (ha pos pins s σ H _ I h) fun us s1 ⟨vs, H1, I1, r, q⟩ => ⟨I1.kIn, ?_⟩) he hpl
  exact run_make M F hr hb hd hx I1 r q
theorem pe_make0 (M : Mk X.K C f) (F : FnOk X.prog X.w X.K X.mg X.base CX k f fd ps sp) (hr : Room (k + 1) X.A) (hg : Gl X x) (hm : X.mg x = some (.ref C)) (hb : Binds X.K fd ps ds) (hd : Vals dvs ds) (hx : Passes CX X E)
    (hdb : (x == ("__debug__" : Str)) = false := by decide) : PE X (.Call (.Name x p) [] [] pos) (tMake C sp dvs E tNil) := by
  intro pins s σ H Q I h
  refine wpAny_Call_Name_kw (ld_glob I hg hm ?_ hdb)
  exact PySem.W.callWith_K0 I.kIn M.kp (run_make (us := []) M F hr hb hd hx I .nil h)
end

/-! ### keywords -/
section
variable {X : Cx} {CX : CXT} {k : Nat} {f C : Addr} {fd : FuncData} {ps ks : List Str} {sp : Sp} {E : XK} {x m : Str} {p pos apos kpos : Pos} {e o : Expr} {es : List Expr} {kws : List Keyword} {te ta : TE} {t tk : TA} {nm : Option Str}
variable {g : List Value → List Value → List Value} {gV : List V → List V → List V}
end

/-! ### a def's body keeps its promise -/
/-- names: the parameters first -/
structure FnScope (N P : List Str) (sc : Scope) : Prop where
  kind : sc.kind = .function
  co : sc.isCoroutine = false
  gen : sc.isGenerator = false
  nd : N.Nodup
  pre : N.take P.length = P
  par : ∀ x ∈ P, sc.names.lookup x = some .local ∨ sc.names.lookup x = some .cell
  nofree : ∀ y ∈ sc.names, y.2 ≠ .free

theorem bindL_out {kindOf : Str → Option NameKind} {x : Str} : ∀ {binds : List (Str × Value)} {m : Str → Option Value}, (∀ v, (x, v) ∉ binds) → bindL kindOf binds m x = m x
  | [], _, _ => rfl
  | (n, v) :: r, m, h => by
    unfold bindL
    rw [bindL_out fun w hw => h w (List.mem_cons_of_mem _ hw)]
    split
    · have : x ≠ n := by rintro rfl; exact h v List.mem_cons_self
      simp [this]
    · rfl
theorem bindC_out {kindOf : Str → Option NameKind} {x : Str} : ∀ {binds : List (Str × Value)} {m : Str → Option Value}, (∀ v, (x, v) ∉ binds) → bindC kindOf binds m x = m x
  | [], _, _ => rfl
  | (n, v) :: r, m, h => by
    unfold bindC
    rw [bindC_out fun w hw => h w (List.mem_cons_of_mem _ hw)]
    split
    · rfl
    · have : x ≠ n := by rintro rfl; exact h v List.mem_cons_self
      simp [this]
theorem bindL_get {kindOf : Str → Option NameKind} {x : Str} {v : Value} : ∀ {P : List Str} {vs : List Value} {i : Nat} {m : Str → Option Value}, P.Nodup → P[i]? = some x → vs[i]? = some v → kindOf x = some .local →
    bindL kindOf (P.zip vs) m x = some v
  | [], _, _, _, _, h, _, _ => by simp at h
  | _ :: _, [], _, _, _, _, h, _ => by simp at h
  | p :: P, w :: vs, 0, m, nd, h1, h2, hk => by
    simp at h1 h2; subst h1; subst h2
    show bindL kindOf ((p, w) :: P.zip vs) m p = _
    unfold bindL
    rw [bindL_out fun v hv => (List.nodup_cons.mp nd).1 (List.of_mem_zip hv).1, if_pos hk]
    simp
  | p :: P, w :: vs, i + 1, m, nd, h1, h2, hk => by
    show bindL kindOf ((p, w) :: P.zip vs) m x = _
    unfold bindL
    exact bindL_get (i := i) (List.nodup_cons.mp nd).2 (by simpa using h1) (by simpa using h2) hk
theorem bindC_get {kindOf : Str → Option NameKind} {x : Str} {v : Value} : ∀ {P : List Str} {vs : List Value} {i : Nat} {m : Str → Option Value}, P.Nodup → P[i]? = some x → vs[i]? = some v → kindOf x ≠ some .local →
    bindC kindOf (P.zip vs) m x = some v
  | [], _, _, _, _, h, _, _ => by simp at h
  | _ :: _, [], _, _, _, _, h, _ => by simp at h
  | p :: P, w :: vs, 0, m, nd, h1, h2, hk => by
    simp at h1 h2; subst h1; subst h2
    show bindC kindOf ((p, w) :: P.zip vs) m p = _
    unfold bindC
    rw [bindC_out fun v hv => (List.nodup_cons.mp nd).1 (List.of_mem_zip hv).1, if_neg hk]
    simp
  | p :: P, w :: vs, i + 1, m, nd, h1, h2, hk => by
    show bindC kindOf ((p, w) :: P.zip vs) m x = _
    unfold bindC
    exact bindC_get (i := i) (List.nodup_cons.mp nd).2 (by simpa using h1) (by simpa using h2) hk

/-- the names' values at the entry -/
noncomputable def start (N : List Str) (vs : List V) : St := vs.map some ++ List.replicate (N.length - vs.length) none

/-- the context of a def's body, at its entry; an exception leaves the frame, then lies as CX says -/
noncomputable def cxOf (CX : CXT) (P : Program) (w : World) (K : PySem.W.Frag) (mg : Str → Option Value) (base : Heap) (N : List Str) (qual : Str) (scope : Scope) (f : Addr) (cd : Value) (A : Around) (outer : List Env) (s : Shared) (H : Hp) (E : XK) : Cx where
  prog := P
  w := w
  K := K
  mg := mg
  base := base
  A := A.deeper (envOfC qual scope s.heap.objs.size f cd)
  N := N
  s₀ := s
  H₀ := H
  env := envOfC qual scope s.heap.objs.size f cd
  outer := outer
  stack := envOfC qual scope s.heap.objs.size f cd :: outer
  ex := []
  calm := true
  fn := fun _ => true
  pn := []
  xe := fun e s' => wpAny (model P w) (A.deeper (envOfC qual scope s.heap.objs.size f cd)) (leaving (envOfC qual scope s.heap.objs.size f cd) e) (fun _ s'' => CX outer H s E e s'') (fun e' s'' => CX outer H s E e' s'') s'

theorem cell_has {sc : Scope} {n : Nat} {x : Str} (h : sc.names.lookup x = some .cell) : ∃ c, (cellsFrom n sc.names []).lookup x = some c := by
  have q := PySem.W.cellsFrom_some sc.names n [] (.inl h)
  exact Option.isSome_iff_exists.mp q

theorem inv_start {CX : CXT} {P : Program} {w : World} {K : PySem.W.Frag} {mg : Str → Option Value} {base : Heap} {N ps : List Str} {qual : Str} {scope : Scope} {f : Addr} {cd : Value} {A : Around} {outer : List Env} {s s1 : Shared} {H : Hp} {E : XK} {us : List Value} {vs : List V}
    (S : FnScope N ps scope) (hd : A.handled = none) (e0 : Env0 P w K mg base A outer s H) (hl : vs.length = ps.length) (r : Vals vs us)
    (x : InCallC s s.heap.objs.size (bindL (envOfC qual scope s.heap.objs.size f cd).kindOf (ps.zip us) fun _ => none) (cellsFrom (s.heap.objs.size + 1) scope.names []) (bindC (envOfC qual scope s.heap.objs.size f cd).kindOf (ps.zip us) fun _ => none) s1) :
    Inv (cxOf CX P w K mg base N qual scope f cd A outer s H E) [] (start N vs) H s1 := by
  have hpl : ps.length ≤ N.length := by have := congrArg List.length S.pre; rw [List.length_take] at this; omega
  obtain ⟨h1, tk, rfl, hk⟩ := x.done
  have noA : ∀ b : Addr, b ∉ (cxOf CX P w K mg base N qual scope f cd A outer s H E).ex := fun b z => absurd (show b ∈ ([] : List Addr) from z) (by simp)
  refine ⟨⟨e0.mod, S.kind, rfl, rfl, Nat.le_refl _, fun y z c h1 h2 => ?_, fun y hy => ?_, fun y c _ h => ?_, fun _ => hd, Around.frames_deeper e0.frames, .inr ⟨rfl, rfl⟩, fun b z => absurd z (noA b), e0.bs, e0.bsz, fun b _ _ => noA b, fun b z => absurd z (noA b), e0.funs, e0.frf⟩,
    rfl, e0.bare, Un.kept hk, ⟨_, x.toInCall.ns, fun i y v h1 h2 h3 => ?_⟩, fun y c h => ⟨_, x.cell y c h⟩, e0.hok.fresh (Nat.le_refl _), fun y c h => ?_, fun p hp => absurd (show p ∈ ([] : List (Addr × Obj)) from hp) (by simp), e0.hok.kept hk, ?_⟩
  · exact name_of_addr x.apart (PySem.mem_of_lookup h1) (PySem.mem_of_lookup h2)
  · have hy : scope.names.lookup y = some .cell ∨ scope.names.lookup y = some .free := hy
    rcases hy with hy | hy
    · exact cell_has hy
    · exact absurd rfl (S.nofree _ (PySem.mem_of_lookup hy))
  · exact Nat.le_of_lt (x.above y c (PySem.mem_of_lookup h))
  · have hi : i < vs.length := by
      unfold start at h2
      by_cases hi : i < vs.length
      · exact hi
      · rw [List.getElem?_append_right (by simpa using hi)] at h2
        rw [List.getElem?_replicate] at h2
        split at h2 <;> cases h2
    have ha : vs[i]? = some v := by
      unfold start at h2
      rw [List.getElem?_append_left (by simpa using hi), List.getElem?_map] at h2
      cases e : vs[i]? with
      | none => rw [e] at h2; cases h2
      | some a => rw [e] at h2; cases h2; rfl
    obtain ⟨u, hu, rv⟩ := r.get ha
    have hp : ps[i]? = some y := by
      rw [← S.pre, List.getElem?_take_of_lt (by omega)]; exact h1
    have ndP : ps.Nodup := by rw [← S.pre]; exact S.nd.sublist (List.take_sublist _ _)
    refine ⟨u, rv, ?_⟩
    rcases S.par y (List.mem_of_getElem? hp) with k | k
    · exact .inl ⟨k, bindL_get ndP hp hu k⟩
    · obtain ⟨c, e⟩ := cell_has (n := s.heap.objs.size + 1) k
      refine .inr ⟨.inl k, c, e, ?_⟩
      have q := x.cell y c e
      rw [bindC_get ndP hp hu (by show scope.names.lookup y ≠ _; rw [k]; decide)] at q
      exact q
  · exact e0.hok.fresh (Nat.le_of_lt (x.above y c (PySem.mem_of_lookup h)))
  · unfold start
    show _ = N.length
    rw [List.length_append, List.length_map, List.length_replicate]
    omega

/-- THE RULE: a def (or a method) of the text, by its body. The body's reading t is chosen for each entry; it is run at the parameters' values -/
theorem fn_of {CX : CXT} {P : Program} {w : World} {K : PySem.W.Frag} {mg : Str → Option Value} {base : Heap} {k : Nat} {f : Addr} {name qual : Str} {params : Arguments} {body : List Stmt} {scope : Scope} {dV kV doc pm cdv ct oc : Value} {an od : Option Addr}
    {osl : Array (Option Value)} {N ps : List Str} {sp : Sp} (lk : K.lookup f = some ⟨oc, od, .func (PySem.W.fnOf name qual params body scope dV kV doc pm an cdv ct), osl⟩) (hcd : PySem.W.codeIn K cdv qual = true) (S : FnScope N ps scope)
    (len : ∀ vs H Q E, sp vs H Q E → vs.length = ps.length)
    (hbody : ∀ (A : Around) (outer : List Env) (s : Shared) (H : Hp) (vs : List V) (Q : VK) (E : XK), Room k (A.deeper (envOfC qual scope s.heap.objs.size f cdv)) → sp vs H Q E →
      ∃ t, PSs (cxOf CX P w K mg base N qual scope f cdv A outer s H E) body t ∧ t { nx := fun _ H' => Q .non H', rt := Q } (start N vs) H) :
    FnOk P w K mg base CX (k + 1) f (PySem.W.fnOf name qual params body scope dV kV doc pm an cdv ct) ps sp := by
  refine ⟨len, fun A outer s H args us vs Q E hr e0 hb r hsp => ?_⟩
  have hl := len _ _ _ _ hsp
  have KX : K.In s.heap := e0.mod.kin.keeps fun b o e => (e0.bs b o e).1
  have lim : s.heap.NoLimit := e0.mod.nolimit.keeps fun b o e => (e0.bs b o e).1
  have hkind : ∀ y ∈ ps.zip us, scope.names.lookup y.1 = some .local ∨ (scope.names.lookup y.1 = some .cell ∧ ((cellsFrom (s.heap.objs.size + 1) scope.names []).lookup y.1).isSome = true) := fun ⟨n, v⟩ hy => by
    rcases S.par n (List.of_mem_zip hy).1 with q | q
    · exact .inl q
    · exact .inr ⟨q, PySem.W.cellsFrom_some _ _ _ (.inl q)⟩
  refine codeAny_call_function hr.depth (KX _ _ lk) rfl S.co S.gen rfl (PySem.W.codeRec_of KX hcd) (hb _ _ _ _ ?_)
  refine wpAny_newFunctionEnv_cells S.kind hkind fun env he s1 x => ?_
  subst he
  refine ⟨lim.keeps x.toInCall.keep, codeAny_func ?_⟩
  obtain ⟨t, ht, hq⟩ := hbody A outer s H vs Q E (hr.deeper _) hsp
  have I : Inv (cxOf CX P w K mg base N qual scope f cdv A outer s H E) [] (start N vs) H s1 := inv_start S hr.hd e0 hl r x
  refine wpAny_mono (ht [] s1 (start N vs) H _ I hq) (fun fl s' hs => ?_) fun e s' hs => hs
  have fin : ∀ {σ' : St} {H' : Hp} {v : V} {u : Value}, Inv (cxOf CX P w K mg base N qual scope f cdv A outer s H E) [] σ' H' s' → RelV v u → Q v H' → CE outer P w H s Q u s' :=
    fun {σ' H' v u} J rv q => ⟨v, H', J.os, J.bare, J.base, J.hok, rv, q⟩
  cases fl with
  | ret u =>
    obtain ⟨v, σ', H', J, rv, q⟩ := hs
    exact fin J rv q
  | next =>
    obtain ⟨σ', H', J, q⟩ := hs
    exact fin (v := V.non) (u := Value.none) J rfl q
  | brk =>
    obtain ⟨_, _, _, q⟩ := hs
    exact False.elim q
  | cont =>
    obtain ⟨_, _, _, q⟩ := hs
    exact False.elim q
end L2

namespace L2
open PySem PySem.Spec PyProof.Rows
section
variable {X : Cx} {x : Str} {p pos : Pos} {e : Expr} {es : List Expr} {t : TA} {id T : String} {r : List V → Hp → VK → Prop}

noncomputable def tCB (r : List V → Hp → VK → Prop) (t : TA) : TE := fun σ H Q => t σ H fun vs H1 => r vs H1 Q
/-- f(e, ..), f a built-in function -/
theorem pe_callB (hc : CallR X (.builtin id) r) (hg : Gl X x) (hm : X.mg x = none) (hv : bootBuiltins x = some (.builtin id)) (ha : PA X (e :: es) t) (hn : x ≠ "__name__" := by decide) (hdb : (x == ("__debug__" : Str)) = false := by decide)
    (he : starEach (e :: es) X.env = (false, eval e X.env) :: starEach es X.env := by rfl) (hpl : (backTo pos (starEach es X.env)).any (·.1) = false := by rfl) : PE X (.Call (.Name x p) (e :: es) [] pos) (tCB r t) := by
  intro pins s σ H Q I h
  refine wpAny_Call_Name_kw (ld_blt I hg hm hv ?_ hn hdb)
  exact PyProof.Rows.callWith_builtin1 (thn (ha pos pins s σ H _ I h) fun us s1 ⟨vs, H1, I1, r1, q1⟩ => hc pins s1 σ H1 vs us Q I1 r1 q1) he hpl
/-- T(e, ..), T a built-in type -/
theorem pe_callTy (hc : CallR X (.type T) r) (hg : Gl X x) (hm : X.mg x = none) (hv : bootBuiltins x = some (.type T)) (ha : PA X (e :: es) t) (hn : x ≠ "__name__" := by decide) (hdb : (x == ("__debug__" : Str)) = false := by decide)
    (he : starEach (e :: es) X.env = (false, eval e X.env) :: starEach es X.env := by rfl) (hpl : (backTo pos (starEach es X.env)).any (·.1) = false := by rfl) : PE X (.Call (.Name x p) (e :: es) [] pos) (tCB r t) := by
  intro pins s σ H Q I h
  refine wpAny_Call_Name_kw (ld_blt I hg hm hv ?_ hn hdb)
  exact PyProof.Rows.callWith_type1 (thn (ha pos pins s σ H _ I h) fun us s1 ⟨vs, H1, I1, r1, q1⟩ => hc pins s1 σ H1 vs us Q I1 r1 q1) he hpl
end
end L2

namespace HT
open PySem PyProof.Rows

section
open PySem.SeqAt
open PySem.AutoSeq1 (wpAny_loadPart')
open PySem.MeetsSeq PySem.MeetsSeq2 PySem.MeetsSeq3

end

section
variable {prog : Program} {w : World} {A : Around} {E : Value → Shared → Prop} {s : Shared}

/-! ### t[a:b], not the whole -/
/-- a slice's bound as a place among n (d where it is left out) -/
noncomputable def sIx (n d : Nat) : Option Int → Nat
  | none => d
  | some v => if v < 0 then (v + (n : Int)).toNat else min v.toNat n
theorem sIx_none (n d : Nat) : sIx n d none = d := rfl
theorem sIx_nat (n d k : Nat) : sIx n d (some (k : Int)) = min k n := by
  show (if (k : Int) < 0 then ((k : Int) + (n : Int)).toNat else min (k : Int).toNat n) = min k n
  rw [if_neg (by omega), Int.toNat_natCast]
end
end HT

namespace L2
open PySem PySem.Spec PyProof.Rows

/-! ### the parts of a slice -/
noncomputable abbrev TO := St → Hp → (Option Int → Hp → Prop) → Prop
/-- a slice's part (left out, or an int) -/
noncomputable def PO (X : Cx) (e : Option Expr) (t : TO) : Prop :=
  ∀ (pins : List (Addr × Obj)) (s : Shared) (σ : St) (H : Hp) (Q : Option Int → Hp → Prop), Inv X pins σ H s → t σ H Q →
    wpAny (model X.prog X.w) X.A (evalPart e X.env) (fun u s' => ∃ o H', Inv X pins σ H' s' ∧ IsPart u o ∧ Q o H') X.xe s
noncomputable def tNoPart : TO := fun _ H Q => Q none H
noncomputable def tPart (t : TE) : TO := fun σ H Q => t σ H fun x H1 => ∃ i, x = .int i ∧ Q (some i) H1

section
variable {X : Cx} {e : Expr} {te : TE} {lo hi : Option Expr} {tl th : TO} {pos p2 : Pos}

theorem po_none : PO X none tNoPart := by
  intro pins s σ H Q I h
  rw [evalPart_none]
  exact wpAny_pure ⟨none, H, I, .none, h⟩
theorem po_some (h : PE X e te) : PO X (some e) (tPart te) := by
  intro pins s σ H Q I hw
  rw [evalPart_some]
  refine thn (h pins s σ H _ I hw) fun u s1 ⟨x, H1, I1, r1, q1⟩ => ?_
  obtain ⟨i, rfl, q⟩ := q1
  obtain ⟨t, rfl⟩ := r1
  exact ⟨some i, H1, I1, .int i t, q⟩

/-- what a slice of a value is, by values: the slice object stands at sl -/
noncomputable def SlR (X : Cx) (r : V → Option Int → Option Int → Hp → VK → Prop) : Prop :=
  ∀ (pins : List (Addr × Obj)) (s : Shared) (σ : St) (H : Hp) (x : V) (v vl vu : Value) (lo hi : Option Int) (sl : Addr) (Q : VK), Inv X pins σ H s → RelV x v → s.heap.IsSliceOf sl vl vu .none → IsPart vl lo → IsPart vu hi → r x lo hi H Q →
    ∃ T id, typeLookup (.type T) "__getitem__" = pure (some (.builtin id)) ∧ s.TypeIs v T ∧ wpAny (model X.prog X.w) X.A (getItem v (.ref sl)) (EP X pins σ Q) X.xe s
theorem SlR.or {r r' : V → Option Int → Option Int → Hp → VK → Prop} (h : SlR X r) (h' : SlR X r') : SlR X (fun x lo hi H Q => r x lo hi H Q ∨ r' x lo hi H Q) := by
  intro pins s σ H x v vl vu lo hi sl Q I rx hs pl pu q
  rcases q with q | q
  · exact h pins s σ H x v vl vu lo hi sl Q I rx hs pl pu q
  · exact h' pins s σ H x v vl vu lo hi sl Q I rx hs pl pu q
noncomputable def tSl (r : V → Option Int → Option Int → Hp → VK → Prop) (te : TE) (tl th : TO) : TE := fun σ H Q => te σ H fun x H1 => tl σ H1 fun l H2 => th σ H2 fun u H3 => r x l u H3 Q
/-- a[lo:hi], any a -/
theorem pe_slice {r : V → Option Int → Option Int → Hp → VK → Prop} (hr : SlR X r) (he : PE X e te) (hl : PO X lo tl) (hu : PO X hi th) : PE X (.Subscript e (.Slice lo hi none p2) pos) (tSl r te tl th) := by
  intro pins s σ H Q I h
  refine Subscript_ (thn (he pins s σ H _ I h) fun v s1 ⟨x, H1, I1, r1, q1⟩ => ?_)
  refine wpAny_Slice (thn (hl pins s1 σ H1 _ I1 q1) fun vl s2 ⟨l, H2, I2, pl, q2⟩ => thn (hu pins s2 σ H2 _ I2 q2) fun vu s3 ⟨u, H3, I3, pu, q3⟩ => ?_)
  rw [evalPart_none]
  refine wpAny_pure ?_
  have I4 : Inv X pins σ H3 { s3 with heap := s3.heap.push { cls := .type "slice", data := .fields #[vl, vu, .none] } } := I3.kept (t' := s3.toks) fun b ob q => Heap.get?_push_of_some _ q
  obtain ⟨T, id, hT, ht, hg⟩ := hr pins { s3 with heap := s3.heap.push { cls := .type "slice", data := .fields #[vl, vu, .none] } } σ H3 x v vl vu l u s3.heap.objs.size Q I4 r1 (Heap.IsSliceOf.new ..) pl pu q3
  show wpAny (model X.prog X.w) X.A (subscriptTail e (.Slice lo hi none p2) v (.ref s3.heap.objs.size)) (EP X pins σ Q) X.xe { s3 with heap := s3.heap.push { cls := .type "slice", data := .fields #[vl, vu, .none] } }
  exact tail_any (ops := [.ref s3.heap.objs.size, v]) ht hT hg (by with_unfolding_all rfl)

/-- the items of xs[lo:hi] -/
noncomputable def cutV (xs : List V) (lo hi : Option Int) : List V := (xs.drop (HT.sIx xs.length 0 lo)).take (HT.sIx xs.length xs.length hi - HT.sIx xs.length 0 lo)
theorem cutV_length (xs : List V) (lo hi : Option Int) : (cutV xs lo hi).length ≤ xs.length := by
  unfold cutV
  rw [List.length_take, List.length_drop]
  omega
/-! ### t < u, t + u -/
end
end L2

namespace L2
open PySem PySem.Spec PyProof.Rows

/-! ### places -/
/-- the place that an index of any sign means -/
noncomputable def ixN (n : Nat) (i : Int) : Option Nat := if 0 ≤ i then (if i < n then some i.toNat else none) else if -(n : Int) ≤ i then some (i + n).toNat else none
noncomputable def atI {α : Type} (xs : List α) (i : Int) : Option α := (ixN xs.length i).bind fun j => xs[j]?
theorem ixN_seq {n : Nat} {i : Int} {j : Nat} (h : ixN n i = some j) : seqIndex? i n = some j ∧ j < n ∧ -(n : Int) ≤ i ∧ i < n := by
  unfold ixN at h
  by_cases h0 : 0 ≤ i
  · rw [if_pos h0] at h
    by_cases h1 : i < n
    · rw [if_pos h1] at h
      have e : i.toNat = j := Option.some.inj h
      exact ⟨by rw [seqIndex_of h0 h1, e], by omega, by omega, h1⟩
    · rw [if_neg h1] at h; cases h
  · rw [if_neg h0] at h
    by_cases h1 : -(n : Int) ≤ i
    · rw [if_pos h1] at h
      have e : (i + n).toNat = j := Option.some.inj h
      exact ⟨by rw [seqIndex_neg (by omega) h1, e], by omega, h1, by omega⟩
    · rw [if_neg h1] at h; cases h
theorem atI_get {α : Type} {xs : List α} {i : Int} {v : α} (h : atI xs i = some v) : ∃ j, seqIndex? i xs.length = some j ∧ xs[j]? = some v ∧ j < xs.length ∧ -(xs.length : Int) ≤ i ∧ i < xs.length := by
  unfold atI at h
  cases e : ixN xs.length i with
  | none => rw [e] at h; cases h
  | some j =>
    rw [e] at h
    obtain ⟨h1, h2, h3, h4⟩ := ixN_seq e
    exact ⟨j, h1, h, h2, h3, h4⟩
theorem atI_nat {α : Type} {xs : List α} {j : Nat} {v : α} (h : xs[j]? = some v) : atI xs (j : Int) = some v := by
  have hj : j < xs.length := (List.getElem?_eq_some_iff.mp h).1
  have e : ixN xs.length (j : Int) = some j := by
    unfold ixN
    rw [if_pos (by omega), if_pos (by omega)]; simp
  unfold atI; rw [e]; exact h
/-! ### what may be subscripted -/
/-- what stands as an index of a plain subscript -/
noncomputable def PlainIx (b : Expr) : Prop := ∀ o i, subscripted b false o i = operate [o, i] (getItem o i)
/-- a subscript by values -/
noncomputable def IxR (X : Cx) (r : R2) : Prop :=
  ∀ (value slice : Expr) (pins : List (Addr × Obj)) (s : Shared) (σ : St) (H : Hp) (x y : V) (v u : Value) (Q : VK), Inv X pins σ H s → RelV x v → RelV y u → r x y H Q →
    subscripted slice false v u = operate [v, u] (getItem v u) → wpAny (model X.prog X.w) X.A (subscriptTail value slice v u) (EP X pins σ Q) X.xe s
/-- a call of a builtin's method by values: the receiver, the arguments -/
noncomputable def MtR (X : Cx) (id : String) (r : V → List V → Hp → VK → Prop) : Prop :=
  ∀ (pins : List (Addr × Obj)) (s : Shared) (σ : St) (H : Hp) (x : V) (xs : List V) (v : Value) (us : List Value) (Q : VK), Inv X pins σ H s → RelV x v → Vals xs us → r x xs H Q →
    wpAny (model X.prog X.w) X.A (call (.builtin id) (v :: us)) (EP X pins σ Q) X.xe s
section
variable {X : Cx} {a b : Expr} {ta tb : TE} {pos : Pos}
theorem IxR.or {r r' : R2} (h : IxR X r) (h' : IxR X r') : IxR X (fun x y H Q => r x y H Q ∨ r' x y H Q) := by
  intro value slice pins s σ H x y v u Q I rx ry q hs
  rcases q with q | q
  · exact h value slice pins s σ H x y v u Q I rx ry q hs
  · exact h' value slice pins s σ H x y v u Q I rx ry q hs
theorem MtR.or {id : String} {r r' : V → List V → Hp → VK → Prop} (h : MtR X id r) (h' : MtR X id r') : MtR X id (fun x xs H Q => r x xs H Q ∨ r' x xs H Q) := by
  intro pins s σ H x xs v us Q I rx rs q
  rcases q with q | q
  · exact h pins s σ H x xs v us Q I rx rs q
  · exact h' pins s σ H x xs v us Q I rx rs q
/-- a[b] -/
theorem pe_ix {r : R2} (hr : IxR X r) (ha : PE X a ta) (hb : PE X b tb) (hs : PlainIx b) : PE X (.Subscript a b pos) (tOp r ta tb) := by
  intro pins s σ H Q I h
  exact Subscript_ (binT ha hb I h fun v u s2 x y H2 I2 rx ry q => hr a b pins s2 σ H2 x y v u Q I2 rx ry q (hs _ _))

noncomputable def rIxL (K : PySem.W.Frag) : R2 := fun x y H Q => ∃ p xs i v, x = .ref p ∧ y = .int i ∧ SqL K H p xs ∧ atI xs i = some v ∧ Q v H
noncomputable def rIxT (K : PySem.W.Frag) : R2 := fun x y H Q => ∃ p xs i v, x = .ref p ∧ y = .int i ∧ SqT K H p xs ∧ atI xs i = some v ∧ Q v H
noncomputable def rIxS : R2 := fun x y H Q => ∃ z i c, x = .str z ∧ y = .int i ∧ z.length ≤ sizeLine ∧ atI z.cps.toList i = some c ∧ Q (.str ⟨#[c]⟩) H
theorem ix_list : IxR X (rIxL X.K) := by
  intro value slice pins s σ H x y v u Q I rx ry h hs
  obtain ⟨p, xs, i, z, rfl, rfl, hq, he, q⟩ := h
  cases rx
  obtain ⟨t, rfl⟩ := ry
  obtain ⟨its, r, pl, hz⟩ := I.list hq
  obtain ⟨j, h1, h2, h3, h4, h5⟩ := atI_get he
  obtain ⟨w, ew, rw'⟩ := r.get h2
  have hl := r.length
  have hn := line63
  have fin : EP X pins σ Q w s := ⟨z, H, I, rw', q⟩
  by_cases h0 : 0 ≤ i
  · have hj : i.toNat = j := by
      rw [seqIndex_of h0 h5] at h1
      exact Option.some.inj h1
    exact item_listR pl.isList h0 (by omega) (by rw [hj]; simpa using ew) fin hs
  · have hj : (i + (its.toArray.size : Int)).toNat = j := by
      rw [seqIndex_neg (by omega) h4] at h1
      rw [List.size_toArray, ← hl]
      exact Option.some.inj h1
    exact subscriptTail_builtinR (x := w) pl.isList.typeIs slot_list_getitem.lookup
      (wpAny_getItem_list_neg (Q := fun r s' => r = w ∧ EP X pins σ Q r s') pl.isList (by omega) (by rw [List.size_toArray] <;> omega) (by omega) (by rw [hj]; simpa using ew) ⟨rfl, fin⟩) hs
theorem ix_tup : IxR X (rIxT X.K) := by
  intro value slice pins s σ H x y v u Q I rx ry h hs
  obtain ⟨p, xs, i, z, rfl, rfl, hq, he, q⟩ := h
  cases rx
  obtain ⟨t, rfl⟩ := ry
  obtain ⟨its, r, pl, hz⟩ := I.tuple hq
  obtain ⟨j, h1, h2, h3, h4, h5⟩ := atI_get he
  obtain ⟨w, ew, rw'⟩ := r.get h2
  have hl := r.length
  have hn := line63
  have fin : EP X pins σ Q w s := ⟨z, H, I, rw', q⟩
  exact subscriptTail_builtinR (x := w) pl.typeIs slot_tuple_getitem.lookup
    (getItem_tuple (j := j) (Q := fun r s' => r = w ∧ EP X pins σ Q r s') pl (by omega) (by omega) (by rw [List.size_toArray, ← hl]; exact h1) (by simpa using ew) ⟨rfl, fin⟩) hs
theorem ix_str : IxR X rIxS := by
  intro value slice pins s σ H x y v u Q I rx ry h hs
  obtain ⟨z, i, c, rfl, rfl, hz, he, q⟩ := h
  obtain ⟨t, rfl⟩ := rx
  obtain ⟨t', rfl⟩ := ry
  obtain ⟨j, h1, h2, h3, h4, h5⟩ := atI_get he
  have hl : z.cps.toList.length = z.length := by simp [Str.length]
  rw [hl] at h1 h4 h5
  have hn := line63
  exact tail_any (typeIs_str s z t) slot_str_getitem.lookup (getItem_str (c := c) (by
    have e1 : decide (i < -(2 ^ 63 : Int)) = false := decide_eq_false (by omega)
    have e2 : decide (i ≥ 2 ^ 63) = false := decide_eq_false (by omega)
    rw [e1, e2, Bool.or_false]) (by rw [h1]; simpa using h2) ⟨.str ⟨#[c]⟩, H, I.tok _, ⟨_, rfl⟩, q⟩) hs
/-- list, tuple or str -/
noncomputable def rIx (K : PySem.W.Frag) : R2 := fun x y H Q => rIxL K x y H Q ∨ rIxT K x y H Q ∨ rIxS x y H Q
theorem ix_seq : IxR X (rIx X.K) := ix_list.or (ix_tup.or ix_str)

/-! ### xs[i] = v, any sign -/
/-- the list's object behind a store -/
theorem mapSeq_set (its : List Value) (n j : Nat) (u : Value) : Obj.mapSeq (·.setIfInBounds j u) { cls := .type "list", data := .seq its.toArray n } = { cls := .type "list", data := .seq (its.set j u).toArray n } := by
  simp [Obj.mapSeq]
theorem Inv.lst {pins : List (Addr × Obj)} {σ : St} {H : Hp} {s : Shared} {p : Addr} {xs : List V} (I : Inv X pins σ H s) (h : H p = some (.lst xs)) :
    ∃ (its : List Value) (n : Nat), Vals xs its ∧ s.heap.get? p = some { cls := .type "list", data := .seq its.toArray n } ∧ xs.length ≤ sizeLine := by
  obtain ⟨z, its, n, r, e⟩ := I.hok p _ h
  exact ⟨its, n, r, e, z⟩
/-- the list at p is written by an update of its object -/
theorem Inv.lstUpd {pins : List (Addr × Obj)} {σ : St} {H : Hp} {s : Shared} {p : Addr} {xs ys : List V} {its its' : List Value} {n n' : Nat} {f : Obj → Obj} (I : Inv X pins σ H s) (h : H p = some (.lst xs))
    (ho : s.heap.get? p = some { cls := .type "list", data := .seq its.toArray n }) (hf : f { cls := .type "list", data := .seq its.toArray n } = { cls := .type "list", data := .seq its'.toArray n' }) (r : Vals ys its') (hz : ys.length ≤ sizeLine) (t : Nat) :
    Inv X pins σ (upd H p (.lst ys)) { s with heap := s.heap.update p f, toks := t } := by
  have e : (s.heap.update p f).get? p = some { cls := .type "list", data := .seq its'.toArray n' } := by
    rw [Heap.get?_update_self f ho (by rw [hf] <;> rfl), hf]
  refine I.write (x := p) (e := p) (by rw [h]; trivial) (.inl rfl) (fun b u hb q => (Heap.get?_update_other _ _ (Ne.symm hb)).trans q) ⟨_, e⟩ ?_
  exact ⟨hz, its', n', r, e⟩
noncomputable def rSetL : V → V → V → Hp → (Hp → Prop) → Prop := fun o i v H Q => ∃ p xs k j, o = .ref p ∧ i = .int k ∧ H p = some (.lst xs) ∧ ixN xs.length k = some j ∧ Q (upd H p (.lst (xs.set j v)))
theorem set_list : PSet X rSetL := by
  intro pins s σ H o i v ov iv u Q I ro ri rv h
  obtain ⟨p, xs, k, j, rfl, rfl, hp, hj, q⟩ := h
  cases ro
  obtain ⟨t, rfl⟩ := ri
  obtain ⟨its, n, r, ho, hz⟩ := I.lst hp
  obtain ⟨h1, h2, h3, h4⟩ := ixN_seq hj
  have hl := r.length
  have hn := line63
  have I' : Inv X pins σ (upd H p (.lst (xs.set j v))) { s with heap := s.heap.update p (Obj.mapSeq (·.setIfInBounds j u)) } :=
    I.lstUpd hp ho (mapSeq_set its n j u) (r.set rv j) (by rw [List.length_set]; exact hz) s.toks
  by_cases h0 : 0 ≤ k
  · have hk : k.toNat = j := by
      rw [seqIndex_of h0 h4] at h1
      exact Option.some.inj h1
    exact PySem.W.ki_setAt ho h0 (by omega) (by rw [List.size_toArray, ← hl]; exact h4) (by rw [hk]; exact ⟨_, I', q⟩)
  · have hk : (k + (its.toArray.size : Int)).toNat = j := by
      rw [seqIndex_neg (by omega) h3] at h1
      rw [List.size_toArray, ← hl]
      exact Option.some.inj h1
    exact PySem.W.ki_setBack ho (by omega) (by rw [List.size_toArray, ← hl]; exact h3) (by omega) (by rw [hk]; exact ⟨_, I', q⟩)

/-! ### slices -/
theorem slice_bounds (lo hi : Option Int) (n : Nat) : (sliceBounds lo hi none n).1 = ((HT.sIx n 0 lo : Nat) : Int) ∧ (sliceBounds lo hi none n).2.1 = ((HT.sIx n n hi : Nat) : Int) ∧ (sliceBounds lo hi none n).2.2 = 1 := by
  refine ⟨?_, ?_, rfl⟩
  · cases lo with
    | none => simp [sliceBounds, HT.sIx]
    | some i =>
      simp only [sliceBounds, HT.sIx, Option.getD_none, show (1 : Int) > 0 by decide, if_true]
      by_cases h : i < 0
      · simp only [h, if_true] <;> omega
      · simp only [h, if_false] <;> omega
  · cases hi with
    | none => simp [sliceBounds, HT.sIx]
    | some i =>
      simp only [sliceBounds, HT.sIx, Option.getD_none, show (1 : Int) > 0 by decide, if_true]
      by_cases h : i < 0
      · simp only [h, if_true] <;> omega
      · simp only [h, if_false] <;> omega
theorem slicePick_cut (its : List Value) (lo hi : Option Int) : slicePick its.toArray lo hi none = ((its.drop (HT.sIx its.length 0 lo)).take (HT.sIx its.length its.length hi - HT.sIx its.length 0 lo)).toArray := by
  obtain ⟨h1, h2, h3⟩ := slice_bounds lo hi its.toArray.size
  unfold slicePick
  rw [h1, h2, h3]
  simp only [sliceRange_one, pick_run, List.size_toArray] <;> rfl
/-- xs[lo:hi] of a list: a new list -/
noncomputable def rSlL (K : PySem.W.Frag) : V → Option Int → Option Int → Hp → VK → Prop := fun x lo hi H Q => ∃ a xs, x = .ref a ∧ SqL K H a xs ∧ ∀ p, H p = none → Q (.ref p) (upd H p (.lst (cutV xs lo hi)))
theorem sl_list : SlR X (rSlL X.K) := by
  intro pins s σ H x v vl vu lo hi sl Q I rx hs pl pu h
  obtain ⟨a, xs, rfl, hx, q⟩ := h
  cases rx
  obtain ⟨its, r, ht, hz⟩ := I.list hx
  have hlen := r.length
  refine ⟨"list", _, slot_list_getitem.lookup, ht.isList.typeIs, ?_⟩
  refine wpAny_getItem_list_slice ht.isList hs pl pu .none (by simp) ?_ (by rw [List.size_toArray] <;> omega)
  rw [slicePick_cut, ← hlen]
  refine ⟨.ref s.heap.objs.size, _, I.laid (t' := s.toks) (o := .lst (cutV xs lo hi)) (fun b ob q => Heap.get?_push_of_some _ q) (Nat.le_refl _) ?_, rfl, q _ (I.hok.fresh (Nat.le_refl _))⟩
  exact ⟨Nat.le_trans (cutV_length xs lo hi) hz, _, 0, (r.drop (HT.sIx xs.length 0 lo)).take (HT.sIx xs.length xs.length hi - HT.sIx xs.length 0 lo), Heap.get?_push_size _ rfl⟩

/-! ### in, not in: flat items -/
/-! ### len, list(x), tuple(x) of any list or tuple that is read -/
theorem call_len_seq : CallR X (.builtin "len") (fun xs H Q => ∃ p ys, xs = [.ref p] ∧ (SqL X.K H p ys ∨ SqT X.K H p ys) ∧ Q (.int ys.length) H) := by
  intro pins s σ H xs us Q I r h
  obtain ⟨p, ys, rfl, hq, q⟩ := h
  obtain ⟨u, rfl, rx⟩ := vals1 r
  cases rx
  have hn := line63
  rcases hq with hq | hq
  · obtain ⟨its, r', pl, hz⟩ := I.list hq
    have hlen := r'.length
    exact Calls.call_len_list pl.isList (by simp only [List.size_toArray] <;> omega) ⟨.int ys.length, H, I.tok _, ⟨s.toks + 1, by rw [List.size_toArray, hlen]⟩, q⟩
  · obtain ⟨its, r', pl, hz⟩ := I.tuple hq
    have hlen := r'.length
    exact len_tuple pl (by simp only [List.size_toArray] <;> omega) ⟨.int ys.length, H, I.tok _, ⟨s.toks + 1, by rw [List.size_toArray, hlen]⟩, q⟩
theorem CallR.or {f : Value} {r r' : List V → Hp → VK → Prop} (h : CallR X f r) (h' : CallR X f r') : CallR X f (fun xs H Q => r xs H Q ∨ r' xs H Q) := by
  intro pins s σ H xs us Q I rs q
  rcases q with q | q
  · exact h pins s σ H xs us Q I rs q
  · exact h' pins s σ H xs us Q I rs q
theorem call_list_of : CallR X (.type "list") (fun xs H Q => ∃ p ys, xs = [.ref p] ∧ (SqL X.K H p ys ∨ SqT X.K H p ys) ∧ ∀ l, H l = none → Q (.ref l) (upd H l (.lst ys))) := by
  intro pins s σ H xs us Q I r h
  obtain ⟨p, ys, rfl, hq, q⟩ := h
  obtain ⟨u, rfl, rx⟩ := vals1 r
  cases rx
  have fin : ∀ (its : List Value), Vals ys its → ys.length ≤ sizeLine → ∀ (h' : Heap) (c' : Nat), (∀ b o', s.heap.get? b = some o' → h'.get? b = some o') →
      h'.get? s.heap.objs.size = some { cls := .type "list", dict := none, data := .seq its.toArray c', slots := #[] } → EP X pins σ Q (.ref s.heap.objs.size) { s with heap := h' } := fun its r' hz h' c' kp e =>
    ⟨.ref s.heap.objs.size, _, I.laid (t' := s.toks) kp (Nat.le_refl _) (show ObjOk X.prog X.w _ h' _ (.lst ys) from ⟨hz, its, c', r', e⟩), rfl, q _ (I.hok.fresh (Nat.le_refl _))⟩
  rcases hq with hq | hq
  · obtain ⟨its, r', pl, hz⟩ := I.list hq
    have hlen := r'.length
    obtain ⟨o, ho, hc, n, hd⟩ := pl.isList
    exact call_list_seq p (.inl rfl) ho hc hd (fun h' c' kp e => fin its r' hz h' c' kp e) (by simp only [List.size_toArray] <;> omega)
  · obtain ⟨its, r', pl, hz⟩ := I.tuple hq
    have hlen := r'.length
    obtain ⟨o, ho, hc, n, hd⟩ := pl
    exact call_list_seq p (.inr rfl) ho hc hd (fun h' c' kp e => fin its r' hz h' c' kp e) (by simp only [List.size_toArray] <;> omega)
/-! ### the call of a builtin's method: o.m(..) -/
/-- the value is of that builtin type -/
noncomputable def tyV (K : PySem.W.Frag) (T : String) (x : V) (H : Hp) : Prop := match x with
  | .str _ => T = "str"
  | .int _ => T = "int"
  | .ref p => (T = "list" ∧ ∃ xs, SqL K H p xs) ∨ (T = "tuple" ∧ ∃ o, K.lookup p = some o ∧ o.cls = .type "tuple" ∧ o.dict = none) ∨
      (T = "dict" ∧ ((∃ kvs, H p = some (.dK kvs)) ∨ ∃ kvs, H p = some (.dT kvs))) ∨ (T = "set" ∧ ∃ S n, H p = some (.set S n))
  | _ => False
theorem tyV_is {pins : List (Addr × Obj)} {σ : St} {H : Hp} {s : Shared} {T : String} {x : V} {v : Value} (I : Inv X pins σ H s) (r : RelV x v) (ty : tyV X.K T x H) :
    s.TypeIs v T ∧ ∀ a, v = .ref a → ∃ ob, s.heap.get? a = some ob ∧ ob.dict = none := by
  cases x with
  | str z =>
    obtain ⟨t, rfl⟩ := r
    cases (show T = "str" from ty)
    exact ⟨typeIs_str s z t, fun _ e => nomatch e⟩
  | int i =>
    obtain ⟨t, rfl⟩ := r
    cases (show T = "int" from ty)
    exact ⟨typeIs_int s i t, fun _ e => nomatch e⟩
  | ref p =>
    cases r
    rcases ty with ⟨rfl, xs, hq⟩ | ⟨rfl, o, hk, hc, hd⟩ | ⟨rfl, hk⟩ | ⟨rfl, S, n, hk⟩
    · obtain ⟨its, _, pl, _⟩ := I.list hq
      refine ⟨pl.isList.typeIs, fun a e => ?_⟩
      cases e
      obtain ⟨o, n, e, c, hd, _⟩ := pl
      exact ⟨o, e, hd⟩
    · refine ⟨⟨o, I.kIn p o hk, hc⟩, fun a e => ?_⟩
      cases e
      exact ⟨o, I.kIn _ o hk, hd⟩
    · have z : ∃ o, s.heap.get? p = some o ∧ o.ExactDict := by
        rcases hk with ⟨kvs, hk⟩ | ⟨kvs, hk⟩
        · obtain ⟨_, _, _, _, o, _, _, e, ex, _⟩ := I.hok p _ hk
          exact ⟨o, e, ex⟩
        · obtain ⟨_, _, _, _, o, _, _, e, ex, _⟩ := I.hok p _ hk
          exact ⟨o, e, ex⟩
      obtain ⟨o, e, ex⟩ := z
      refine ⟨⟨o, e, ex.1⟩, fun a e2 => ?_⟩
      cases e2
      exact ⟨o, e, ex.2.1⟩
    · obtain ⟨o, _, _, _, e, ex, _⟩ := I.hok p _ hk
      refine ⟨⟨o, e, ex.1⟩, fun a e2 => ?_⟩
      cases e2
      exact ⟨o, e, ex.2.1⟩
  | _ => exact False.elim ty
noncomputable def tBM0 (K : PySem.W.Frag) (T : String) (r : V → List V → Hp → VK → Prop) (to : TE) : TE := fun σ H Q => to σ H fun x H1 => tyV K T x H1 ∧ r x [] H1 Q
noncomputable def tBM (K : PySem.W.Frag) (T : String) (r : V → List V → Hp → VK → Prop) (to : TE) (t : TA) : TE := fun σ H Q => to σ H fun x H1 => tyV K T x H1 ∧ t σ H1 fun xs H2 => r x xs H2 Q
variable {o e : Expr} {es : List Expr} {to : TE} {t : TA} {name : Str} {apos cpos : Pos} {T id : String} {r : V → List V → Hp → VK → Prop}
theorem pe_bm0 (pa : PlainAttrs T) (slot : Slot T name id) (hty : typeOf (.builtin id) = pure (.type "method_descriptor")) (hm : MtR X id r) (ho : PE X o to)
    (hbase : attributeBase o name X.env (eval o X.env) = eval o X.env := by rfl) (hline : (apos.endLine == cpos.line) = true := by rfl) : PE X (.Call (.Attribute o name apos) [] [] cpos) (tBM0 X.K T r to) := by
  intro pins s σ H Q I h
  refine wpAny_Call_method0_late hbase hline (thn (ho pins s σ H _ I h) fun v s1 ⟨x, H1, I1, r1, ty, q1⟩ => ?_)
  obtain ⟨h1, h2⟩ := tyV_is I1 r1 ty
  exact ⟨T, id, pa, slot, hty, h1, h2, Calls.callWith_builtin rfl (PySem.evalArgs_none (hm pins s1 σ H1 x [] v [] Q I1 r1 .nil q1))⟩
theorem pe_bm (pa : PlainAttrs T) (slot : Slot T name id) (hty : typeOf (.builtin id) = pure (.type "method_descriptor")) (hm : MtR X id r) (ho : PE X o to) (ha : PA X (e :: es) t)
    (hbase : attributeBase o name X.env (eval o X.env) = eval o X.env := by rfl)
    (hfew : ((backTo cpos (starEach (e :: es) X.env)).all (fun x => !x.1) && (backToKw cpos (keywordEach [] X.env)).all (fun x => x.1.isSome)
      && decide ((e :: es).length + ([] : List Keyword).length + (if ([] : List Keyword).isEmpty then 0 else 1) < 30)) = true := by rfl)
    (hline : (apos.endLine == cpos.line) = true := by rfl) (hs : starEach (e :: es) X.env = (false, eval e X.env) :: starEach es X.env := by rfl) (hplain : (backTo cpos (starEach es X.env)).any (·.1) = false := by rfl) :
    PE X (.Call (.Attribute o name apos) (e :: es) [] cpos) (tBM X.K T r to t) := by
  intro pins s σ H Q I h
  refine wpAny_Call_method_late hbase hfew hline rfl (thn (ho pins s σ H _ I h) fun v s1 ⟨x, H1, I1, r1, ty, q1⟩ => ?_)
  obtain ⟨h1, h2⟩ := tyV_is I1 r1 ty
  refine ⟨T, id, pa, slot, hty, h1, h2, ?_⟩
  have hA := ha cpos pins s1 σ H1 _ I1 q1
  rw [hs] at hA ⊢
  refine Calls.callWith_builtin (by show (false || (backTo cpos (starEach es X.env)).any (·.1)) = false; rw [hplain] <;> rfl) (Calls.evalArgs_plain ?_)
  exact thn hA fun us s2 ⟨vs, H2, I2, r2, q2⟩ => hm pins s2 σ H2 x vs v us Q I2 r1 r2 q2
/- xs.append(e), list.index on a module's tuple .. are MtR facts of 06m -/
end
end L2

namespace L2
open PySem PySem.Spec PyProof.Rows

noncomputable def MtM (X : Cx) (id : String) (r : V → List V → Hp → VK → Prop) : Prop :=
  ∀ (pins : List (Addr × Obj)) (s : Shared) (σ : St) (H : Hp) (x : V) (xs : List V) (v : Value) (us : List Value) (Q : VK), Inv X pins σ H s → RelV x v → Vals xs us → r x xs H Q →
    wpAny (model X.prog X.w) X.A (call (.builtin id) (v :: us)) (EP X pins σ Q) X.xe s

/-! ### lists of values -/
theorem Vals.one : ∀ {x : V} {us : List Value}, Vals [x] us → ∃ u, us = [u] ∧ RelV x u
  | _, _, .cons r .nil => ⟨_, rfl, r⟩
theorem Vals.two : ∀ {x y : V} {us : List Value}, Vals [x, y] us → ∃ u v, us = [u, v] ∧ RelV x u ∧ RelV y v
  | _, _, _, .cons r (.cons q .nil) => ⟨_, _, rfl, r, q⟩
theorem Vals.zero : ∀ {us : List Value}, Vals [] us → us = []
  | _, .nil => rfl
theorem Vals.dropLast {xs : List V} {us : List Value} (h : Vals xs us) : Vals xs.dropLast us.dropLast := by
  induction h with
  | nil => exact .nil
  | cons r t ih =>
    cases t with
    | nil => exact .nil
    | cons q t' => exact .cons r ih
theorem Vals.eraseIdx : ∀ {xs : List V} {us : List Value} (i : Nat), Vals xs us → Vals (xs.eraseIdx i) (us.eraseIdx i)
  | _, _, _, .nil => .nil
  | _, _, 0, .cons _ t => t
  | _, _, i + 1, .cons r t => .cons r (Vals.eraseIdx i t)
theorem Vals.reverse {xs : List V} {us : List Value} (h : Vals xs us) : Vals xs.reverse us.reverse := by
  induction h with
  | nil => exact .nil
  | cons r t ih => rw [List.reverse_cons, List.reverse_cons]; exact Vals.append ih (.cons r .nil)
theorem Vals.rep {xs : List V} {us : List Value} (h : Vals xs us) : ∀ k : Nat, Vals (List.replicate k xs).flatten (List.replicate k us).flatten
  | 0 => .nil
  | k + 1 => by
    rw [List.replicate_succ, List.replicate_succ, List.flatten_cons, List.flatten_cons]
    exact Vals.append h (Vals.rep h k)
theorem erase_last {α : Type} (l : List α) : l.eraseIdx (l.length - 1) = l.dropLast := by
  induction l with
  | nil => rfl
  | cons a r ih =>
    cases r with
    | nil => rfl
    | cons b r =>
      have e : (a :: b :: r).length - 1 = ((b :: r).length - 1) + 1 := by
        have h1 : (a :: b :: r).length = r.length + 2 := rfl
        have h2 : (b :: r).length = r.length + 1 := rfl
        omega
      rw [e, List.eraseIdx_cons_succ, ih]
      all_goals rfl
theorem foldl_rep (its : List Value) : ∀ (k : Nat) (acc : List Value),
    List.foldl (fun x1 x2 => x1 ++ x2) acc.toArray (List.replicate k its.toArray) = (acc ++ (List.replicate k its).flatten).toArray
  | 0, acc => by simp
  | k + 1, acc => by
    have e : acc.toArray ++ its.toArray = (acc ++ its).toArray := by simp
    have e2 : (acc ++ its) ++ (List.replicate k its).flatten = acc ++ (List.replicate (k + 1) its).flatten := by
      rw [List.replicate_succ, List.flatten_cons, List.append_assoc]
    rw [← e2, ← foldl_rep its k (acc ++ its), ← e, List.replicate_succ, List.foldl_cons]

section
variable {X : Cx} {pins : List (Addr × Obj)} {σ : St} {H : Hp} {s : Shared} {l b : Addr} {xs ys zs : List V}

/-! ### the two steps: a tracked list is rewritten, a new list is laid -/
theorem Inv.lset {its its' : List Value} {n : Nat} {f : Array Value → Array Value} {t' : Nat} (I : Inv X pins σ H s) (hH : H l = some (.lst xs))
    (e : s.heap.get? l = some { cls := .type "list", data := .seq its.toArray n }) (hf : f its.toArray = its'.toArray) (hv : Vals ys its') (hz : ys.length ≤ sizeLine) :
    Inv X pins σ (upd H l (.lst ys)) { s with heap := s.heap.update l (Obj.mapSeq f), toks := t' } := by
  have q := PySem.IsL.update e f
  rw [hf] at q
  refine I.write (x := l) (e := l) (by rw [hH]; exact trivial) (.inl rfl) (fun b' u hb hu => (Heap.get?_update_other s.heap (Obj.mapSeq f) (Ne.symm hb)).trans hu) ⟨_, q⟩ ?_
  exact ⟨hz, its', _, hv, q⟩
theorem Inv.lnew {its : List Value} {t' : Nat} (I : Inv X pins σ H s) (hv : Vals ys its) (hz : ys.length ≤ sizeLine) :
    Inv X pins σ (upd H s.heap.objs.size (.lst ys)) { s with heap := s.heap.push { cls := .type "list", data := .seq its.toArray }, toks := t' } :=
  I.laid (fun _ _ q => Heap.get?_push_of_some _ q) (Nat.le_refl _) ⟨hz, its, 0, hv, Heap.get?_push_size _ rfl⟩
theorem Inv.fresh (I : Inv X pins σ H s) : H s.heap.objs.size = none := I.hok.fresh (Nat.le_refl _)
theorem Inv.lstM (I : Inv X pins σ H s) (hH : H l = some (.lst xs)) : xs.length ≤ sizeLine ∧ ∃ (its : List Value) (n : Nat), Vals xs its ∧ xs.length = its.length ∧ s.heap.get? l = some { cls := .type "list", data := .seq its.toArray n } := by
  obtain ⟨z, its, n, r, e⟩ := I.hok l _ hH
  exact ⟨z, its, n, r, r.length, e⟩

theorem notLongL {n : Nat} (h : n ≤ sizeLine) : Builtin.List.listTooLong n = false := by
  unfold Builtin.List.listTooLong
  exact decide_eq_false (by omega)
end

section
variable {X : Cx}

/-! ### methods -/
noncomputable def rAppend : V → List V → Hp → VK → Prop := fun x vs H Q => ∃ l xs y, x = .ref l ∧ vs = [y] ∧ H l = some (.lst xs) ∧ xs.length < sizeLine ∧ Q .non (upd H l (.lst (xs ++ [y])))
theorem mt_append : MtM X "list.append" rAppend := by
  intro pins s σ H x vs v us Q I rx rv h
  obtain ⟨l, xs, y, rfl, rfl, hH, hz, q⟩ := h
  cases rx
  obtain ⟨u, rfl, ru⟩ := rv.one
  obtain ⟨z, its, n, r, hl, e⟩ := I.lstM hH
  refine call_meets F.slot_list_append ⟨_, e, rfl⟩ F.entry_list_append (F.args_list_append_2 _ _) (PySem.list_append l its.toArray n u (by rw [List.size_toArray]; omega)) ⟨e, ?_⟩
  refine ⟨.non, _, I.lset (its' := its ++ [u]) hH e (by simp) (r.append (.cons ru .nil)) ?_, rfl, q⟩
  rw [List.length_append, List.length_singleton]
  omega

noncomputable def rPop : V → List V → Hp → VK → Prop := fun x vs H Q => ∃ l xs y, x = .ref l ∧ vs = [] ∧ H l = some (.lst xs) ∧ xs[xs.length - 1]? = some y ∧ Q y (upd H l (.lst xs.dropLast))
theorem mt_pop : MtM X "list.pop" rPop := by
  intro pins s σ H x vs v us Q I rx rv h
  obtain ⟨l, xs, y, rfl, rfl, hH, hy, q⟩ := h
  cases rx
  have hus := rv.zero
  subst hus
  obtain ⟨z, its, n, r, hl, e⟩ := I.lstM hH
  obtain ⟨u, hu, ru⟩ := r.get hy
  have hy' : its.toArray[its.toArray.size - 1]? = some u := by
    show its.toArray[its.length - 1]? = some u
    rw [← Array.getElem?_toList, ← hl]
    exact hu
  refine call_meets F.slot_list_pop ⟨_, e, rfl⟩ F.entry_list_pop (F.args_list_pop_1 _) (MeetsSeq.list_pop_last l its.toArray n u hy' (by rw [List.size_toArray]; omega)) ⟨e, ?_⟩
  refine ⟨y, _, I.lset (its' := its.dropLast) hH e ?_ r.dropLast ?_, ru, q⟩
  · show its.toArray.eraseIdxIfInBounds (its.toArray.size - 1) = its.dropLast.toArray
    rw [List.size_toArray, List.eraseIdxIfInBounds_toArray, erase_last]
  · rw [List.length_dropLast]
    omega

/-! ### list + list, list += list, list * int -/
/-- a list times an int (a negative one is nothing) -/
noncomputable def rRep : R2 := fun x y H Q => ∃ l k xs, x = .ref l ∧ y = .int k ∧ H l = some (.lst xs) ∧ -(2 ^ 63) ≤ k ∧ k < 2 ^ 63 ∧ xs.length * k.toNat ≤ sizeLine ∧
  ∀ p, H p = none → Q (.ref p) (upd H p (.lst (List.replicate k.toNat xs).flatten))
theorem len_rep {α : Type} (xs : List α) (k : Nat) : (List.replicate k xs).flatten.length = k * xs.length := by
  induction k with
  | zero => simp
  | succ k ih => rw [List.replicate_succ, List.flatten_cons, List.length_append, ih, Nat.succ_mul, Nat.add_comm]
theorem op_rep : OpR X (binaryOp .Mult) rRep := by
  intro pins s σ H x y v u Q I rx ry h
  obtain ⟨l, k, xs, rfl, rfl, hH, h1, h2, hz, q⟩ := h
  cases rx
  obtain ⟨t, rfl⟩ := ry
  obtain ⟨z, its, n, r, hl, e⟩ := I.lstM hH
  have hlen : its.toArray.size * k.toNat ≤ sizeLine := by rw [List.size_toArray, ← hl]; exact hz
  have hcap : ¬ its.toArray.size * k.toNat > (2 ^ 63 - 1) / 8 := by
    have : (sizeLine : Nat) ≤ (2 ^ 63 - 1) / 8 := by decide
    omega
  have hfit : ¬ (!Builtin.List.listFitsIndex k) = true := by
    rw [fitsIndex_both h1 h2]
    exact Bool.false_ne_true
  have hlong : ¬ Builtin.List.listTooLong (its.toArray.size * k.toNat) = true := by
    rw [notLongL hlen]
    exact Bool.false_ne_true
  have hnew : List.foldl (fun x1 x2 => x1 ++ x2) #[] (List.replicate (if its.toArray.isEmpty = true then 0 else k.toNat) its.toArray) = (List.replicate k.toNat its).flatten.toArray := by
    have f0 : ∀ m : Nat, List.foldl (fun x1 x2 => x1 ++ x2) #[] (List.replicate m its.toArray) = (List.replicate m its).flatten.toArray := fun m => by
      have := foldl_rep its m []
      rw [List.nil_append] at this
      exact this
    rw [f0]
    cases its with
    | nil => simp
    | cons a r' => rw [if_neg (by simp)]
  refine wpAny_binaryOp_repeat_ref (T := "list") (U := "int") (by decide) ⟨_, e, rfl⟩ (fun s' => typeIs_int s' k t) noFill_list_mul F.fills_int_mul F.slot_int_rmul repeat_list F.slot_int_index.lookup
    (call_meets F.slot_int_rmul (typeIs_int s k t) F.entry_int_rmul (F.args_int_rmul_2 _ _) (int___rmul___int_list k t l its.toArray n)
      ⟨e, rfl, ⟨_, e, rfl⟩, call_meets F.slot_list_mul ⟨_, e, rfl⟩ F.entry_list_mul (F.args_list_mul_2 _ _) (AutoListH.list___mul___list_int_3 l its.toArray n k t hfit hcap hlong) ⟨e, ?_⟩⟩)
  rw [hnew]
  exact ⟨.ref _, _, I.lnew (t' := s.toks) (r.rep k.toNat) (by rw [len_rep, Nat.mul_comm]; exact hz), rfl, q _ I.fresh⟩

/-! ### del xs[i] -/
end

/-! ### xs[a:b] = ys -/
section
variable {prog : Program} {w : World} {A : Around} {E : Value → Shared → Prop} {s : Shared}
end

section
variable {X : Cx}
end
end L2

namespace Att
open PySem PySem.W PySem.Calls PyProof.Rows

/-! ### the script -/
theorem ints_of_wellAll {P : Params} {h : Heap} : ∀ (ns : List Int) (vs : List Value), WellAll P h vs (ns.map WData.int) → IntsAre vs ns := by
  intro ns
  induction ns with
  | nil =>
    intro vs w
    rw [List.map_nil] at w
    cases w
    exact .nil
  | cons n ns ih =>
    intro vs w
    rw [List.map_cons] at w
    cases w with
    | cons a b =>
      cases a
      exact .cons _ _ (ih _ b)

theorem script_of {l : OpenLaw} {n : Nat} (hn : l.most = some n) {P : Params} {h : Heap} {args : List WData} {vals : List Value}
    (hpre : l.row.toRowW.claim.pre args = true) (hwl : WellAll P h vals args) :
    ∃ a vs ns, vals = [Value.ref a] ∧ args = [WData.list (ns.map WData.int)] ∧ h.get? a = some { cls := .type "list", data := .seq vs.toArray } ∧ IntsAre vs ns ∧ ns.length ≤ n := by
  have hsh : WShape.hasAll [] args [.list .int] = true := (pre_splitW hpre).1
  have hc : l.pre.holds [] { args := args } = true := (pre_splitW hpre).2
  obtain ⟨d, r, rfl, h1, h2⟩ := hasAllW_cons hsh
  obtain rfl := hasAllW_nil h2
  obtain ⟨xs, rfl, h3⟩ := hasW_list h1
  obtain ⟨ns, rfl⟩ := items_int h3
  have hlen : ns.length ≤ n := by
    unfold OpenLaw.pre at hc
    have h4 : (WTm.not (.lt (.lit (.int (n : Int))) (.len (.arg 0)))).holds [] { args := [.list (ns.map .int)] } = true := by
      have h4 := (holds_andW hc).1
      rw [hn] at h4
      exact h4
    have h5 := condW_of h4 (w_not (w_lt w_lit (w_len_list (w_arg rfl))))
    rw [List.length_map] at h5
    refine Nat.le_of_not_lt fun q => ?_
    have q' : (n : Int) < ((ns.length : Nat) : Int) := by omega
    first
      | (rw [decide_eq_true q'] at h5; exact absurd h5 (by decide))
      | (simp at h5; omega)
  cases hwl with
  | cons w1 w2 =>
    cases w2
    cases w1 with
    | list ho hall => exact ⟨_, _, ns, rfl, rfl, ho, ints_of_wellAll ns _ hall, hlen⟩

theorem post_true (l : OpenLaw) (args : List WData) : l.row.toRowW.claim.post args (.bool true) args = true :=
  postW_of (r := l.row.toRowW) (X := (true == true))
    (show WShape.has [] (.bool true) .bool = true by first | rfl | decide | simp [WShape.has, WShape.arms, WShape.armsAll])
    (show (WTm.eq .res (.lit (.bool true))).value [] { args := args, res := some (.bool true), after := args } = some (.bool (true == true)) from w_eq_bool (w_res rfl) w_lit) rfl

/-! ### the attachment: holds_open's last premise (the goal 'hc' behind k_head) from a wpAny of the law's body -/
/-- the same from a codeAny of the CALL (for a layer whose function contracts speak of calls) -/
theorem attach_call {l : OpenLaw} {n : Nat} {q : Program} {loose : List Str} {XP : (Str → Option Value) → Heap → Prop} {YP : World → Heap → Prop} {d : DefRec}
    (hn : l.most = some n) (hdf : d.params.defaults = [])
    (call : ∀ (w : World) (s₀ s₁ : Shared) (mg mb : Str → Option Value) (fa : Addr) (o : Obj) (pm cd doc : Value) (a : Addr) (vs : List Value) (ns : List Int),
      Ground q loose [] XP w s₀ mg mb s₁.heap → YP w s₁.heap →
      s₁.heap.get? fa = some o → o.data = .func (docDef d.name d.params d.body d.scope pm cd doc) → s₁.heap.CodeRec cd d.name → mg d.name = some (.ref fa) →
      s₁.heap.get? a = some { cls := .type "list", data := .seq vs.toArray } → IntsAre vs ns → ns.length ≤ n → s₁.gens = #[] →
      codeAny (model l.prog w) callerA (.call (.ref fa) ⟨[.ref a], []⟩) (fun r s' => r = .ok (.ret (.bool true)) ∧ OldK s₁.heap s'.heap ∧ s'.os = s₁.os ∧ AllBare s'.gens) s₁) :
    WalkO q loose XP YP l.row.toRowW d [] (fun f vs => PySem.call f vs) := by
  intro w s₀ s₁ mg mb G Y fa o pm cd doc dV kV ho hd hcd hD hmg hg args vals as hpre hlay hrd hwl hlo
  obtain rfl : dV = .none := Dflts.none hD hdf
  obtain rfl : kV = .none := Dflts.noKw hD
  obtain ⟨a, vs, ns, rfl, rfl, hobj, hints, hlen⟩ := script_of hn hpre hwl
  refine enter_call (codeAny_mono (call w s₀ s₁ mg mb fa o pm cd doc a vs ns G Y ho (fd_plain hd) hcd hmg hobj hints hlen hg) fun r s' hq => ?_)
  obtain ⟨rfl, h2, h3, h4⟩ := hq
  exact ⟨.inl ⟨.bool true, .bool true, [], rfl, fun _ => rfl, .bool true, post_true l _, fun _ => ⟨List.Pairwise.nil, fun _ hm => (nomatch hm)⟩⟩, h2, h3, h4⟩

/-! ### rules over ANY heap (no ledger) from facts about the written part K: the library's own take a ledger (News) for what they write -/
section
variable {prog : Program} {w : World} {A : Around} {E : Value → Shared → Prop} {s : Shared} {K : Frag}

/-! the whole heap as the ledger: makes every rule that writes through a ledger a rule over any heap -/
noncomputable def ledger (h : Heap) (L d : Addr) : List (Addr × Obj) := (List.range h.objs.size).filterMap fun a => if a = L ∨ a = d then none else (h.get? a).map fun o => (a, o)
end
end Att

namespace L2
open PySem PySem.Spec PyProof.Rows

theorem vals_ints : ∀ {vs : List Value} {ns : List Int}, IntsAre vs ns → Vals (ns.map V.int) vs
  | _, _, .nil => .nil
  | _, _, .cons n t h => .cons ⟨t, rfl⟩ (vals_ints h)

/-- nothing is tracked but the script, known to the object (or it is an object of the module) -/
noncomputable def Only (H : Hp) : Prop := ∀ b, H b = none ∨ ∃ o xs, H b = some (.frz o (.lst xs))

/-- THE HEAD: the law's promise, at the heap behind the top. F, the promise of the law's def, may use that base is part of the heap (so K.In base, base.Ns mainGlobals mg stand in Mod) -/
theorem law_call {P : Program} {w : World} {K : PySem.W.Frag} {mg mb : Str → Option Value} {CX : CXT} {k : Nat} {fa a : Addr} {fd : FuncData} {x : Str} {sp : Sp} {s₁ : Shared} {vs : List Value} {ns : List Int}
    (KX : K.In s₁.heap) (hns : s₁.heap.Ns mainGlobals mg) (hb : s₁.heap.Ns builtinsNs mb) (hbb : ∀ x : Str, x ≠ "__name__" → mb x = bootBuiltins x) (hlim : s₁.heap.NoLimit) (hg : s₁.gens = #[])
    (ha : s₁.heap.get? a = some { cls := .type "list", data := .seq vs.toArray }) (hi : IntsAre vs ns) (hl : ns.length ≤ sizeLine) (hr : Room k callerA)
    (F : ∀ base : Heap, K.In base → base.Ns mainGlobals mg → FnOk P w K mg base CX k fa fd [x] sp) (hbind : ∀ (s : Shared) (u : Value), BindsTo s fd ⟨[u], []⟩ [(x, u)])
    (hsp : ∀ H : Hp, Only H → SqL K H a (ns.map V.int) → sp [.ref a] H (fun v _ => v = .bl true) fun _ _ _ => False)
    (hCX : ∀ H e s', CX [] H s₁ (fun _ _ _ => False) e s' → False) :
    codeAny (model P w) callerA (.call (.ref fa) ⟨[.ref a], []⟩) (fun r s' => r = .ok (.ret (.bool true)) ∧ OldK s₁.heap s'.heap ∧ s'.os = s₁.os ∧ AllBare s'.gens) s₁ := by
  have rv := vals_ints hi
  have lenV := hi.length
  -- from an abstract heap in which nothing but the script may be tracked
  have core : ∀ H : Hp, Only H → SqL K H a (ns.map V.int) → HOk P w H s₁.heap → (∀ b, H b ≠ none → b = a) → (H a ≠ none → K.lookup a = none) →
      codeAny (model P w) callerA (.call (.ref fa) ⟨[.ref a], []⟩) (fun r s' => r = .ok (.ret (.bool true)) ∧ OldK s₁.heap s'.heap ∧ s'.os = s₁.os ∧ AllBare s'.gens) s₁ := by
    intro H hO hS hok hA hK
    have base_of : ∀ {b : Addr} {o : Obj}, s₁.heap.get? b = some o → H b = none → (hidT s₁.heap H).get? b = some o := fun e n => hidT_get e n
    have noA : ∀ {b : Addr} {o : Obj} {es : Array DictEntry} {ep : Nat}, s₁.heap.get? b = some o → o.data = .dict es ep → H b = none := fun {b o es ep} e d => by
      cases q : H b with
      | none => rfl
      | some u =>
        have e' : b = a := hA b (by rw [q]; simp)
        subst e'
        rw [ha] at e; cases e
        have d' : Data.seq vs.toArray _ = Data.dict es ep := d
        cases d'
    have nsK : ∀ {b : Addr} {m : Str → Option Value}, s₁.heap.Ns b m → (hidT s₁.heap H).Ns b m := fun {b m} ⟨o, es, ep, e, d, r⟩ => ⟨o, es, ep, base_of e (noA e d), d, r⟩
    have hKb : K.In (hidT s₁.heap H) := fun b o e => base_of (KX b o e) (by
      cases q : H b with
      | none => rfl
      | some u =>
        have e' : b = a := hA b (by rw [q]; simp)
        subst e'
        rw [hK (by rw [q]; simp)] at e; cases e)
    have hM : Mod K mg (hidT s₁.heap H) := ⟨hKb, nsK hns, ⟨mb, nsK hb, hbb⟩, let ⟨mc, h1, h2⟩ := hlim; ⟨mc, nsK h1, h2⟩⟩
    have e0 : Env0 P w K mg (hidT s₁.heap H) callerA [] s₁ H := ⟨rfl, hM, fun b o e => of_hidT e, Nat.le_of_eq (hidT_size _ _), trivial, fun b hb => absurd (show b ∈ ([] : List Addr) from hb) (by simp), hok, .of_eq hg⟩
    refine codeAny_mono ((F _ hKb (nsK hns)).run callerA [] s₁ H ⟨[.ref a], []⟩ [.ref a] [.ref a] _ _ hr e0 (hbind s₁ (.ref a)) (.cons rfl .nil) (hsp H hO hS)) fun r s' h => ?_
    cases r with
    | error e => exact (hCX H e s' h).elim
    | ok fl =>
      cases fl with
      | next => exact False.elim h
      | brk => exact False.elim h
      | cont => exact False.elim h
      | ret u =>
        obtain ⟨v, H', os, bare, un, hok', r', q⟩ := h
        have q' : v = .bl true := q
        subst q'
        obtain rfl : u = Value.bool true := r'
        refine ⟨rfl, OldK.of_keep fun b o e => ?_, os, bare⟩
        cases q : H b with
        | none => exact un.keep b o e q (by intro z; exact absurd (show b ∈ ([] : List Addr) from z) (by simp)) (by simp)
        | some u =>
          rcases hO b with z | ⟨ob, xs, z⟩
          · rw [q] at z; cases z
          · have z2 := un.frzs b ob _ z
            obtain ⟨e1, _⟩ := hok b _ z
            obtain ⟨e2, _⟩ := hok' b _ z2
            rw [e] at e1; cases e1
            exact e2
  cases hk : K.lookup a with
  | some o =>
    -- the script is one of the module's own objects
    have e := KX a o hk
    rw [ha] at e
    cases e
    refine core (fun _ => none) (fun _ => .inl rfl) (.inr ⟨_, vs.toArray, _, hk, rfl, rfl, rfl, by rw [List.size_toArray, lenV]; exact hl, by simpa using rv⟩) (fun b u z => by have z' : (none : Option HO) = some u := z; cases z') (fun b z => absurd rfl z) fun z => absurd rfl z
  | none =>
    refine core (fun b => if b = a then some (.frz { cls := .type "list", data := .seq vs.toArray } (.lst (ns.map V.int))) else none) (fun b => ?_) (.inl (.inr ⟨{ cls := .type "list", data := .seq vs.toArray }, if_pos rfl⟩)) (fun b u z => ?_) (fun b z => ?_) fun _ => hk
    · by_cases hb : b = a
      · exact .inr ⟨_, _, if_pos hb⟩
      · exact .inl (if_neg hb)
    · by_cases hb : b = a
      · have z' := (if_pos hb).symm.trans z
        cases z'
        subst hb
        exact ⟨ha, by rw [List.length_map]; exact hl, vs, _, rv, ha⟩
      · have z' := (if_neg hb).symm.trans z
        cases z'
    · by_cases hb : b = a
      · exact hb
      · exact absurd (if_neg hb) z
end L2

namespace L2
open PySem PySem.Spec PyProof.Rows

noncomputable abbrev KOf {K : PySem.W.Frag} {h : Heap} (_ : K.In h) : PySem.W.Frag := K

/-- the goal that k_head leaves (case hc), from the law's promise. F gives the function object fd (K's own) once, then the promise over every base -/
theorem walk_of {l : PySem.W.OpenLaw} {n k : Nat} {q : Program} {loose : List Str} {XP : (Str → Option Value) → Heap → Prop} {YP : World → Heap → Prop} {d : DefRec} {K : Params → PySem.W.Frag} {CX : World → CXT} {sp : World → Sp} {x : Str}
    (hn : l.most = some n) (hn2 : n ≤ sizeLine) (hdf : d.params.defaults = []) (hr : Room k callerA)
    (hY : ∀ (w : World) (h : Heap), YP w h → (K w.params).In h)
    (F : ∀ (w : World) (mg : Str → Option Value) (fa : Addr) (h : Heap), (K w.params).In h → h.Ns mainGlobals mg → mg d.name = some (.ref fa) →
      ∃ fd : FuncData, (∀ (s : Shared) (u : Value), BindsTo s fd ⟨[u], []⟩ [(x, u)]) ∧
        ∀ base : Heap, (K w.params).In base → base.Ns mainGlobals mg → FnOk l.prog w (K w.params) mg base (CX w) k fa fd [x] (sp w))
    (hsp : ∀ (w : World) (H : Hp) (a : Addr) (ns : List Int), ns.length ≤ n → Only H → SqL (K w.params) H a (ns.map V.int) → sp w [.ref a] H (fun v _ => v = .bl true) fun _ _ _ => False)
    (hCX : ∀ (w : World) (H : Hp) (s : Shared) (e : Value) (s' : Shared), CX w [] H s (fun _ _ _ => False) e s' → False) :
    PySem.W.WalkO q loose XP YP l.row.toRowW d [] (fun f vs => PySem.call f vs) := by
  refine Att.attach_call hn hdf fun w s₀ s₁ mg mb fa o pm cd doc a vs ns G Y ho hd hcd hmg hobj hints hlen hg => ?_
  have KX := hY w _ Y
  obtain ⟨fd, hb, hF⟩ := F w mg fa _ KX G.T.g hmg
  exact law_call KX G.T.g G.T.b G.T.builtins G.T.nolimit hg hobj hints (Nat.le_trans hlen hn2) hr hF hb (fun H hO hS => hsp w H a ns hlen hO hS) fun H e s' => hCX w H s₁ e s'
end L2

/- THE LAST THEOREM (shape; LID, My.* are yours):
   My.Adr: a structure of the addresses that your layer names (classes, functions); My.Txt K t: a structure (Prop) of the equations over K;
   My.txt_mk : {K} {implicit addresses ..} (e1 : nsIn K mainGlobals "law" = some (some (.ref f))) (e2 : K.lookup f = some ⟨oc, od, .func (fnOf "law" "law" params body scope dV kV doc pm an cdv ct), sl⟩) (e3 : codeIn K cdv "law" = true) .. : ∃ t, My.Txt K t

set_option maxRecDepth 100000 in
set_option maxHeartbeats 0 in
theorem PySem.Challenge.cw_LID_holds : PySem.Challenge.rw_LID.Holds := by
  w_on; o_law; k_head; (case hw => w_witness2)
  k_fill
  refine L2.walk_of (l := PySem.Challenge.rw_LID) (n := 63) (k := 40) (x := "script") (CX := fun w => ..) (sp := fun _ => My.sp_law) rfl (by decide) rfl ⟨rfl, by decide, by decide⟩ (fun w h Y => PySem.W.kIn_of Y) ?F ?S ?C
  case F =>
    intro w mg fa h KX G hmg
    have T : ∃ t, My.Txt (L2.KOf KX) t := by
      dsimp only [L2.KOf]                          -- K must stand as «<heap const> w.params» for k_is
      refine' My.txt_mk ?e1 ?e2 ?e3 ..
      (case e1 => PySem.W.k_is)                    -- in the order: a name -> its address -> its object -> its parts
      (case e2 => PySem.W.k_is)
      ..
    obtain ⟨t, T⟩ := T
    have e0 := hmg.symm.trans (PySem.W.mg_of KX G T.law)
    cases e0                                       -- fa is the law's own address
    exact ⟨_, fun s u => .of_eq rfl, fun base kb nb => My.law_fn T kb nb⟩     -- if «.of_eq rfl» comes too early: refine' ⟨_, ?b, fun base kb nb => My.law_fn T kb nb⟩; exact fun s u => .of_eq rfl
  case S => exact fun w H a ns hl hO hS => ..
  case C => exact ..
(the tactic k_is has no namespace: write k_is) -/

/-! SHORT WORDS over the layer: a def of the text, its body, what a loop and a test want. -/
namespace L2
open PySem PySem.Spec PyProof.Rows

/-! ### the text by places -/
/-- the j-th statement of a class's body -/
noncomputable def inClass (s : Stmt) (j : Nat) : Stmt := match s with
  | .ClassDef _ _ _ body _ _ _ _ _ _ _ => body.getD j (.Pass ⟨0, 0, 0, 0⟩)
  | _ => .Pass ⟨0, 0, 0, 0⟩
noncomputable def defArgs (s : Stmt) : Arguments := match s with
  | .FunctionDef _ a _ _ _ _ _ _ _ _ => a
  | _ => { posonlyargs := [], args := [], vararg := none, kwonlyargs := [], kw_defaults := [], kwarg := none, defaults := [] }
noncomputable def defBody (s : Stmt) : List Stmt := match s with
  | .FunctionDef _ _ b _ _ _ _ _ _ _ => b
  | _ => []
noncomputable def defScope (s : Stmt) : Scope := match s with
  | .FunctionDef _ _ _ _ _ _ sc _ _ _ => sc
  | _ => { kind := .function, names := [], isGenerator := false, isCoroutine := false }

/-! ### no exception leaves a def -/
noncomputable abbrev CX0 : CXT := fun _ _ _ _ _ _ => False
noncomputable abbrev E0 : XK := fun _ _ _ => False
theorem pass0 {X : Cx} : Passes CX0 X E0 := fun _ _ _ _ _ _ _ h => h.elim

/-! ### a def (or method) of the text as it stands behind the top -/
structure Fun (K : PySem.W.Frag) (x qual : Str) (st : Stmt) (f : Addr) (fd : FuncData) : Prop where
  ex : ∃ (oc : Value) (od : Option Addr) (kV doc pm : Value) (an : Option Addr) (cdv ct : Value) (osl : Array (Option Value)),
    fd = PySem.W.fnOf x qual (defArgs st) (defBody st) (defScope st) .none kV doc pm an cdv ct ∧ K.lookup f = some ⟨oc, od, .func fd, osl⟩ ∧ PySem.W.codeIn K cdv qual = true
  kp : PySem.W.keepIn K (.ref f) = true
section
variable {P : Program} {w : World} {K : PySem.W.Frag} {mg : Str → Option Value} {base : Heap}
/-- THE RULE for a def: its body as a term of rules, and the reading of that term -/
theorem Fun.ok {x qual : Str} {st : Stmt} {f : Addr} {fd : FuncData} {N ps : List Str} {k : Nat} {sp : Sp} (F : Fun K x qual st f fd) (S : FnScope N ps (defScope st)) (len : ∀ vs H Q E, sp vs H Q E → vs.length = ps.length)
    (hbody : ∀ (cdv : Value) (A : Around) (outer : List Env) (s : Shared) (H : Hp) (vs : List V) (Q : VK) (E : XK), Room k (A.deeper (envOfC qual (defScope st) s.heap.objs.size f cdv)) → sp vs H Q E →
      ∃ t, PSs (cxOf CX0 P w K mg base N qual (defScope st) f cdv A outer s H E).nox (defBody st) t ∧ t { nx := fun _ H' => Q .non H', rt := Q } (start N vs) H) : FnOk P w K mg base CX0 (k + 1) f fd ps sp := by
  obtain ⟨oc, od, kV, doc, pm, an, cdv, ct, osl, rfl, lk, hcd⟩ := F.ex
  refine fn_of lk hcd S len fun A outer s H vs Q E hr hsp => ?_
  obtain ⟨t, h, q⟩ := hbody cdv A outer s H vs Q E hr hsp
  exact ⟨t, h.nox, q⟩
/-- how its arguments bind (no defaults): h is «fun _ _ _ _ _ _ us hl => match us, hl with | [_, _], _ => rfl», one _ a parameter -/
theorem Fun.binds {x qual : Str} {st : Stmt} {f : Addr} {fd : FuncData} {ps : List Str} (F : Fun K x qual st f fd)
    (h : ∀ (kV doc pm : Value) (an : Option Addr) (cdv ct : Value) (us : List Value), us.length = ps.length → bindArgs (PySem.W.fnOf x qual (defArgs st) (defBody st) (defScope st) .none kV doc pm an cdv ct) ⟨us, []⟩ = pure (ps.zip us)) : Binds K fd ps [] := by
  obtain ⟨oc, od, kV, doc, pm, an, cdv, ct, osl, rfl, lk, hcd⟩ := F.ex
  exact .all (h kV doc pm an cdv ct)
theorem fun_mk {x qual : Str} {st : Stmt} {f : Addr} {oc : Value} {od an : Option Addr} {osl : Array (Option Value)} {kV doc pm cdv ct : Value} (l : K.lookup f = some ⟨oc, od, .func (PySem.W.fnOf x qual (defArgs st) (defBody st) (defScope st) .none kV doc pm an cdv ct), osl⟩)
    (c : PySem.W.codeIn K cdv qual = true) (k : PySem.W.keepIn K (.ref f) = true) : Fun K x qual st f (PySem.W.fnOf x qual (defArgs st) (defBody st) (defScope st) .none kV doc pm an cdv ct) := ⟨⟨oc, od, kV, doc, pm, an, cdv, ct, osl, rfl, l, c⟩, k⟩
end
theorem small1000 {n : Nat} (h : n ≤ 1000) : n < sizeLine := Nat.lt_of_le_of_lt h (by decide)

/-! ### expressions in short: the name that stands in the i-th slot -/
section
variable {X : Cx}
theorem pv (i : Nat) {x : Str} {pos : Pos} (hN : X.N[i]? = some x := by rfl) (hv : Vis X.env.scope x := by first | exact Or.inl rfl | exact Or.inr (Or.inl rfl) | exact Or.inr (Or.inr rfl)) (hd : (x == ("__debug__" : Str)) = false := by decide)
    (hcd : (x == ("__classdict__" : Str)) = false := by decide) : PE X (.Name x pos) (tVar i) := pe_var hN hv hd hcd
end

/-! ### tests -/
theorem iteF {A B : Prop} (h : B) : if false = true then A else B := by
  rw [if_neg Bool.false_ne_true]
  exact h
theorem iteT {A B : Prop} (h : A) : if true = true then A else B := by
  rw [if_pos rfl]
  exact h
/-! ### heaps -/
/-- all that was tracked is as it was -/
noncomputable def Same (H H' : Hp) : Prop := ∀ b o, H b = some o → H' b = some o
theorem Same.refl (H : Hp) : Same H H := fun _ _ h => h
theorem Same.trans {H H1 H2 : Hp} (a : Same H H1) (b : Same H1 H2) : Same H H2 := fun c o h => b c o (a c o h)
theorem Same.free {H H' : Hp} (e : Same H H') {l : Addr} (h : H' l = Option.none) : H l = Option.none := by
  cases q : H l with
  | none => rfl
  | some o =>
    rw [e l o q] at h
    cases h
theorem Same.seq {K : PySem.W.Frag} {H H' : Hp} {a : Addr} {xs : List V} (e : Same H H') (h : SqL K H a xs) : SqL K H' a xs := by
  rcases h with (h | ⟨o, h⟩) | h
  · exact .inl (.inl (e _ _ h))
  · exact .inl (.inr ⟨o, e _ _ h⟩)
  · exact .inr h

end L2

/-! ### whole numbers that lean on the frame (and what is read of the heap) alone -/
namespace L2
open PySem PySem.Spec PyProof.Rows
/-- the int in slot i -/
noncomputable def gI (σ : St) (i : Nat) : Int := match σ[i]? with
  | some (some (.int n)) => n
  | _ => 0
noncomputable def hI (σ : St) (i : Nat) : Prop := σ[i]? = some (some (.int (gI σ i)))
/-- a number g under C, the heap stays -/
noncomputable def tN (C : St → Hp → Prop) (g : St → Int) : TE := fun σ H Q => C σ H ∧ Q (.int (g σ)) H
/-- a test p under C, the heap stays -/
noncomputable def tP (C : St → Hp → Prop) (p : St → Prop) [∀ σ, Decidable (p σ)] : TT := fun σ H Q => C σ H ∧ Q (decide (p σ)) H
/-- the same as a value -/
noncomputable def tV (C : St → Hp → Prop) (p : St → Prop) [∀ σ, Decidable (p σ)] : TE := fun σ H Q => C σ H ∧ Q (.bl (decide (p σ))) H
/-- several numbers -/
noncomputable def tNs (C : St → Hp → Prop) (g : St → List Int) : TA := fun σ H Q => C σ H ∧ Q ((g σ).map V.int) H
section
variable {X : Cx} {a b : Expr} {pos : Pos} {Ca Cb : St → Hp → Prop} {ga gb : St → Int}
theorem pn_var (i : Nat) {x : Str} (hN : X.N[i]? = some x := by rfl) (hv : Vis X.env.scope x := by first | exact Or.inl rfl | exact Or.inr (Or.inl rfl) | exact Or.inr (Or.inr rfl))
    (hd : (x == ("__debug__" : Str)) = false := by decide) (hcd : (x == ("__classdict__" : Str)) = false := by decide) : PE X (.Name x pos) (tN (fun σ _ => hI σ i) (fun σ => gI σ i)) :=
  fun pins s σ H Q I h => pe_var hN hv hd hcd pins s σ H Q I ⟨_, h.1, h.2⟩
theorem pn_int {i : Int} {j : Nat} : PE X (.Constant (.int i) j pos) (tN (fun _ _ => True) (fun _ => i)) := fun pins s σ H Q I h => pe_int pins s σ H Q I h.2
theorem pn_glob {x : Str} {i : Int} (hg : Gl X x) (hm : ∃ tk, X.mg x = some (.int i tk)) (hd : (x == ("__debug__" : Str)) = false := by decide) : PE X (.Name x pos) (tN (fun _ _ => True) (fun _ => i)) :=
  fun pins s σ H Q I h => let ⟨_, hm⟩ := hm; pe_glob hg hm (v := .int i) ⟨_, rfl⟩ hd pins s σ H Q I h.2
theorem pn_op {op : Operator} {C : Int → Int → Prop} {g : Int → Int → Int} (ho : OpR X (binaryOp op) (rI C fun i j => .int (g i j))) (ha : PE X a (tN Ca ga)) (hb : PE X b (tN Cb gb)) :
    PE X (.BinOp a op b pos) (tN (fun σ H => Ca σ H ∧ Cb σ H ∧ C (ga σ) (gb σ)) (fun σ => g (ga σ) (gb σ))) :=
  fun pins s σ H Q I h => pe_op ho ha hb pins s σ H Q I ⟨h.1.1, h.1.2.1, _, _, rfl, rfl, h.1.2.2, h.2⟩
theorem pn_op0 {op : Operator} {g : Int → Int → Int} (ho : OpR X (binaryOp op) (rI0 fun i j => .int (g i j))) (ha : PE X a (tN Ca ga)) (hb : PE X b (tN Cb gb)) :
    PE X (.BinOp a op b pos) (tN (fun σ H => Ca σ H ∧ Cb σ H) (fun σ => g (ga σ) (gb σ))) :=
  fun pins s σ H Q I h => pe_op ho ha hb pins s σ H Q I ⟨h.1.1, h.1.2, _, _, rfl, rfl, h.2⟩
/-- a product of any two that the machine takes -/
theorem op_mulB : OpR X (binaryOp .Mult) (rI IntMulOk fun i j => .int (i * j)) := opI fun _ _ _ _ _ _ _ hc q => mul_int q hc
theorem iop_mulB : OpR X (inplaceOp .Mult) (rI IntMulOk fun i j => .int (i * j)) := opI fun _ _ _ _ _ _ _ hc q => imul_int q hc
/-- // by a positive divisor below 2 ^ 9000 -/
noncomputable def CDivB (_ j : Int) : Prop := 0 < j ∧ j.natAbs.log2 < 9000
theorem op_fdivB : OpR X (binaryOp .FloorDiv) (rI CDivB fun i j => .int (i / j)) := opI fun i j _ _ _ _ _ hc q => by
  have h1 : (0 : Int) < j := hc.1
  exact floordiv_int (by omega) (by rw [Int.fdiv_eq_ediv_of_nonneg i (by omega)]; exact q) (.inl (PyProof.noPylong_of_log2 hc.2))
theorem pn_add (ha : PE X a (tN Ca ga)) (hb : PE X b (tN Cb gb)) : PE X (.BinOp a .Add b pos) (tN (fun σ H => Ca σ H ∧ Cb σ H) (fun σ => ga σ + gb σ)) := pn_op0 op_add ha hb
theorem pn_sub (ha : PE X a (tN Ca ga)) (hb : PE X b (tN Cb gb)) : PE X (.BinOp a .Sub b pos) (tN (fun σ H => Ca σ H ∧ Cb σ H) (fun σ => ga σ - gb σ)) := pn_op0 op_sub ha hb
theorem pn_mul (ha : PE X a (tN Ca ga)) (hb : PE X b (tN Cb gb)) : PE X (.BinOp a .Mult b pos) (tN (fun σ H => Ca σ H ∧ Cb σ H ∧ IntMulOk (ga σ) (gb σ)) (fun σ => ga σ * gb σ)) := pn_op op_mulB ha hb
theorem pn_mod (ha : PE X a (tN Ca ga)) (hb : PE X b (tN Cb gb)) : PE X (.BinOp a .Mod b pos) (tN (fun σ H => Ca σ H ∧ Cb σ H ∧ 0 < gb σ) (fun σ => ga σ % gb σ)) := pn_op op_mod ha hb
theorem pn_div (ha : PE X a (tN Ca ga)) (hb : PE X b (tN Cb gb)) : PE X (.BinOp a .FloorDiv b pos) (tN (fun σ H => Ca σ H ∧ Cb σ H ∧ CDivB (ga σ) (gb σ)) (fun σ => ga σ / gb σ)) := pn_op op_fdivB ha hb
theorem pn_pow (ha : PE X a (tN Ca ga)) (hb : PE X b (tN Cb gb)) : PE X (.BinOp a .Pow b pos) (tN (fun σ H => Ca σ H ∧ Cb σ H ∧ CPow (ga σ) (gb σ)) (fun σ => ga σ ^ (gb σ).toNat)) := pn_op op_pow ha hb
theorem pn_neg (ha : PE X a (tN Ca ga)) : PE X (.UnaryOp .USub a pos) (tN Ca (fun σ => -ga σ)) :=
  fun pins s σ H Q I h => pe_un un_neg ha pins s σ H Q I ⟨h.1, _, rfl, h.2⟩
/-! tests -/
theorem pt_cmpN {op : CmpOp} {p : Int → Int → Prop} [∀ i j, Decidable (p i j)] (ho : OpR X (compareOp op) (rI0 fun i j => .bl (decide (p i j)))) (hm : behindInMarks op b = false) (ha : PE X a (tN Ca ga)) (hb : PE X b (tN Cb gb)) :
    PT X (.Compare a [op] [b] pos) (tP (fun σ H => Ca σ H ∧ Cb σ H) (fun σ => p (ga σ) (gb σ))) :=
  fun pins s σ H Q I h => pt_cmpR ho ha hb hm pins s σ H Q I ⟨h.1.1, h.1.2, _, _, rfl, rfl, _, rfl, h.2⟩
theorem op_eqI : OpR X (compareOp .Eq) (rI0 fun i j => .bl (decide (i = j))) := fun pins s σ H x y v u Q I rx ry h => by
  obtain ⟨i, j, rfl, rfl, q⟩ := h
  have q : Q (.bl (decide (i = j))) H := q
  refine op_eq pins s σ H _ _ v u Q I rx ry ⟨rfl, ?_⟩
  rw [dec_int, Bool.beq_eq_decide_eq]
  exact q
theorem op_neI : OpR X (compareOp .NotEq) (rI0 fun i j => .bl (decide (¬ i = j))) := fun pins s σ H x y v u Q I rx ry h => by
  obtain ⟨i, j, rfl, rfl, q⟩ := h
  have q : Q (.bl (decide (¬ i = j))) H := q
  rw [decide_not] at q
  refine op_ne pins s σ H _ _ v u Q I rx ry ⟨rfl, ?_⟩
  rw [dec_int, Bool.beq_eq_decide_eq]
  exact q
theorem ptn_lt (ha : PE X a (tN Ca ga)) (hb : PE X b (tN Cb gb)) : PT X (.Compare a [.Lt] [b] pos) (tP (fun σ H => Ca σ H ∧ Cb σ H) (fun σ => ga σ < gb σ)) := pt_cmpN op_lt (nomark _) ha hb
theorem ptn_le (ha : PE X a (tN Ca ga)) (hb : PE X b (tN Cb gb)) : PT X (.Compare a [.LtE] [b] pos) (tP (fun σ H => Ca σ H ∧ Cb σ H) (fun σ => ga σ ≤ gb σ)) := pt_cmpN op_le (nomark _) ha hb
theorem ptn_gt (ha : PE X a (tN Ca ga)) (hb : PE X b (tN Cb gb)) : PT X (.Compare a [.Gt] [b] pos) (tP (fun σ H => Ca σ H ∧ Cb σ H) (fun σ => gb σ < ga σ)) := pt_cmpN (p := fun i j => j < i) op_gt (nomark _) ha hb
theorem ptn_eq (ha : PE X a (tN Ca ga)) (hb : PE X b (tN Cb gb)) : PT X (.Compare a [.Eq] [b] pos) (tP (fun σ H => Ca σ H ∧ Cb σ H) (fun σ => ga σ = gb σ)) := pt_cmpN op_eqI (nomark _) ha hb
theorem ptn_ne (ha : PE X a (tN Ca ga)) (hb : PE X b (tN Cb gb)) : PT X (.Compare a [.NotEq] [b] pos) (tP (fun σ H => Ca σ H ∧ Cb σ H) (fun σ => ¬ ga σ = gb σ)) := pt_cmpN (p := fun i j => ¬ i = j) op_neI (nomark _) ha hb
variable {pa pb : St → Prop} [∀ σ, Decidable (pa σ)] [∀ σ, Decidable (pb σ)] {rest : List Expr}
theorem pt_notP (ha : PT X a (tP Ca pa)) : PT X (.UnaryOp .Not a pos) (tP Ca (fun σ => ¬ pa σ)) :=
  fun pins s σ H Q I h => pt_not ha pins s σ H Q I ⟨h.1, by have q := h.2; rw [decide_not] at q; exact q⟩
theorem pw_or1P (ha : PT X a (tP Ca pa)) : PW X (.BoolOp .Or [a] pos) (tP Ca pa) := pw_or1 ha
theorem pw_orP (ha : PT X a (tP Ca pa)) (hb : PW X (.BoolOp .Or (b :: rest) pos) (tP Cb pb)) : PW X (.BoolOp .Or (a :: b :: rest) pos) (tP (fun σ H => Ca σ H ∧ (¬ pa σ → Cb σ H)) (fun σ => pa σ ∨ pb σ)) :=
  fun wh pins s σ H Q I h => pw_or ha hb wh pins s σ H Q I ⟨h.1.1, by
    have q := h.2
    by_cases c : pa σ
    · rw [decide_eq_true (Or.inl c : pa σ ∨ pb σ)] at q
      rw [decide_eq_true c]; refine iteT ?_; exact q
    · rw [decide_eq_false c]; refine iteF ?_
      refine ⟨h.1.2 c, ?_⟩
      have e : decide (pa σ ∨ pb σ) = decide (pb σ) := by simp [c]
      rw [e] at q; exact q⟩
/-- a value that is a test, as a test -/
theorem pt_V {e : Expr} (h : PE X e (tV Ca pa)) (he : ∀ whole, isTrue e X.env whole = (do let v ← whole; standAt e.pos; holding [v] (truthy v)) := by intro _; rfl) : PT X e (tP Ca pa) :=
  fun pins s σ H Q I q => pt_val h he pins s σ H Q I ⟨q.1, _, rfl, q.2⟩
/-! statements -/
noncomputable def tIfP (C : St → Hp → Prop) (p : St → Prop) (t u : TS) : TS := fun D σ H => C σ H ∧ (p σ → t D σ H) ∧ (¬ p σ → u D σ H)
theorem ps_ifP {c : Expr} {x y : List Stmt} {t u : TS} (hc : PT X c (tP Ca pa)) (hx : PSs X x t) (hy : PSs X y u) : PS X (.If c x y pos) (tIfP Ca pa t u) :=
  fun pins s σ H D I h => ps_if hc hx hy pins s σ H D I ⟨h.1, by
    by_cases c : pa σ
    · rw [decide_eq_true c]; refine iteT ?_; exact h.2.1 c
    · rw [decide_eq_false c]; refine iteF ?_; exact h.2.2 c⟩
/-- x = a number: a letter n for it -/
noncomputable def tSetN (i : Nat) (C : St → Hp → Prop) (g : St → Int) : TS := fun D σ H => C σ H ∧ ∀ n, n = g σ → D.nx (σ.set i (some (.int n))) H
theorem ps_setN {i : Nat} {x : Str} {e : Expr} {pos' : Pos} (hN : X.N.Nodup) (hi : X.N[i]? = some x) (hx : Loc X.env.scope x) (he : PE X e (tN Ca ga)) (hs : swapsWith e (some (.Name x pos')) pos.line X.env = pure false := by rfl)
    (hf : X.fn x = true ∨ X.env.scope.names.lookup x = some .local := by first | exact .inl rfl | exact .inr rfl | assumption) : PS X (.Assign [.Name x pos'] e pos) (tSetN i Ca ga) :=
  fun pins s σ H D I h => ps_set hN hi hx he hs hf pins s σ H D I ⟨h.1, h.2 _ rfl⟩
noncomputable def tAugN (i : Nat) (C : St → Hp → Prop) (g : St → Int) (P : Int → Int → Prop) (f : Int → Int → Int) : TS := fun D σ H => hI σ i ∧ C σ H ∧ P (gI σ i) (g σ) ∧ ∀ n, n = f (gI σ i) (g σ) → D.nx (σ.set i (some (.int n))) H
theorem ps_augN {i : Nat} {x : Str} {e : Expr} {op : Operator} {pos' : Pos} {P : Int → Int → Prop} {f : Int → Int → Int} (hN : X.N.Nodup) (hi : X.N[i]? = some x) (hx : Loc X.env.scope x) (he : PE X e (tN Ca ga)) (ho : OpR X (inplaceOp op) (rI P fun i j => .int (f i j)))
    (hf : X.fn x = true ∨ X.env.scope.names.lookup x = some .local := by first | exact .inl rfl | exact .inr rfl | assumption) : PS X (.AugAssign (.Name x pos') op e pos) (tAugN i Ca ga P f) :=
  fun pins s σ H D I h => ps_aug hN hi hx he ho hf pins s σ H D I ⟨_, h.1, h.2.1, _, _, rfl, rfl, h.2.2.1, h.2.2.2 _ rfl⟩
theorem iop_addT : OpR X (inplaceOp .Add) (rI (fun _ _ => True) fun i j => .int (i + j)) := fun pins s σ H x y v u Q I rx ry h => by
  obtain ⟨i, j, e1, e2, _, q⟩ := h
  exact iop_add pins s σ H x y v u Q I rx ry ⟨i, j, e1, e2, q⟩
/-- a while whose test is one of numbers: an invariant W, a measure μ -/
noncomputable def tWhileP (C : St → Hp → Prop) (p : St → Prop) (tb : TS) : TS := fun D σ H => ∃ (W : St → Hp → Prop) (μ : St → Hp → Nat), W σ H ∧
  ∀ σ H, W σ H → C σ H ∧ (p σ → tb { D with nx := fun σ' H' => W σ' H' ∧ μ σ' H' < μ σ H, ct := fun σ' H' => W σ' H' ∧ μ σ' H' < μ σ H, bk := D.nx } σ H) ∧ (¬ p σ → D.nx σ H)
theorem ps_whileP {c : Expr} {body : List Stmt} {tb : TS} (hp : PassesOwn (model X.prog X.w) X.A X.env X.xe) (hc : PT X c (tP Ca pa)) (hb : PSs X body tb) : PS X (.While c body [] pos) (tWhileP Ca pa tb) :=
  fun pins s σ H D I h => ps_while hp hc hb pins s σ H D I (by
    obtain ⟨W, μ, w0, st⟩ := h
    refine while_by W μ w0 (fun σ H w => ?_) (fun σ H Q Q' m q => ⟨q.1, m _ _ q.2⟩)
    obtain ⟨c1, c2, c3⟩ := st σ H w
    refine ⟨c1, ?_⟩
    by_cases c : pa σ
    · rw [decide_eq_true c]; refine iteT ?_; exact c2 c
    · rw [decide_eq_false c]; refine iteF ?_; exact c3 c)
end
/-! a list that nothing holds any more is forgotten -/
section
variable {X : Cx} {pins : List (Addr × Obj)} {σ : St} {H : Hp} {s : Shared} {p : Addr} {xs : List V}
end
section
variable {X : Cx} {b : Expr} {es : List Expr} {pos p1 : Pos} {Cb C : St → Hp → Prop} {gb : St → Int}
theorem atI_int {ns : List Int} {i : Int} (h0 : 0 ≤ i) (h1 : i < (ns.length : Int)) : atI (ns.map V.int) i = some (V.int (ns.getD i.toNat 0)) := by
  have e : i = ((i.toNat : Nat) : Int) := by omega
  have l : i.toNat < ns.length := by omega
  have q : atI (ns.map V.int) ((i.toNat : Nat) : Int) = some (V.int (ns.getD i.toNat 0)) := atI_nat (by rw [List.getElem?_map, List.getElem?_eq_getElem l, List.getD_eq_getElem?_getD, List.getElem?_eq_getElem l]; rfl)
  rw [← e] at q
  exact q
/-- an item of a list of numbers that stands in slot j; the place of any sign -/
noncomputable def tItem (K : PySem.W.Frag) (j : Nat) (C : St → Hp → Prop) (g : St → Int) : TE := fun σ H Q => C σ H ∧ ∃ (a : Addr) (ns : List Int) (n : Int), σ[j]? = some (some (.ref a)) ∧ SqL K H a (ns.map V.int) ∧ atI (ns.map V.int) (g σ) = some (.int n) ∧ Q (.int n) H
theorem pe_item (j : Nat) {x : Str} {px : Pos} (hb : PE X b (tN C gb)) (hs : PlainIx b) (hN : X.N[j]? = some x := by rfl) (hv : Vis X.env.scope x := by first | exact Or.inl rfl | exact Or.inr (Or.inl rfl) | exact Or.inr (Or.inr rfl))
    (hd : (x == ("__debug__" : Str)) = false := by decide) (hcd : (x == ("__classdict__" : Str)) = false := by decide) : PE X (.Subscript (.Name x px) b pos) (tItem X.K j C gb) := by
  intro pins s σ H Q I h
  obtain ⟨c, a, ns, n, e1, e2, e3, q⟩ := h
  exact pe_ix ix_list (pe_var hN hv hd hcd) hb hs pins s σ H Q I ⟨_, e1, c, a, _, _, _, rfl, rfl, e2, e3, q⟩
/-- the same where the list a and its numbers ns are known beforehand -/
theorem pn_item (j : Nat) (a : Addr) (ns : List Int) {x : Str} {px : Pos} (hb : PE X b (tN C gb)) (hs : PlainIx b) (hN : X.N[j]? = some x := by rfl) (hv : Vis X.env.scope x := by first | exact Or.inl rfl | exact Or.inr (Or.inl rfl) | exact Or.inr (Or.inr rfl))
    (hd : (x == ("__debug__" : Str)) = false := by decide) (hcd : (x == ("__classdict__" : Str)) = false := by decide) :
    PE X (.Subscript (.Name x px) b pos) (tN (fun σ H => C σ H ∧ σ[j]? = some (some (.ref a)) ∧ SqL X.K H a (ns.map V.int) ∧ -(ns.length : Int) ≤ gb σ ∧ gb σ < (ns.length : Int)) (fun σ => ns.getD (if 0 ≤ gb σ then gb σ else gb σ + ns.length).toNat 0)) := by
  intro pins s σ H Q I h
  obtain ⟨⟨c, e1, e2, b1, b2⟩, q⟩ := h
  refine pe_ix ix_list (pe_var hN hv hd hcd) hb hs pins s σ H Q I ⟨_, e1, c, a, _, _, _, rfl, rfl, e2, ?_, q⟩
  show atI (ns.map V.int) (gb σ) = some (V.int (ns.getD (if 0 ≤ gb σ then gb σ else gb σ + ns.length).toNat 0))
  by_cases c0 : 0 ≤ gb σ
  · rw [if_pos c0]; exact atI_int c0 b2
  · rw [if_neg c0]
    have q2 := atI_int (ns := ns) (i := gb σ + ns.length) (by omega) (by omega)
    unfold atI ixN at q2 ⊢
    rw [List.length_map] at q2 ⊢
    rw [if_pos (show 0 ≤ gb σ + (ns.length : Int) by omega), if_pos (show gb σ + (ns.length : Int) < (ns.length : Int) by omega)] at q2
    rw [if_neg c0, if_pos b1]
    exact q2
/-- len(x), x a list known beforehand -/
theorem pn_len (j : Nat) (a : Addr) (xs : List V) {x : Str} {px p : Pos} (hm : X.mg "len" = none) (hN : X.N[j]? = some x := by rfl) (hg : Gl X "len" := by rfl) (hv : Vis X.env.scope x := by first | exact Or.inl rfl | exact Or.inr (Or.inl rfl) | exact Or.inr (Or.inr rfl))
    (hd : (x == ("__debug__" : Str)) = false := by decide) (hcd : (x == ("__classdict__" : Str)) = false := by decide) (he : starEach [.Name x px] X.env = [(false, eval (.Name x px) X.env)] := by rfl) :
    PE X (.Call (.Name "len" p) [.Name x px] [] pos) (tN (fun σ H => σ[j]? = some (some (.ref a)) ∧ SqL X.K H a xs) (fun _ => (xs.length : Int))) := by
  intro pins s σ H Q I h
  exact pe_callB call_len_seq hg hm PySem.boot_len (pa_cons (pe_var hN hv hd hcd) pa_nil he) (by decide) (by decide) he rfl pins s σ H Q I ⟨_, h.1.1, a, _, rfl, .inl h.1.2, h.2⟩
end
/-! calls of defs that tell numbers of numbers -/
section
variable {X : Cx} {e : Expr} {es : List Expr} {pos p : Pos} {Ca Cb : St → Hp → Prop} {ga : St → Int} {gs : St → List Int}
theorem pns_nil : PA X [] (tNs (fun _ _ => True) (fun _ => [])) := fun pos pins s σ H Q I h => pa_nil pos pins s σ H Q I h.2
theorem pns_cons (ha : PE X e (tN Ca ga)) (hr : PA X es (tNs Cb gs)) (hs : starEach (e :: es) X.env = (false, eval e X.env) :: starEach es X.env := by rfl) : PA X (e :: es) (tNs (fun σ H => Ca σ H ∧ Cb σ H) (fun σ => ga σ :: gs σ)) :=
  fun pos pins s σ H Q I h => pa_cons ha hr hs pos pins s σ H Q I ⟨h.1.1, h.1.2, h.2⟩
end
/-- numbers in, a number out; nothing else happens -/
noncomputable def spI (n : Nat) (pre : List Int → Prop) (F : List Int → Int) : Sp := fun vs H Q _ => ∃ ns : List Int, ns.length = n ∧ vs = ns.map V.int ∧ pre ns ∧ Q (.int (F ns)) H
/-- numbers in, True or False out -/
noncomputable def spB (n : Nat) (pre : List Int → Prop) (F : List Int → Bool) : Sp := fun vs H Q _ => ∃ ns : List Int, ns.length = n ∧ vs = ns.map V.int ∧ pre ns ∧ Q (.bl (F ns)) H
/-- a def of the text under its name keeps the promise sp -/
structure Ok (P : Program) (w : World) (K : PySem.W.Frag) (mg : Str → Option Value) (base : Heap) (k : Nat) (x : Str) (ps : List Str) (sp : Sp) : Prop where
  ex : ∃ f fd, FnOk P w K mg base CX0 k f fd ps sp ∧ Binds K fd ps [] ∧ PySem.W.keepIn K (.ref f) = true ∧ mg x = some (.ref f)
theorem Ok.imp {P : Program} {w : World} {K : PySem.W.Frag} {mg : Str → Option Value} {base : Heap} {k : Nat} {x : Str} {ps : List Str} {sp sp' : Sp} (o : Ok P w K mg base k x ps sp) (h : ∀ vs H Q E, sp' vs H Q E → sp vs H Q E) : Ok P w K mg base k x ps sp' := by
  obtain ⟨f, fd, a, b⟩ := o.ex
  exact ⟨f, fd, a.imp h, b⟩
section
variable {X : Cx} {e : Expr} {es : List Expr} {pos p : Pos} {j k : Nat} {x : Str} {ps : List Str} {sp : Sp} {t : TA}
theorem pe_callO (o : Ok X.prog X.w X.K X.mg X.base j x ps sp) (hr : Room k X.A) (ha : PA X (e :: es) t) (hj : j ≤ k := by decide) (hg : Gl X x := by rfl) (hdb : (x == ("__debug__" : Str)) = false := by decide)
    (he : starEach (e :: es) X.env = (false, eval e X.env) :: starEach es X.env := by rfl) (hpl : (backTo pos (starEach es X.env)).any (·.1) = false := by rfl) : PE X (.Call (.Name x p) (e :: es) [] pos) (tCall sp [] E0 t) := by
  obtain ⟨f, fd, F, b, kp, m⟩ := o.ex
  exact pe_call (F.mono hj) hr hg m kp b .nil pass0 ha hdb he hpl
variable {C : St → Hp → Prop} {g : St → List Int} {n : Nat} {pre : List Int → Prop}
theorem pn_call {F : List Int → Int} (o : Ok X.prog X.w X.K X.mg X.base j x ps (spI n pre F)) (hr : Room k X.A) (ha : PA X (e :: es) (tNs C g)) (hn : ∀ σ, (g σ).length = n := by intro _; rfl) (hj : j ≤ k := by decide) (hg : Gl X x := by rfl)
    (hdb : (x == ("__debug__" : Str)) = false := by decide) (he : starEach (e :: es) X.env = (false, eval e X.env) :: starEach es X.env := by rfl) (hpl : (backTo pos (starEach es X.env)).any (·.1) = false := by rfl) :
    PE X (.Call (.Name x p) (e :: es) [] pos) (tN (fun σ H => C σ H ∧ pre (g σ)) (fun σ => F (g σ))) :=
  fun pins s σ H Q I h => pe_callO o hr ha hj hg hdb he hpl pins s σ H Q I ⟨h.1.1, g σ, hn σ, by rw [List.append_nil], h.1.2, h.2⟩
theorem pv_call {F : List Int → Bool} (o : Ok X.prog X.w X.K X.mg X.base j x ps (spB n pre F)) (hr : Room k X.A) (ha : PA X (e :: es) (tNs C g)) (hn : ∀ σ, (g σ).length = n := by intro _; rfl) (hj : j ≤ k := by decide) (hg : Gl X x := by rfl)
    (hdb : (x == ("__debug__" : Str)) = false := by decide) (he : starEach (e :: es) X.env = (false, eval e X.env) :: starEach es X.env := by rfl) (hpl : (backTo pos (starEach es X.env)).any (·.1) = false := by rfl) :
    PE X (.Call (.Name x p) (e :: es) [] pos) (tV (fun σ H => C σ H ∧ pre (g σ)) (fun σ => F (g σ) = true)) :=
  fun pins s σ H Q I h => pe_callO o hr ha hj hg hdb he hpl pins s σ H Q I ⟨h.1.1, g σ, hn σ, by rw [List.append_nil], h.1.2, by have q := h.2; rw [Bool.decide_eq_true] at q; exact q⟩
end
/-! ### a def by its promise -/
structure Def (K : PySem.W.Frag) (mg : Str → Option Value) (x : Str) (st : Stmt) (ps : List Str) : Prop where
  ex : ∃ f fd, Fun K x x st f fd ∧ Binds K fd ps [] ∧ mg x = some (.ref f)
section
variable {P : Program} {w : World} {K : PySem.W.Frag} {mg : Str → Option Value} {base : Heap}
theorem Def.ok {x : Str} {st : Stmt} {N ps : List Str} {k : Nat} {sp : Sp} (d : Def K mg x st ps) (S : FnScope N ps (defScope st)) (len : ∀ vs H Q E, sp vs H Q E → vs.length = ps.length)
    (hbody : ∀ (f : Addr) (cdv : Value) (A : Around) (outer : List Env) (s : Shared) (H : Hp) (vs : List V) (Q : VK) (E : XK), Room k (A.deeper (envOfC x (defScope st) s.heap.objs.size f cdv)) → sp vs H Q E →
      ∃ t, PSs (cxOf CX0 P w K mg base N x (defScope st) f cdv A outer s H E).nox (defBody st) t ∧ t { nx := fun _ H' => Q .non H', rt := Q } (start N vs) H) : Ok P w K mg base (k + 1) x ps sp := by
  obtain ⟨f, fd, F, b, m⟩ := d.ex
  exact ⟨f, fd, F.ok S len fun cdv A outer s H vs Q E hr h => hbody f cdv A outer s H vs Q E hr h, b, F.kp, m⟩
theorem Def.mk' {x : Str} {st : Stmt} {ps : List Str} {f : Addr} {fd : FuncData} (F : Fun K x x st f fd) (b : Binds K fd ps []) (m : mg x = some (.ref f)) : Def K mg x st ps := ⟨f, fd, F, b, m⟩
end
end L2

/-! ### isinstance, built-in names, lengths -/
namespace L2
open PySem PySem.Spec PyProof.Rows
theorem bt_int : bootBuiltins "int" = some (.type "int") := by decide +kernel
theorem bt_bool : bootBuiltins "bool" = some (.type "bool") := by decide +kernel
theorem bt_list : bootBuiltins "list" = some (.type "list") := by decide +kernel
theorem bt_tuple : bootBuiltins "tuple" = some (.type "tuple") := by decide +kernel
theorem bt_ValueError : bootBuiltins "ValueError" = some (.type "ValueError") := by decide +kernel
theorem bt_len : bootBuiltins "len" = some (.builtin "len") := by decide +kernel
theorem bt_isinstance : bootBuiltins "isinstance" = some (.builtin "isinstance") := by decide +kernel
theorem bt_max : bootBuiltins "max" = some (.builtin "max") := by decide +kernel
/-- the class that a value names -/
noncomputable def clsV : V → Option Value
  | .ty n => some (.type n)
  | .ref a => some (.ref a)
  | _ => none
theorem clsV_rel {c : V} {u cv : Value} (h : clsV c = some cv) (r : RelV c u) : u = cv := by
  cases c with
  | ty n => cases h; exact r
  | ref a => cases h; exact r
  | non => cases h
  | bl _ => cases h
  | int _ => cases h
  | str _ => cases h
  | byt _ => cases h
  | flt _ => cases h
section
variable {X : Cx}
theorem call_isinst : CallR X (.builtin "isinstance") (fun xs H Q => ∃ x c t cv b, xs = [x, c] ∧ clsV c = some cv ∧ TyOf X.K H x t ∧ PySem.W.kitOne X.K t cv = some b ∧ Q (.bl b) H) := by
  intro pins s σ H xs us Q I r h
  obtain ⟨x, c, t, cv, b, rfl, hc, ty, e, q⟩ := h
  obtain ⟨u, w', rfl, r1, r2⟩ := vals2 r
  obtain rfl := clsV_rel hc r2
  exact isinst_ok I r1 ty e fun tk => ⟨.bl b, H, I.tok tk, rfl, q⟩
end
theorem len0 {ns : List Int} (h : ns.length = 0) : ns = [] := List.length_eq_zero_iff.mp h
theorem len1 {ns : List Int} (h : ns.length = 1) : ∃ a, ns = [a] := match ns, h with | [a], _ => ⟨a, rfl⟩
theorem len2 {ns : List Int} (h : ns.length = 2) : ∃ a b, ns = [a, b] := match ns, h with | [a, b], _ => ⟨a, b, rfl⟩
theorem len3 {ns : List Int} (h : ns.length = 3) : ∃ a b c, ns = [a, b, c] := match ns, h with | [a, b, c], _ => ⟨a, b, c, rfl⟩
/-- the law's promise: a list of at most 63 ints is handed in, True comes out -/
noncomputable def spLaw (K : PySem.W.Frag) : Sp := fun vs H Q _ => ∃ (a : Addr) (ns : List Int), vs = [.ref a] ∧ SqL K H a (ns.map V.int) ∧ ns.length ≤ 63 ∧ ∀ H', Q (.bl true) H'
theorem same_new {H : Hp} {p : Addr} (h : H p = none) (o : HO) : Same H (upd H p o) := fun b u q => by rw [upd_ne (ne_of_none q h)]; exact q
/-! products that the machine takes -/
theorem bits_le {k : Int} {n : Nat} (h : k.natAbs < 2 ^ n) : Builtin.Int.intBits k ≤ n := by
  unfold Builtin.Int.intBits
  split
  · exact Nat.zero_le _
  · have hk : k.natAbs ≠ 0 := by
      rename_i c
      intro z
      apply c
      first | exact z | (have : k = 0 := by omega
                         simp [this]) | omega
    have := (Nat.log2_lt hk).mpr h
    omega
theorem mul_ok {a b : Int} {n m : Nat} (ha : a.natAbs < 2 ^ n) (hb : b.natAbs < 2 ^ m) (hn : n ≤ 1048576 := by decide) (hm : m ≤ 1048576 := by decide) : IntMulOk a b :=
  .of_bits (Nat.le_trans (bits_le ha) (Nat.le_trans hn (by decide))) (Nat.le_trans (bits_le hb) (Nat.le_trans hm (by decide)))
theorem mul_okR {a b : Int} (h : -(2 ^ 64) < b ∧ b < 2 ^ 64) : IntMulOk a b := .of_right (intBits_le_64 h.1 h.2)
theorem mul_okL {a b : Int} (h : -(2 ^ 64) < a ∧ a < 2 ^ 64) : IntMulOk a b := .of_left (intBits_le_64 h.1 h.2)
end L2

/-! ### list comprehensions: one clause, any target, at most one test -/
namespace L2
open PySem PySem.Spec PyProof.Rows
noncomputable abbrev NoX : Value → Shared → Prop := fun _ _ => False
noncomputable def testsTree (cs : List Expr) (ev : Env) : Sem Bool := forIn cs true fun c r => if r = true then do let ok ← isTrue c ev (eval c ev); pure (ForInStep.yield ok) else pure (ForInStep.yield r)
section
variable {P : Program} {w : World} {A : Around} {R : Result → Shared → Prop} {s : Shared}
theorem comp_loop {el tg src : Expr} {cs : List Expr} {sc : Scope} {at' : Pos} {it acc : Value} {ev : Env} (I : Nat → Shared → Prop)
    (turn : ∀ n s, I n s → wpAny (model P w) A (pyNext it) (fun r s1 => (r = none ∧ R (.ok .next) s1) ∨ ∃ v, r = some v ∧
      wpAny (model P w) A (letOwnedTupleGo tg it v) (fun _ s2 => wpAny (model P w) A (assign tg ev v) (fun _ s3 => wpAny (model P w) A (testsTree cs ev) (fun ok s4 =>
        if ok = true then wpAny (model P w) A (eval el ev) (fun x s5 => wpAny (model P w) A (call (.builtin "list.append") [acc, x]) (fun _ s6 => ∃ m, m < n ∧ I m s6) NoX s5) NoX s4
        else ∃ m, m < n ∧ I m s4) NoX s3) NoX s2) NoX s1) NoX s)
    (n : Nat) (h : I n s) : codeAny (model P w) A (.compLoop (.ListComp el [⟨tg, src, cs, 0⟩] sc at') 0 it acc ev) R s := by
  refine codeAny_loop rfl I (fun n s hI => ?_) n h
  show wpAny _ A ((compTurn (.ListComp el [⟨tg, src, cs, 0⟩] sc at') 0 it acc ev).onRaise (fun z => do noteFrame z ev; theTreesLotGoes z)) _ _ s
  refine wpAny_noted (wpAny_noRaise ?_)
  rw [compTurn_list]
  refine wpAny_bind (wpAny_standAt (wpAny_bind (thn (turn n s hI) fun r s1 h1 => ?_)))
  rcases h1 with ⟨rfl, h1⟩ | ⟨v, rfl, h1⟩
  · exact wpAny_pure h1
  · refine wpAny_bind (thn h1 fun _ s2 h2 => wpAny_bind (thn h2 fun _ s3 h3 => wpAny_bind (thn h3 fun ok s4 h4 => ?_)))
    cases ok with
    | false => exact wpAny_pure ⟨rfl, h4⟩
    | true => exact wpAny_bind (wpAny_bind (thn h4 fun x s5 h5 => wpAny_bind (thn h5 fun _ s6 h6 => wpAny_pure (wpAny_pure ⟨rfl, h6⟩))))
end
/-- the names that the block takes from the def, with their slots there -/
noncomputable def CapOk (X : Cx) (sc : Scope) (cl : List (Str × Addr)) : List Str → List (Option Nat) → Prop
  | [], [] => True
  | _ :: xs, none :: cs => CapOk X sc cl xs cs
  | x :: xs, some i :: cs => (X.N[i]? = some x ∧ Vis X.env.scope x ∧ X.env.kindOf x ≠ some .local ∧ ((relabel sc X.env).names.lookup x = some .cell ∨ (relabel sc X.env).names.lookup x = some .free) ∧ ∃ c, cl.lookup x = some c ∧ X.env.cells.lookup x = some c) ∧ CapOk X sc cl xs cs
  | _, _ => False
noncomputable def SubC (ev : Env) : List (Str × Addr) → Prop
  | [] => True
  | (x, c) :: r => ev.cells.lookup x = some c ∧ SubC ev r
theorem SubC.look {ev : Env} : ∀ {cl : List (Str × Addr)}, SubC ev cl → ∀ {x : Str} {c : Addr}, cl.lookup x = some c → ev.cells.lookup x = some c
  | [], _, x, c, h => by simp at h
  | (y, d) :: r, q, x, c, h => by
    rw [List.lookup_cons] at h
    cases e : x == y with
    | true =>
      rw [e] at h
      have e' : x = y := by simpa using e
      subst e'
      cases h
      exact q.1
    | false => rw [e] at h; exact SubC.look q.2 h
noncomputable def capS (cap : List (Option Nat)) (σ : St) : St := cap.map fun o => match o with
  | some i => (σ[i]?).join
  | none => none
noncomputable def cxComp (X : Cx) (N' : List Str) (sc : Scope) (cl : List (Str × Addr)) (s : Shared) (H : Hp) (fp : List Addr) : Cx :=
  { X with N := N', s₀ := s, H₀ := H, env := compEnvC sc cl s.heap.objs.size X.env, outer := X.stack, ex := fp, fn := fun _ => false, pn := [], xe := NoX }
section
variable {X : Cx} {pins : List (Addr × Obj)} {σ : St} {H : Hp} {s : Shared} {N' : List Str} {sc : Scope} {cl : List (Str × Addr)} {cap : List (Option Nat)} {fp : List Addr}
theorem CapOk.length {X : Cx} {sc : Scope} {cl : List (Str × Addr)} : ∀ {N' : List Str} {cap : List (Option Nat)}, CapOk X sc cl N' cap → cap.length = N'.length
  | [], [], _ => rfl
  | _ :: xs, none :: cs, h => by
    have := CapOk.length (X := X) (sc := sc) (cl := cl) (N' := xs) (cap := cs) h
    simp [this]
  | _ :: xs, some i :: cs, h => by
    have := CapOk.length (X := X) (sc := sc) (cl := cl) (N' := xs) (cap := cs) h.2
    simp [this]
  | [], _ :: _, h => h.elim
  | _ :: _, [], h => h.elim
theorem CapOk.at {X : Cx} {sc : Scope} {cl : List (Str × Addr)} {i : Nat} {x : Str} : ∀ {N' : List Str} {cap : List (Option Nat)} {j : Nat}, CapOk X sc cl N' cap → N'[j]? = some x → cap[j]? = some (some i) →
    X.N[i]? = some x ∧ Vis X.env.scope x ∧ X.env.kindOf x ≠ some .local ∧ ((relabel sc X.env).names.lookup x = some .cell ∨ (relabel sc X.env).names.lookup x = some .free) ∧ ∃ c, cl.lookup x = some c ∧ X.env.cells.lookup x = some c
  | [], [], j, _, h, _ => by simp at h
  | _ :: xs, none :: cs, 0, _, _, h => by simp at h
  | _ :: xs, none :: cs, j + 1, q, h1, h2 => CapOk.at (N' := xs) (cap := cs) (j := j) q (by simpa using h1) (by simpa using h2)
  | y :: xs, some k :: cs, 0, q, h1, h2 => by
    have e1 : y = x := by simpa using h1
    have e2 : k = i := by simpa using h2
    subst e1 e2
    exact q.1
  | _ :: xs, some _ :: cs, j + 1, q, h1, h2 => CapOk.at (N' := xs) (cap := cs) (j := j) q.2 (by simpa using h1) (by simpa using h2)
  | [], _ :: _, _, h, _, _ => h.elim
  | _ :: _, [], _, h, _, _ => h.elim
/-- the block begins -/
theorem Inv.block (I : Inv X pins σ H s) (hk : sc.kind = .function) (hcap : CapOk X sc cl N' cap) (sub : SubC X.env cl)
    (has : ∀ x, ((relabel sc X.env).names.lookup x = some .cell ∨ (relabel sc X.env).names.lookup x = some .free) → ∃ c, cl.lookup x = some c)
    (hf : ∀ b ∈ fp, FpOk X pins H b) (hfo : ∀ b ∈ fp, ∃ o, s.heap.get? b = some o) {h' : Heap} {m : Str → Option Value} {o : Obj} {tk : Nat} (hns : h'.Ns s.heap.objs.size m) (hsb : Heap.SameBut s.heap.objs.size (s.heap.push o) h') :
    Inv (cxComp X N' sc cl s H fp) [] (capS cap σ) H { s with heap := h', toks := tk } := by
  have keep : ∀ b u, s.heap.get? b = some u → h'.get? b = some u := fun b u e =>
    (hsb.2 b (Nat.ne_of_lt (Heap.lt_size e))).trans (Heap.get?_push_of_some _ e)
  refine ⟨⟨I.ok.mod, hk, I.ok.glob, I.ok.blt, Nat.le_refl _, fun x y c h1 h2 => I.ok.inj x y c (sub.look h1) (sub.look h2), has, (fun x c h _ => nomatch h), I.ok.hd, I.ok.frames, .inl rfl,
    fun b hb => ⟨?_, fun x c e => (hf b hb).2.2.2.2.1 x c (sub.look e)⟩, I.bs, Nat.le_trans I.ok.bsz I.sz, fun b u e hb => ?_, fun b hb hb' => ?_, I.stack, I.stkFree⟩,
    rfl, I.bare, Un.kept keep, ⟨m, hns, fun j x v h1 h2 h3 => ?_⟩, fun x c e => ?_, I.hok.fresh (Nat.le_refl _), fun x c e => I.freeC x c (sub.look e), fun p hp => absurd (show p ∈ ([] : List (Addr × Obj)) from hp) (by simp), I.hok.kept keep, ?_⟩
  · obtain ⟨u, e⟩ := hfo b hb
    exact Nat.ne_of_lt (Heap.lt_size e)
  · rcases (hf b hb).2.2.2.1 with z | z
    · exact I.ok.noex b u e z
    · exact absurd (Nat.lt_of_lt_of_le (Heap.lt_size e) (Nat.le_trans I.ok.bsz z)) (Nat.lt_irrefl _)
  · rcases List.mem_cons.mp (I.stkSub b hb') with z | z
    · exact (hf b hb).2.1 z
    · exact (hf b hb).2.2.1 z
  · obtain ⟨m0, hn0, hl0⟩ := I.loc
    have h2' : ((cap.map fun o => match o with | some i => (σ[i]?).join | none => none) : St)[j]? = some (some v) := h2
    rw [List.getElem?_map] at h2'
    cases e : cap[j]? with
    | none => rw [e] at h2'; cases h2'
    | some oi =>
      rw [e] at h2'
      cases oi with
      | none => cases h2'
      | some i =>
        have h4 : (σ[i]?).join = some v := Option.some.inj h2'
        have h5 : σ[i]? = some (some v) := by
          cases z : σ[i]? with
          | none => rw [z] at h4; cases h4
          | some y => rw [z] at h4; cases h4; rfl
        obtain ⟨a1, a2, a3, a4, c, a5, a6⟩ := hcap.at h1 e
        obtain ⟨u, r, l⟩ := hl0 i x v a1 h5 a2
        refine ⟨u, r, .inr ⟨a4, c, a5, ?_⟩⟩
        rcases l with ⟨k, _⟩ | ⟨_, c', e', ic⟩
        · exact absurd k a3
        · rw [a6] at e'
          cases e'
          obtain ⟨oc, h7, h8⟩ := ic
          exact ⟨oc, keep _ _ h7, h8⟩
  · obtain ⟨v, oc, h7, h8⟩ := I.cell x c (sub.look e)
    exact ⟨v, oc, keep _ _ h7, h8⟩
  · show (capS cap σ).length = N'.length
    unfold capS
    rw [List.length_map]
    exact hcap.length
/-- the block ends: back in the def's body -/
theorem Inv.unblock {σ' : St} {H' : Hp} {s' : Shared} {pins' : List (Addr × Obj)} (I : Inv X pins σ H s) (hf : ∀ b ∈ fp, FpOk X pins H b) (J : Inv (cxComp X N' sc cl s H fp) pins' σ' H' s') : Inv X pins σ H' s' :=
  I.call' (ch := fp) J.os J.base J.hok J.bare fun b hb => ⟨(hf b hb).2.2.2.1, (hf b hb).2.1, (hf b hb).2.2.2.2.1, (hf b hb).2.2.2.2.2⟩
end
/-- a turn's end knows what the block took from the def -/
noncomputable def ExtS : St → St → Prop
  | [], [] => True
  | none :: a, _ :: b => ExtS a b
  | some v :: a, y :: b => y = some v ∧ ExtS a b
  | _, _ => False
theorem ExtS.at : ∀ {a b : St}, ExtS a b → ∀ (i : Nat) (v : V), a[i]? = some (some v) → b[i]? = some (some v)
  | [], [], _, i, v, h => by simp at h
  | none :: a, _ :: b, q, 0, v, h => by simp at h
  | none :: a, _ :: b, q, i + 1, v, h => by
    have := ExtS.at (a := a) (b := b) q i v (by simpa using h)
    simpa using this
  | some u :: a, y :: b, q, 0, v, h => by
    have e : u = v := by simpa using h
    rw [q.1, e]
    rfl
  | some u :: a, y :: b, q, i + 1, v, h => by
    have := ExtS.at (a := a) (b := b) q.2 i v (by simpa using h)
    simpa using this
  | [], _ :: _, q, _, _, _ => q.elim
  | none :: _, [], q, _, _, _ => q.elim
  | some _ :: _, [], q, _, _, _ => q.elim
/-- the tests of the clause -/
noncomputable def PTs (X : Cx) (cs : List Expr) (t : TT) : Prop :=
  ∀ (pins : List (Addr × Obj)) (s : Shared) (σ : St) (H : Hp) (Q : Bool → Hp → Prop), Inv X pins σ H s → t σ H Q → wpAny (model X.prog X.w) X.A (testsTree cs X.env) (TP X pins σ Q) X.xe s
theorem pts_nil {X : Cx} : PTs X [] (fun _ H Q => Q true H) := fun _ _ _ H _ I h => wpAny_tests_nil ⟨H, I, h⟩
/-- the loop of the clause: W by the turn, a measure and the numbers made so far -/
noncomputable def lcW (D : Addr) (J : It) (σ : St) (g : TG) (tt : TT) (te : TE) (Q : VK) (W : Nat → Nat → List V → Hp → Prop) : Prop :=
  ∀ i m ys H, W i m ys H → H D = some (.lst ys) ∧ ys.length < sizeLine ∧
    ((J.stop i H ∧ Q (.ref D) H) ∨ (J.go i H ∧ ∀ x H', J.yld i H x H' → g x σ H' fun σ2 H2 => ExtS σ σ2 ∧ tt σ2 H2 fun ok H3 =>
      if ok = true then te σ2 H3 fun y H4 => H4 D = some (.lst ys) ∧ ∃ m', m' < m ∧ W (i + 1) m' (ys ++ [y]) (upd H4 D (.lst (ys ++ [y])))
      else ∃ m', m' < m ∧ W (i + 1) m' ys H3))
noncomputable def tLC (cap : List (Option Nat)) (wi : TI) (g : TG) (tt : TT) (te : TE) : TE := fun σ H Q => wi σ H fun J H1 => ∀ D, H1 D = none → ∃ W : Nat → Nat → List V → Hp → Prop, (∃ m, W 0 m [] (upd H1 D (.lst []))) ∧ lcW D J (capS cap σ) g tt te Q W
section
variable {X : Cx} {pins : List (Addr × Obj)} {σ : St} {H : Hp} {s : Shared} {N' : List Str} {sc : Scope} {cl : List (Str × Addr)} {cap : List (Option Nat)} {fp : List Addr}
  {el tg src : Expr} {cs : List Expr} {at' : Pos} {g : TG} {tt : TT} {te : TE} {J : It} {it : Addr} {tn : Nat → Heap → Prop} {Q : VK}
/-- what a comprehension's clause and scope must be -/
structure LcOk (X : Cx) (N' : List Str) (sc : Scope) (cl : List (Str × Addr)) (cap : List (Option Nat)) : Prop where
  kind : sc.kind = .function
  clos : closureFor sc X.env = pure cl
  nocell : ∀ y ∈ sc.names, y.2 ≠ .cell
  names : ∀ y ∈ sc.names, y.2 = .local → sc.names.lookup y.1 = some .local
  cap : CapOk X sc cl N' cap
  sub : SubC X.env cl
  has : ∀ x, ((relabel sc X.env).names.lookup x = some .cell ∨ (relabel sc X.env).names.lookup x = some .free) → ∃ c, cl.lookup x = some c
theorem lc_ok (kind : sc.kind = .function) (clos : closureFor sc X.env = pure cl) (h1 : (sc.names.all fun y => y.2 != .cell) = true) (h2 : (sc.names.all fun y => y.2 != .local || sc.names.lookup y.1 == some .local) = true)
    (hcap : CapOk X sc cl N' cap) (sub : SubC X.env cl) (h3 : ((relabel sc X.env).names.all fun y => (y.2 != .cell && y.2 != .free) || (cl.lookup y.1).isSome) = true) : LcOk X N' sc cl cap := by
  refine ⟨kind, clos, fun y hy e => ?_, fun y hy e => ?_, hcap, sub, fun x hx => ?_⟩
  · have q := List.all_eq_true.mp h1 y hy
    rw [e] at q
    exact absurd q (by decide)
  · have q := List.all_eq_true.mp h2 y hy
    rw [e] at q
    simpa using q
  · have key : ∀ k, (k = NameKind.cell ∨ k = NameKind.free) → (relabel sc X.env).names.lookup x = some k → ∃ c, cl.lookup x = some c := fun k hk e => by
      have q := List.all_eq_true.mp h3 _ (PySem.mem_of_lookup e)
      rcases hk with rfl | rfl
      · exact Option.isSome_iff_exists.mp (by simpa using q)
      · exact Option.isSome_iff_exists.mp (by simpa using q)
    rcases hx with e | e
    · exact key _ (.inl rfl) e
    · exact key _ (.inr rfl) e
theorem comp_main (L : LcOk X N' sc cl cap) (hc : X.calm = true) (I : Inv X pins σ H s) (T : Turn X.prog X.w X.K tg J fp it tn) (st : tn 0 s.heap) (hf : ∀ b ∈ fp, FpOk X pins H b)
    (hg : ∀ s H fp, PG (cxComp X N' sc cl s H fp) tg g) (ht : ∀ s H fp, PTs (cxComp X N' sc cl s H fp) cs tt) (he : ∀ s H fp, PE (cxComp X N' sc cl s H fp) el te)
    (rd : ∀ D, H D = none → ∃ W : Nat → Nat → List V → Hp → Prop, (∃ m, W 0 m [] (upd H D (.lst []))) ∧ lcW D J (capS cap σ) g tt te Q W)
    {Ex : Value → Shared → Prop} {RR : Value → Addr → Result → Shared → Prop} (hR : ∀ D C m H' s', Inv X pins σ H' s' → s'.heap.Ns C m → FpOk X pins H' C → Q (.ref D) H' → RR (.ref D) C (.ok .next) s') :
    wpAny (model X.prog X.w) X.A (newList []) (fun acc s3 => wpAny (model X.prog X.w) X.A (newFunctionEnv sc X.env.globals cl [] X.env.qual none .none (some X.env)) (fun cv s4 =>
      codeAny (model X.prog X.w) X.A (.compStart (.ListComp el [⟨tg, src, cs, 0⟩] sc at') 0 (.ref it) acc { cv with scope := relabel sc X.env }) (RR acc cv.locals) s4) Ex s3) Ex s := by
  obtain ⟨W, ⟨m0, w0⟩, step⟩ := rd _ I.fresh
  refine wpAny_newObj_type (wpAny_newFunctionEnv L.nocell (by intro y hy; simp at hy) (fun h1 hns hsb => ?_) L.kind)
  have I3 : Inv X pins σ (upd H s.heap.objs.size (.lst [])) { s with heap := s.heap.push { cls := .type "list", dict := none, data := .seq ([] : List Value).toArray } } := I.lnew (its := []) (t' := s.toks) .nil (by show 0 ≤ sizeLine; decide)
  have hfo : ∀ b ∈ fp, ∃ o, s.heap.get? b = some o := fun b hb => let ⟨o, e, _⟩ := T.obj 0 s.heap st b hb; ⟨o, e⟩
  have hf3 : ∀ b ∈ fp, FpOk X pins (upd H s.heap.objs.size (.lst [])) b := fun b hb => by
    obtain ⟨o, e⟩ := hfo b hb
    exact ⟨by rw [upd_ne (Nat.ne_of_lt (Heap.lt_size e))]; exact (hf b hb).1, (hf b hb).2⟩
  dsimp only at hns hsb ⊢
  generalize hs3 : ({ s with heap := s.heap.push { cls := .type "list", dict := none, data := .seq ([] : List Value).toArray } } : Shared) = s3 at I3 hns hsb ⊢
  have hh3 : s3.heap = s.heap.push { cls := .type "list", dict := none, data := .seq ([] : List Value).toArray } := by rw [← hs3]
  have hns : h1.Ns s3.heap.objs.size (fun x => List.lookup x ([] : List (Str × Value)).reverse) := by rw [hh3]; exact hns
  have hsb : Heap.SameBut s3.heap.objs.size (s3.heap.push { cls := .type (if (some X.env).isSome = true then "dict" else "frame"), data := .dict #[] }) h1 := by rw [hh3]; exact hsb
  have hk3 : ∀ b o, s.heap.get? b = some o → s3.heap.get? b = some o := fun b o e => by rw [hh3]; exact Heap.get?_push_of_some _ e
  have J0 := I3.block (N' := N') (cap := cap) (fp := fp) (tk := s3.toks + ([] : List (Str × Value)).length) L.kind L.cap L.sub L.has hf3 (fun b hb => let ⟨o, e⟩ := hfo b hb; ⟨o, hk3 b o e⟩) hns hsb
  have st1 : tn 0 h1 := T.keep 0 s.heap h1 st fun b hb o e => (hsb.2 b (Nat.ne_of_lt (Heap.lt_size (hk3 b o e)))).trans (Heap.get?_push_of_some _ (hk3 b o e))
  have fpx : ∀ {H' : Hp}, (∀ b ∈ fp, H' b = none) → ∀ b ∈ fp, FpOk (cxComp X N' sc cl s3 (upd H s.heap.objs.size (.lst [])) fp) [] H' b := fun hn b hb => by
    obtain ⟨o, e⟩ := hfo b hb
    refine ⟨hn b hb, Nat.ne_of_lt (Heap.lt_size (hk3 b o e)), fun hb' => ?_, .inl hb, fun x c q => (hf b hb).2.2.2.2.1 x c (L.sub.look q), fun p hp => absurd (show p ∈ ([] : List (Addr × Obj)) from hp) (by simp)⟩
    rcases List.mem_cons.mp (I.stkSub b hb') with z | z
    · exact (hf b hb).2.1 z
    · exact (hf b hb).2.2.1 z
  have loop : ∀ s4 : Shared, s4 = { s3 with heap := h1, toks := s3.toks + ([] : List (Str × Value)).length } →
      codeAny (model X.prog X.w) X.A (.compLoop (.ListComp el [⟨tg, src, cs, 0⟩] sc at') 0 (.ref it) (.ref s.heap.objs.size) (compEnvC sc cl s3.heap.objs.size X.env)) (RR (.ref s.heap.objs.size) s3.heap.objs.size) s4 := by
    rintro s4 rfl
    refine comp_loop (fun n s' => ∃ i ys H', Inv (cxComp X N' sc cl s3 (upd H s.heap.objs.size (.lst [])) fp) [] (capS cap σ) H' s' ∧ tn i s'.heap ∧ (∀ b ∈ fp, H' b = none) ∧ W i n ys H') ?_ m0 ⟨0, [], _, J0, st1, fun b hb => (hf3 b hb).1, w0⟩
    rintro n s' ⟨i, ys, H', Ji, sti, fri, wi⟩
    obtain ⟨hD, hlen, hgo⟩ := step i n ys H' wi
    rcases hgo with ⟨hstop, hq⟩ | ⟨hgo, hbody⟩
    · refine thn (T.done (cxComp X N' sc cl s3 (upd H s.heap.objs.size (.lst [])) fp) rfl rfl rfl hc i [] s' _ H' NoX Ji (fpx fri) sti hstop) fun r s1 ⟨hr, J1⟩ => .inl ⟨hr, ?_⟩
      obtain ⟨m1, hm1, _⟩ := J1.loc
      exact hR _ _ m1 H' s1 (I3.unblock hf3 J1) hm1 (I3.fpOk (Nat.le_refl _) J1.free) hq
    · refine thn (T.item (cxComp X N' sc cl s3 (upd H s.heap.objs.size (.lst [])) fp) rfl rfl rfl hc i [] s' _ H' NoX Ji (fpx fri) sti hgo) fun r s1 ⟨u, hr, h4⟩ => .inr ⟨u, hr, thn h4 fun _ s5 ⟨x, H5, J5, r5, y5, st5, fr5⟩ => ?_⟩
      have J5' := J5.pinned (fpx fr5) (T.obj _ _ st5)
      refine thn (hg _ _ _ _ s5 _ H5 x u _ J5' r5 (hbody x H5 y5)) fun _ s6 ⟨σ6, H6, J6, ext, q6⟩ => ?_
      have endT : ∀ {ys' : List V} {H7 : Hp} {s7 : Shared} {m' : Nat}, Inv (cxComp X N' sc cl s3 (upd H s.heap.objs.size (.lst [])) fp) ([] ++ pinsAt fp s5.heap) σ6 H7 s7 → m' < n → W (i + 1) m' ys' H7 →
          ∃ m, m < n ∧ ∃ i ys H', Inv (cxComp X N' sc cl s3 (upd H s.heap.objs.size (.lst [])) fp) [] (capS cap σ) H' s7 ∧ tn i s7.heap ∧ (∀ b ∈ fp, H' b = none) ∧ W i m ys H' := fun {ys' H7 s7 m'} J7 hm w7 => by
        refine ⟨m', hm, i + 1, ys', H7, (J7.unpinned).weak ?_ fun j v z => ext.at j v z, T.keep _ _ _ st5 fun b hb o e => (J7.pin (b, o) (List.mem_append_right _ (List.mem_append_right _ (mem_pinsAt hb e)))).1, fun b hb => ?_, w7⟩
        · rw [J7.len, Ji.len]
        · obtain ⟨o, e, _⟩ := T.obj _ _ st5 b hb
          exact (J7.pin (b, o) (List.mem_append_right _ (List.mem_append_right _ (mem_pinsAt hb e)))).2.1
      refine thn (ht _ _ _ _ s6 _ H6 _ J6 q6) fun ok s7 ⟨H7, J7, q7⟩ => ?_
      cases ok with
      | false =>
        obtain ⟨m', hm, w7⟩ := q7
        exact endT J7 hm w7
      | true =>
        refine thn (he _ _ _ _ s7 _ H7 _ J7 q7) fun y s8 ⟨yv, H8, J8, r8, hD8, m', hm, w8⟩ => ?_
        exact thn (mt_append _ s8 _ H8 (.ref s.heap.objs.size) [yv] (.ref s.heap.objs.size) [y] (fun v H9 => H9 = upd H8 s.heap.objs.size (.lst (ys ++ [yv]))) J8 rfl (.cons r8 .nil) ⟨_, ys, yv, rfl, rfl, hD8, hlen, rfl⟩) fun _ s9 ⟨_, H9, J9, _, e9⟩ => by
          subst e9
          exact endT J9 hm w8
  subst hs3
  exact codeAny_compStart_list (loop _ rfl) (T.self _ 0 _ _ _ st1 (loop _ rfl))
/-- [el for tg in src if ..], as a value -/
theorem pe_lc {wi : TI} (L : LcOk X N' sc cl cap) (hc : X.calm = true) (hi : PI X tg src wi) (hg : ∀ s H fp, PG (cxComp X N' sc cl s H fp) tg g) (ht : ∀ s H fp, PTs (cxComp X N' sc cl s H fp) cs tt) (he : ∀ s H fp, PE (cxComp X N' sc cl s H fp) el te)
    (hs : ∀ x, foldedSetIterable src X.env x = pure x := by intro _; rfl) : PE X (.ListComp el [⟨tg, src, cs, 0⟩] sc at') (tLC cap wi g tt te) := by
  intro pins s σ H Q I h
  rw [eval_ListComp]
  refine wpAny_comprehension_free (use := none) rfl hs L.clos L.kind L.names (thn (hi pins s σ H _ I h) fun v s1 h1 => thn h1 fun itv s2 h2 => ?_)
  obtain ⟨it, fp, tn, J, H2, rfl, I2, T, st2, f2, rd⟩ := h2
  refine comp_main L hc I2 T st2 f2 hg ht he rd (RR := fun acc C => compPost (model X.prog X.w) X.A X.xe none (EP X pins σ Q) acc C) fun D C m H' s' J' hn fC q => ?_
  refine ⟨m, hn, fun h' sb => ⟨.ref D, H', J'.turned (t' := s'.toks) (fun b o hb e => (sb.2 b hb).trans e) fC.1 fC.2.1 fC.2.2.2.1 fC.2.2.2.2.1 fC.2.2.2.2.2, rfl, q⟩⟩
/-- x = [el for tg in src if ..] where the machine stores ahead of letting the clause's names go -/
theorem ps_lc {wi : TI} {i : Nat} {x : Str} {px spos : Pos} (hN : X.N.Nodup) (hi' : X.N[i]? = some x) (hx : X.env.scope.names.lookup x = some .local) (L : LcOk X N' sc cl cap) (hc : X.calm = true) (hi : PI X tg src wi) (hg : ∀ s H fp, PG (cxComp X N' sc cl s H fp) tg g)
    (ht : ∀ s H fp, PTs (cxComp X N' sc cl s H fp) cs tt) (he : ∀ s H fp, PE (cxComp X N' sc cl s H fp) el te) (hsw : swapsWith (.ListComp el [⟨tg, src, cs, 0⟩] sc at') (some (.Name x px)) spos.line X.env = pure true)
    (hs : ∀ x, foldedSetIterable src X.env x = pure x := by intro _; rfl) : PS X (.Assign [.Name x px] (.ListComp el [⟨tg, src, cs, 0⟩] sc at') spos) (tAsg (tLC cap wi g tt te) (gName i)) := by
  intro pins s σ H D I h
  rw [exec_Assign_Name_used _ _ _ _ hsw]
  refine wpAny_bind (wpAny_standAt (wpAny_bind ?_))
  show wpAny _ X.A (do let _ ← comprehension (.ListComp el [⟨tg, src, cs, 0⟩] sc at') sc X.env _ (newList []) false (eval src X.env) (some (assign (.Name x px) X.env))) _ _ s
  refine wpAny_bind (thn (wpAny_comprehension_free (use := some (assign (.Name x px) X.env)) (Q := fun _ s' => SP X pins D .next s') rfl hs L.clos L.kind L.names (thn (hi pins s σ H _ I h) fun v s1 h1 => thn h1 fun itv s2 h2 => ?_)) fun _ s' q => wpAny_pure (wpAny_pure q))
  obtain ⟨it, fp, tn, J, H2, rfl, I2, T, st2, f2, rd⟩ := h2
  refine comp_main L hc I2 T st2 f2 hg ht he rd (RR := fun acc C => compPost (model X.prog X.w) X.A X.xe (some (assign (.Name x px) X.env)) (fun _ s' => SP X pins D .next s') acc C) fun D' C m H' s' J' hn fC q => ?_
  obtain ⟨oC, es, ep, hoC, hdC, hr⟩ := hn
  have Jp : Inv X (pins ++ [(C, oC)]) σ H' s' := J'.pins_of fun p hp => by
    rcases List.mem_append.mp hp with z | z
    · exact J'.pin p (List.mem_append_right _ z)
    · have e : p = (C, oC) := by simpa using z
      subst e
      exact ⟨hoC, fC.1, fC.2.1, fC.2.2.1, fun v z => by rw [hdC] at z; cases z⟩
  show wpAny _ X.A (assign (.Name x px) X.env (.ref D')) _ _ s'
  refine thn (pg_name (i := i) hN hi' (.inl hx) (.inr hx) _ s' σ H' (.ref D') (.ref D') (fun σ' H'' => D.nx σ' H'') Jp rfl q) fun _ s'' ⟨σ', H'', J2, q2⟩ => ?_
  obtain ⟨p1, p2, p3, p4, p5⟩ := J2.pin (C, oC) (List.mem_append_right _ (List.mem_append_right _ (by simp)))
  refine ⟨m, ⟨oC, es, ep, p1, hdC, hr⟩, fun h' sb => ⟨σ', H'', (J2.pins_of (pins' := pins) fun p hp => J2.pin p (List.mem_append_right _ (List.mem_append_left _ hp))).turned (t' := s''.toks) (fun b o hb e => (sb.2 b hb).trans e) p2 fC.2.1 fC.2.2.2.1 fC.2.2.2.2.1 fC.2.2.2.2.2, q2⟩⟩
end
end L2

/-! ### errors: how one lies behind a call, raised, passed on -/
namespace L2
open PySem PySem.Spec PyProof.Rows
theorem ObjOk.get {P : Program} {w : World} {H : Hp} {h : Heap} {a : Addr} {o : HO} (x : ObjOk P w H h a o) : ∃ ob, h.get? a = some ob := by
  cases o with
  | lst xs => obtain ⟨_, _, _, _, e⟩ := x; exact ⟨_, e⟩
  | tup xs => obtain ⟨_, _, _, ob, e, _⟩ := x; exact ⟨ob, e⟩
  | dK kvs => obtain ⟨_, _, _, _, o, _, _, e, _⟩ := x; exact ⟨o, e⟩
  | dT kvs => obtain ⟨_, _, _, _, o, _, _, e, _⟩ := x; exact ⟨o, e⟩
  | set S n => obtain ⟨o, _, _, _, e, _⟩ := x; exact ⟨o, e⟩
  | ins C dx fs => obtain ⟨_, _, _, e, _⟩ := x; exact ⟨_, e⟩
  | own y => exact x
  | xd fs => obtain ⟨_, ⟨o, _, _, e, _⟩, _⟩ := x; exact ⟨o, e⟩
  | rng lo hi => obtain ⟨_, _, _, e⟩ := x; exact ⟨_, e⟩
  | frz ob u => obtain ⟨e, _⟩ := x; exact ⟨ob, e⟩
  | tbl ps => exact ⟨_, (show h.get? a = some _ from x)⟩
  | met f y => exact ⟨_, (show h.get? a = some _ from x)⟩
  | ext φ => obtain ⟨_, e, _⟩ := x; exact e
/-- an error has been noted in the frames fr: what stays, what it is now -/
structure Lft (fr as : List Addr) (h h2 : Heap) (a : Addr) (cls : Value) : Prop where
  keep : ∀ b o, h.get? b = some o → b ∉ as → h2.get? b = some o
  slot : ∀ b o, b ∈ fr → h.get? b = some o → ∃ sl, h2.get? b = some { o with slots := sl }
  ex : ∃ oe vs T oT ts, h2.get? a = some oe ∧ oe.cls = cls ∧ oe.dict = none ∧ oe.data = .fields vs ∧ vs[1]? = some (.ref T) ∧ h.get? T = none ∧ T ≠ a ∧ h2.get? T = some oT ∧ oT.data = .fields ts ∧ ts[3]? = some .none
theorem dict_mapFields (f : Array Value → Array Value) (o : Obj) : (Obj.mapFields f o).dict = o.dict := by
  unfold Obj.mapFields
  split <;> rfl
section
variable {M : Model} {A : Around} {E : Value → Shared → Prop} {s : Shared} {base : Heap} {env : Env} {outer : List Env} {L a : Addr} {oe : Obj} {vs : Array Value} {as : List Addr} {Q : Unit → Shared → Prop}
theorem note_core {head : Value} {hadNext : Bool} (hfr : A.frames = some (env :: outer)) (hl : s.heap.FunFrames base (env :: outer)) (hf : env.frame = some L) (he : s.heap.get? a = some oe) (hdn : oe.dict = none) (hd : oe.data = .fields vs) (hsz : 1 < vs.size)
    (haa : a ∈ as) (hfs : ∀ b ∈ frs (env :: outer), b ∈ as) (h : ∀ h', Lft (frs (env :: outer)) as s.heap h' a oe.cls → Q () { s with heap := h' }) :
    wpAny M A (do let x ← frameOf env; let pl ← entryPlaceOf L hadNext; let b ← EntryCells.newEntry head x .none (rawInt L) .none pl; setField (.ref a) 1 b) (fun _ s' => wpAny M A (setFlight (.ref a) none) Q E s') E s := by
  have hna : a ∉ frs (env :: outer) := fun z => by
    obtain ⟨_, o, e, d⟩ := hl.mem z
    rw [he] at e; cases e; exact d vs hd
  refine wpAny_bind (wpAny_frameOf_fun hfr hl hf fun h1 so => wpAny_bind (wpAny_entryPlaceOf fun pl hpl => ?_))
  unfold EntryCells.newEntry newFields
  refine wpAny_bind (wpAny_newObj_type ?_ (hpl.sizeOk5 _ _ _ _ _))
  have e1 : h1.get? a = some oe := (so.2.1 a hna).trans he
  have nT : h1.objs.size ≠ a := Nat.ne_of_gt (Heap.lt_size e1)
  generalize hts : ([head, Value.ref L, Value.none, rawInt L, Value.none] ++ (if pl.isEmpty then List.replicate 6 Value.none else pl)).toArray = ts
  have lt3 : 3 < ts.size := by rw [← hts]; simp
  have e2 := Heap.get?_push_of_some (h := h1) { cls := .type "traceback", dict := none, data := .fields ts } e1
  have t2 := Heap.get?_push_size h1 (o := { cls := .type "traceback", dict := none, data := .fields ts }) rfl
  refine wpAny_setField e2 hd hsz ?_
  have d3 := Obj.data_mapFields hd (·.setIfInBounds 1 (Value.ref h1.objs.size))
  have e3 := Heap.get?_update_self (Obj.mapFields (·.setIfInBounds 1 (Value.ref h1.objs.size))) e2 (Obj.isFreed_of_fields d3)
  have t3 := (Heap.get?_update_other (h1.push { cls := .type "traceback", dict := none, data := .fields ts }) (Obj.mapFields (·.setIfInBounds 1 (Value.ref h1.objs.size))) (Ne.symm nT)).trans t2
  refine wpAny_setFlight_none (vs := vs.setIfInBounds 1 (.ref h1.objs.size)) e3 d3 (by simp [hsz]) t3 rfl lt3 (h _ ⟨fun b o q nb => ?_, fun b o q eb => ?_, ?_⟩)
  · have q1 : h1.get? b = some o := (so.2.1 b fun z => nb (hfs b z)).trans q
    have ba : b ≠ a := fun z => nb (z ▸ haa)
    rw [Heap.get?_update_other _ _ (Nat.ne_of_gt (Heap.lt_size q1)), Heap.get?_update_other _ _ (Ne.symm ba)]
    exact Heap.get?_push_of_some _ q1
  · obtain ⟨sl, q1⟩ := so.2.2 b o eb
    have ba : b ≠ a := fun z => hna (z ▸ q)
    refine ⟨sl, ?_⟩
    rw [Heap.get?_update_other _ _ (Nat.ne_of_gt (Heap.lt_size q1)), Heap.get?_update_other _ _ (Ne.symm ba)]
    exact Heap.get?_push_of_some _ q1
  · refine ⟨_, _, h1.objs.size, _, _, (Heap.get?_update_other _ _ nT).trans e3, Obj.cls_mapFields _ _, ?_, d3, by simp [hsz], ?_, nT, Heap.get?_update_self _ t3 (Obj.isFreed_of_fields (Obj.data_mapFields rfl _)), Obj.data_mapFields rfl _, by simp [lt3]⟩
    · rw [dict_mapFields]; exact hdn
    · cases q : s.heap.get? h1.objs.size with
      | none => rfl
      | some o =>
        obtain ⟨sl, q1⟩ := so.2.2 _ o q
        exact absurd (Heap.lt_size q1) (Nat.lt_irrefl _)
/-- the first note of a new error; a further one -/
theorem note_first (hfr : A.frames = some (env :: outer)) (hl : s.heap.FunFrames base (env :: outer)) (hf : env.frame = some L) (he : s.heap.get? a = some oe) (hdn : oe.dict = none) (hd : oe.data = .fields vs) (h1 : vs[1]? = some .none)
    (haa : a ∈ as) (hfs : ∀ b ∈ frs (env :: outer), b ∈ as) (h : ∀ h', Lft (frs (env :: outer)) as s.heap h' a oe.cls → Q () { s with heap := h' }) :
    wpAny M A (noteFrame (.ref a) env) (fun _ s' => wpAny M A (setFlight (.ref a) none) Q E s') E s := by
  unfold noteFrame
  simp only [hf]
  refine wpAny_bind (wpAny_field he hd h1 ?_)
  rw [if_neg (by decide)]
  exact note_core hfr hl hf he hdn hd (Array.getElem?_eq_some_iff.mp h1).1 haa hfs h
theorem note_next {T : Addr} {oT : Obj} {ts : Array Value} (hfr : A.frames = some (env :: outer)) (hl : s.heap.FunFrames base (env :: outer)) (hf : env.frame = some L) (he : s.heap.get? a = some oe) (hdn : oe.dict = none) (hd : oe.data = .fields vs) (h1 : vs[1]? = some (.ref T))
    (hTa : T ≠ a) (hT : s.heap.get? T = some oT) (hdT : oT.data = .fields ts) (h3 : ts[3]? = some .none)
    (haa : a ∈ as) (hTT : T ∈ as) (hfs : ∀ b ∈ frs (env :: outer), b ∈ as) (h : ∀ h', Lft (frs (env :: outer)) as s.heap h' a oe.cls → Q () { s with heap := h' }) :
    wpAny M A (noteFrame (.ref a) env) (fun _ s' => wpAny M A (setFlight (.ref a) none) Q E s') E s := by
  unfold noteFrame
  simp only [hf]
  refine wpAny_bind (wpAny_field he hd h1 ?_)
  rw [if_pos (show (Value.ref T != Value.none) = true from by simp)]
  refine wpAny_bind (wpAny_field hT hdT h3 ?_)
  rw [if_neg (show ¬ ((Value.none == rawInt L) = true) from by simp [rawInt])]
  refine wpAny_bind (wpAny_setField hT hdT (Array.getElem?_eq_some_iff.mp h3).1 ?_)
  have nT : T ∉ frs (env :: outer) := fun z => by
    obtain ⟨_, o, e, d⟩ := hl.mem z
    rw [hT] at e; cases e; exact d ts hdT
  have oth : ∀ b, b ≠ T → (s.heap.update T (Obj.mapFields (·.setIfInBounds 3 Value.none))).get? b = s.heap.get? b := fun b hb => Heap.get?_update_other _ _ (Ne.symm hb)
  have selfT := Heap.get?_update_self (Obj.mapFields (·.setIfInBounds 3 Value.none)) hT (Obj.isFreed_of_fields (Obj.data_mapFields hdT _))
  refine note_core hfr (hl.of_keeps fun b o hb hnf => ⟨o, (oth b (fun z => by rw [z, hT] at hb; cases hb; exact hnf ts hdT)).trans hb, rfl⟩) hf ((oth a (Ne.symm hTa)).trans he) hdn hd (Array.getElem?_eq_some_iff.mp h1).1 haa hfs fun h' q => h h' ⟨fun b o e nb => ?_, fun b o z e => ?_, ?_⟩
  · exact q.keep b o ((oth b fun z => nb (z ▸ hTT)).trans e) nb
  · exact q.slot b o z ((oth b fun y => nT (y ▸ z)).trans e)
  · obtain ⟨oe', vs', T', oT', ts', x1, x2, x3, x4, x5, x6, x7⟩ := q.ex
    refine ⟨oe', vs', T', oT', ts', x1, x2, x3, x4, x5, ?_, x7⟩
    rw [← oth T' (fun z => by rw [z, selfT] at x6; cases x6)]
    exact x6
end
/-- an error in flight: new since h0, not tracked, of the class cls -/
structure Fly (h0 : Heap) (H : Hp) (h : Heap) (a : Addr) (cls : Value) : Prop where
  ex : ∃ oe vs T oT ts, h.get? a = some oe ∧ oe.cls = cls ∧ oe.dict = none ∧ oe.data = .fields vs ∧ vs[1]? = some (.ref T) ∧ T ≠ a ∧ h.get? T = some oT ∧ oT.data = .fields ts ∧ ts[3]? = some .none ∧ H T = none ∧ h0.get? T = none
  un : H a = none
  new : h0.get? a = none
noncomputable def CXe (P : Program) (w : World) : CXT := fun outer H s E e s' => ∃ a cls H', e = .ref a ∧ s'.os = s.os ∧ AllBare s'.gens ∧ Un (frs outer) [] H H' s.heap s'.heap ∧ HOk P w H' s'.heap ∧ Fly s.heap H' s'.heap a cls ∧ E cls none H'
section
variable {X : Cx} {pins : List (Addr × Obj)} {σ : St} {H1 H' : Hp} {s1 s' : Shared} {a : Addr} {cls : Value} {E : XK}
theorem funFrames_slots {base h h' : Heap} : ∀ {l : List Env}, h.FunFrames base l → (∀ b ∈ frs l, ∀ o, h.get? b = some o → ∃ sl, h'.get? b = some { o with slots := sl }) → h'.FunFrames base l
  | [], _, _ => True.intro
  | ev :: r, hl, k => by
    obtain ⟨hk, ⟨L, o, hf, hn, ho, hd⟩, hr⟩ := hl
    have e : frs (ev :: r) = L :: frs r := by unfold frs; rw [List.filterMap_cons, hf]
    obtain ⟨sl, q⟩ := k L (by rw [e]; exact List.mem_cons_self) o ho
    exact ⟨hk, ⟨L, _, hf, hn, q, hd⟩, funFrames_slots hr fun b hb => k b (by rw [e]; exact List.mem_cons_of_mem _ hb)⟩
/-- the frames behind a call that did not end well -/
theorem Inv.stackE (I : Inv X pins σ H1 s1) (u : Un (frs X.stack) [] H1 H' s1.heap s'.heap) : s'.heap.FunFrames X.base X.stack :=
  funFrames_slots I.stack fun b hb o e => u.slot b o e (I.stkFree b hb) hb (by simp)
/-- the error leaves the def's frame -/
theorem fin_leave {as : List Addr} {h2 : Heap} (I : Inv X pins σ H1 s1) (hst : X.stack = X.env :: X.outer) (hfr : X.env.frame = some X.env.locals) (hex : X.ex = []) (ho : s'.os = s1.os) (hb : AllBare s'.gens)
    (u : Un (frs X.stack) [] H1 H' s1.heap s'.heap) (hok : HOk X.prog X.w H' s'.heap) (has : ∀ b ∈ as, b ∈ frs X.stack ∨ (H' b = none ∧ s1.heap.get? b = none)) (hfs : ∀ b ∈ frs X.stack, b ∈ as) (haa : a ∈ as) (hna : H' a = none ∧ s1.heap.get? a = none)
    (L : Lft (frs X.stack) as s'.heap h2 a cls) (hE : E cls none H') : CXe X.prog X.w X.outer X.H₀ X.s₀ E (.ref a) { s' with heap := h2 } := by
  have hfs' : frs X.stack = X.env.locals :: frs X.outer := by rw [hst]; unfold frs; rw [List.filterMap_cons, hfr]
  have noex : ∀ b : Addr, b ∉ X.ex := fun b => by rw [hex]; simp
  have FF := I.stackE u
  have keep2 := L.keep
  have slot2 := L.slot
  have below : ∀ b o, X.s₀.heap.get? b = some o → b ≠ X.env.locals := fun b o e => Nat.ne_of_lt (Nat.lt_of_lt_of_le (Heap.lt_size e) I.ok.above)
  have out : ∀ b o, s1.heap.get? b = some o → b ∈ as → b ∈ frs X.stack := fun b o e z => by
    rcases has b z with q | ⟨_, q⟩
    · exact q
    · rw [e] at q; cases q
  have here : ∀ b o, X.s₀.heap.get? b = some o → ∃ o', s1.heap.get? b = some o' := fun b o e => I.base.there b o e (noex b)
  obtain ⟨oe, vs, T, oT, ts, he, hcls, hdi, hd, h1, hnT, hTe, hT, hdT, h3⟩ := L.ex
  have hT0 : T ∈ as ∨ s'.heap.get? T = none := .inr hnT
  have freeAs : ∀ b ∈ as, H' b = none := fun b z => by
    rcases has b z with q | ⟨q, _⟩
    · obtain ⟨_, o, e, _⟩ := I.stack.mem q
      exact u.free b o e (I.stkFree b q) (by simp)
    · exact q
  refine ⟨a, cls, H', rfl, ho.trans I.os, hb, ⟨fun b o e n hbf _ => ?_, fun b o e n hbf _ => ?_, fun b o e n _ => ?_, fun b o e _ => ?_, fun b xs e => u.tups b xs (I.base.tups b xs e), fun b o v e => u.frzs b o v (I.base.frzs b o v e), fun b ps e => ?_⟩, fun b o e => ?_, ⟨⟨oe, vs, T, oT, ts, he, hcls, hdi, hd, h1, hTe, hT, hdT, h3, ?_, ?_⟩, hna.1, ?_⟩, hE⟩
  · have e1 := I.base.keep b o e n hbf (noex b)
    have n1 := I.base.free b o e n (noex b)
    have b1 : b ∉ frs X.stack := fun z => by rw [hfs'] at z; exact (List.mem_cons.mp z).elim (below b o e) hbf
    exact keep2 b o (u.keep b o e1 n1 b1 (by simp)) fun z => b1 (out b o e1 z)
  · obtain ⟨sl1, e1⟩ := I.base.slot b o e n hbf (noex b)
    have n1 := I.base.free b o e n (noex b)
    have b1 : b ∈ frs X.stack := by rw [hfs']; exact List.mem_cons_of_mem _ hbf
    obtain ⟨sl2, e2⟩ := u.slot b _ e1 n1 b1 (by simp)
    obtain ⟨sl3, e3⟩ := slot2 b _ b1 e2
    exact ⟨sl3, e3⟩
  · obtain ⟨o1, e1⟩ := here b o e
    exact u.free b o1 e1 (I.base.free b o e n (noex b)) (by simp)
  · obtain ⟨o1, e1⟩ := here b o e
    obtain ⟨o2, e2⟩ := u.there b o1 e1 (by simp)
    by_cases z : b ∈ as
    · obtain ⟨sl, e3⟩ := slot2 b o2 (out b o1 e1 z) e2
      exact ⟨_, e3⟩
    · exact ⟨o2, keep2 b o2 e2 z⟩
  · obtain ⟨m1, e1⟩ := I.base.tbls b ps e
    obtain ⟨m2, e2⟩ := u.tbls b _ e1
    exact ⟨m1 ++ m2, by rw [e2, Array.append_assoc]⟩
  · refine (hok b o e).stay (fun c v hc q => keep2 c v q fun z => ?_) (fun _ q => q) fun _ _ q => q
    have := freeAs c z
    rcases hc with rfl | hc
    · rw [this] at e; cases e
    · rw [this] at hc; cases hc
  · rcases hT0 with z | z
    · exact freeAs T z
    · cases q : H' T with
      | none => rfl
      | some v => obtain ⟨ob, e⟩ := (hok T v q).get; rw [z] at e; cases e
  · cases q : X.s₀.heap.get? T with
    | none => rfl
    | some o =>
      obtain ⟨o1, e1⟩ := here T o q
      obtain ⟨o2, e2⟩ := u.there T o1 e1 (by simp)
      rcases hT0 with z | z
      · obtain ⟨sl, e3⟩ := slot2 T o2 (out T o1 e1 z) e2
        obtain ⟨_, o4, e4, d4⟩ := FF.mem (out T o1 e1 z)
        rw [e2] at e4; cases e4
        rw [hT] at e3; cases e3
        exact absurd hdT (d4 ts)
      · rw [z] at e2; cases e2
  · cases q : X.s₀.heap.get? a with
    | none => rfl
    | some o => obtain ⟨o1, e1⟩ := here a o q; rw [hna.2] at e1; cases e1
/-- an error that has just been made leaves -/
theorem leave_new {oe : Obj} {vs : Array Value} {Q : Unit → Shared → Prop} (I : Inv X pins σ H1 s1) (hst : X.stack = X.env :: X.outer) (hfr : X.env.frame = some X.env.locals) (hex : X.ex = []) (ho : s'.os = s1.os) (hb : AllBare s'.gens)
    (u : Un (frs X.stack) [] H1 H' s1.heap s'.heap) (hok : HOk X.prog X.w H' s'.heap) (hna : H' a = none ∧ s1.heap.get? a = none) (he : s'.heap.get? a = some oe) (hc : oe.cls = cls) (hdi : oe.dict = none) (hd : oe.data = .fields vs) (h1 : vs[1]? = some .none) (hE : E cls none H')
    (hQ : ∀ s2, CXe X.prog X.w X.outer X.H₀ X.s₀ E (.ref a) s2 → Q () s2) {M : Model} {E' : Value → Shared → Prop} : wpAny M X.A (leaving X.env (.ref a)) Q E' s' := by
  subst hc
  have hA : X.A.frames = some (X.env :: X.outer) := by rw [← hst]; exact I.ok.frames
  have FF := I.stackE u
  refine wpAny_bind (note_first (as := a :: frs X.stack) hA (by rw [← hst]; exact FF) hfr he hdi hd h1 List.mem_cons_self (fun b z => List.mem_cons_of_mem _ (by rw [hst]; exact z)) fun h2 L => hQ _ ?_)
  rw [← hst] at L
  exact fin_leave I hst hfr hex ho hb u hok (fun b z => (List.mem_cons.mp z).elim (fun q => .inr (by rw [q]; exact hna)) .inl) (fun b z => List.mem_cons_of_mem _ z) List.mem_cons_self hna L hE
/-- an error that came from a callee leaves -/
theorem leave_on {Q : Unit → Shared → Prop} (I : Inv X pins σ H1 s1) (hst : X.stack = X.env :: X.outer) (hfr : X.env.frame = some X.env.locals) (hex : X.ex = []) (ho : s'.os = s1.os) (hb : AllBare s'.gens)
    (u : Un (frs X.stack) [] H1 H' s1.heap s'.heap) (hok : HOk X.prog X.w H' s'.heap) (F : Fly s1.heap H' s'.heap a cls) (hE : E cls none H')
    (hQ : ∀ s2, CXe X.prog X.w X.outer X.H₀ X.s₀ E (.ref a) s2 → Q () s2) {M : Model} {E' : Value → Shared → Prop} : wpAny M X.A (leaving X.env (.ref a)) Q E' s' := by
  obtain ⟨oe, vs, T, oT, ts, he, hcls, hdi, hd, h1, hTe, hT, hdT, h3, hHT, hsT⟩ := F.ex
  subst hcls
  have hA : X.A.frames = some (X.env :: X.outer) := by rw [← hst]; exact I.ok.frames
  have FF := I.stackE u
  refine wpAny_bind (note_next (as := a :: T :: frs X.stack) hA (by rw [← hst]; exact FF) hfr he hdi hd h1 hTe hT hdT h3 List.mem_cons_self (List.mem_cons_of_mem _ List.mem_cons_self) (fun b z => List.mem_cons_of_mem _ (List.mem_cons_of_mem _ (by rw [hst]; exact z))) fun h2 L => hQ _ ?_)
  rw [← hst] at L
  refine fin_leave I hst hfr hex ho hb u hok (fun b z => ?_) (fun b z => List.mem_cons_of_mem _ (List.mem_cons_of_mem _ z)) List.mem_cons_self ⟨F.un, F.new⟩ L hE
  rcases List.mem_cons.mp z with q | z
  · exact .inr (by rw [q]; exact ⟨F.un, F.new⟩)
  · rcases List.mem_cons.mp z with q | z
    · exact .inr (by rw [q]; exact ⟨hHT, hsT⟩)
    · exact .inl z
end
/-- in the body of a def whose errors are told -/
theorem passE {P : Program} {w : World} {K : PySem.W.Frag} {mg : Str → Option Value} {base : Heap} {N : List Str} {qual : Str} {scope : Scope} {f : Addr} {cd : Value} {A : Around} {outer : List Env} {s : Shared} {H : Hp} {E : XK} :
    Passes (CXe P w) (cxOf (CXe P w) P w K mg base N qual scope f cd A outer s H E) E := fun pins σ H1 s1 e s' I h => by
  obtain ⟨a, cls, H', rfl, ho, hb, u, hok, F, hE⟩ := h
  exact leave_on I rfl rfl rfl ho hb u hok F hE (M := model P w) (E' := fun e' s2 => CXe P w outer H s E e' s2) fun s2 q => q
end L2

/-! ### errors raised and caught -/
namespace L2
open PySem PySem.Spec PyProof.Rows
abbrev bmV : List Value := [.type "ValueError", .type "Exception", .type "BaseException", .type "object"]
/-- a class of the text under ValueError, without an __init__ of its own -/
noncomputable abbrev ExcC (K : PySem.W.Frag) (C : Addr) : Prop := PySem.W.excIn K C bmV "ValueError.__new__" = true
theorem ExcC.facts {K : PySem.W.Frag} {h : Heap} {C : Addr} (X : K.In h) (q : ExcC K C) : ∃ nm qn N bs bm hd sn sub ab col dd k0 k1 k2 k3 k5 mN,
    h.get? C = some (excClassObj nm qn C N bs bm hd sn sub ab col dd k0 k1 k2 k3 k5 "ValueError.__new__") ∧ h.Ns N mN ∧ mN "__init__" = none ∧ OwnTail h bmV bm := by
  unfold ExcC PySem.W.excIn at q
  split at q
  · rename_i dd' cd' sl' hlk
    split at q
    · rename_i C2 bm2 j0 j1 j2 j3 n2 j5 em es
      simp only [Bool.and_eq_true, beq_iff_eq, Bool.not_eq_true'] at q
      obtain ⟨⟨⟨⟨⟨e1, e2⟩, e3⟩, e4⟩, e5⟩, e6⟩ := q
      subst e1 e2
      obtain ⟨nm, bs, mr, ns, qn, hd, sn, sub, ab, col, del⟩ := cd'
      dsimp only at em e3 e5 e6
      subst em e3
      have e7 : sl' = #[j0, j1, j2, j3, some (.builtin "ValueError.__new__"), j5] := by
        obtain ⟨l⟩ := sl'
        simp only at es
        rw [es]
      subst e7
      exact ⟨nm, qn, ns, bs, bm2, hd, sn, sub, ab, col, dd', j0, j1, j2, j3, j5, _, X _ _ hlk, .of_isNs (PySem.W.isNs_of_in X e5), PySem.W.nsMap_none_of_in X e5 e6, PySem.W.tail_of_in X e4⟩
    · cases q
  · cases q
/-- what a new error does in this context -/
noncomputable def NewTo (X : Cx) (E : XK) : Prop := ∀ (pins : List (Addr × Obj)) (σ : St) (H : Hp) (s : Shared) (a : Addr) (cls : Value) (vs : List Value) (h' : Heap), Inv X pins σ H s → Heap.MadeExcOf s.heap h' a cls vs → E cls none H → X.xe (.ref a) { s with heap := h' }
theorem Inv.untracked {X : Cx} {pins : List (Addr × Obj)} {σ : St} {H : Hp} {s : Shared} {a : Addr} (I : Inv X pins σ H s) (h : s.heap.get? a = none) : H a = none := by
  cases q : H a with
  | none => rfl
  | some o => obtain ⟨ob, e⟩ := (I.hok a o q).get; rw [h] at e; cases e
theorem newE {P : Program} {w : World} {K : PySem.W.Frag} {mg : Str → Option Value} {base : Heap} {N : List Str} {qual : Str} {scope : Scope} {f : Addr} {cd : Value} {A : Around} {outer : List Env} {s : Shared} {H : Hp} {E : XK} :
    NewTo (cxOf (CXe P w) P w K mg base N qual scope f cd A outer s H E) E := fun pins σ H1 s1 a cls vs h' I hm hE => by
  obtain ⟨t, e, _⟩ := hm.there
  exact leave_new (s' := { s1 with heap := h' }) I rfl rfl rfl rfl I.bare (Un.kept hm.keeps) (I.hok.kept hm.keeps) ⟨I.untracked hm.new, hm.new⟩ e rfl rfl rfl rfl hE (M := model P w) (E' := fun e' s2 => CXe P w outer H s E e' s2) fun s2 q => q
noncomputable def tRaise (C : Addr) (E : XK) (t : TA) : TS := fun _ σ H => t σ H fun _ H1 => E (.ref C) none H1
theorem ps_raise {X : Cx} {E : XK} {x : Str} {np cpos pos : Pos} {e : Expr} {es : List Expr} {C : Addr} {t : TA} (hn : NewTo X E) (hc : X.calm = true) (q : ExcC X.K C) (hg : Gl X x) (hm : X.mg x = some (.ref C)) (ha : PA X (e :: es) t) (hz : (e :: es).length ≤ 1000 := by decide)
    (hdb : (x == ("__debug__" : Str)) = false := by decide) (he : starEach (e :: es) X.env = (false, eval e X.env) :: starEach es X.env := by rfl) (hpl : (backTo cpos (starEach (e :: es) X.env)).any (·.1) = false := by rfl)
    (hl : ∀ σ H Q, t σ H Q → t σ H fun vs H1 => vs.length = (e :: es).length ∧ Q vs H1) : PS X (.Raise (some (.Call (.Name x np) (e :: es) [] cpos)) none pos) (tRaise C E t) := by
  intro pins s σ H D I h
  obtain ⟨nm, qn, N, bs, bm, hd, sn, sub, ab, col, dd, k0, k1, k2, k3, k5, mN, hC, hns, hni, tl⟩ := q.facts I.ok.mod.kin
  have hbase : bm.contains (.type "BaseException") = true := tl.hasType (by decide +kernel)
  refine wpAny_Raise_call_subU (nm := nm) (q := qn) (C := C) (N := N) (bs := bs) (bm := bm) (hdct := hd) (sn := sn) (sub := sub) (ab := ab) (col := col) (dd := dd) (k0 := k0) (k1 := k1) (k2 := k2) (k3 := k3) (k5 := k5) (mN := mN)
    PySem.F.excBase_ValueError (by decide +kernel) PySem.F.excBase_ValueError hbase (I.ok.hd hc) hpl hni (ld_glob I hg hm ⟨rfl, ?_⟩ hdb)
  have ev : wpAny (model X.prog X.w) X.A (spliced (backTo cpos (starEach (e :: es) X.env))) (AP X pins σ fun vs H1 => vs.length = (e :: es).length ∧ E (.ref C) none H1) X.xe s := ha cpos pins s σ H _ I (hl σ H _ h)
  rw [he] at ev ⊢
  refine Calls.evalArgs_plain (thn ev fun us s1 ⟨vs, H1, I1, r, l1, q1⟩ => ⟨rfl, ?_, ?_⟩)
  · show us.length ≤ sizeLine
    rw [← r.length, l1]
    exact Nat.le_of_lt (small1000 hz)
  · exact ⟨I1.bk _ _ hC, hns.keeps I1.bk, tl.keeps I1.bk, fun h' a hm' => hn pins σ H1 s1 a (.ref C) _ h' I1 hm' q1⟩
end L2

/-! ### classes: a method through the class's name, methods of an object whose class is not fixed, kinds -/
namespace L2
open PySem PySem.Spec PyProof.Rows
/-- C.m, read off the class C: a def -/
structure ClsFn (K : PySem.W.Frag) (C : Addr) (m : Str) (f : Addr) : Prop where
  ga : PySem.W.specialIn K (.ref C) "__getattribute__" = some (some (.builtin "type.__getattribute__"))
  rd : PySem.W.readsIn K C (.type "type") = true
  fc : PySem.W.findCls K (.ref C) (.type "type") m = some (.val (.ref f))
  kp : PySem.W.keepIn K (.ref f) = true
section
variable {X : Cx} {CX : CXT} {k : Nat} {f C : Addr} {fd : FuncData} {ps : List Str} {sp : Sp} {dvs : List V} {ds : List Value} {E : XK} {x m : Str} {p pos apos : Pos} {e o : Expr} {es : List Expr} {ta : TE} {t : TA}
theorem pe_clsM {pl : Sem Bool} (hg : Gl X x) (hm : X.mg x = some (.ref C)) (c : ClsFn X.K C m f) (F : FnOk X.prog X.w X.K X.mg X.base CX k f fd ps sp) (hr : Room k X.A) (hb : Binds X.K fd ps ds) (hd : Vals dvs ds) (hx : Passes CX X E) (ha : PA X (e :: es) t)
    (hdb : (x == ("__debug__" : Str)) = false := by decide) (hst : starEach (e :: es) X.env = (false, eval e X.env) :: starEach es X.env := by rfl) (hpl : (backTo pos (starEach es X.env)).any (·.1) = false := by rfl)
    (ht : eval (.Call (.Attribute (.Name x p) m apos) (e :: es) [] pos) X.env = (do
      let ov ← eval (.Name x p) X.env
      standAt apos.atName
      let (f, first) ← holding [ov] (getMethod ov m pl)
      callWith pos f first (backTo pos (starEach (e :: es) X.env)) (backToKw pos (keywordEach [] X.env))) := by rfl) : PE X (.Call (.Attribute (.Name x p) m apos) (e :: es) [] pos) (tCall sp dvs E t) := by
  intro pins s σ H Q I h
  refine PySem.W.methodCall_KW (pl := pl) (ld_glob I hg hm ?_ hdb) ht
  refine PySem.W.method_cls I.kIn c.ga (PySem.W.cls_value I.kIn c.rd c.fc rfl ?_)
  have I' := I.tok (s.toks + 1)
  refine PySem.W.callWith_K (first := []) (h₀ := X.base) I.ok.mod.kin c.kp (thn (ha pos pins _ σ H _ I' h) fun us s1 ⟨vs, H1, I1, r, q⟩ => ⟨I1.kIn, ?_⟩) hst hpl
  exact run_fn F hr hb hd hx I1 r q
end
/-- the method m of the class C keeps sp -/
structure OkM (P : Program) (w : World) (K : PySem.W.Frag) (mg : Str → Option Value) (base : Heap) (CX : CXT) (k : Nat) (C : Addr) (m : Str) (ps : List Str) (sp : Sp) : Prop where
  ex : ∃ f fd, FnOk P w K mg base CX k f fd ps sp ∧ Binds K fd ps [] ∧ Meth K C m f ∧ Cls K C
/-- numbers handed to a method of the object at a, which is a kind of the size z -/
noncomputable def spKM (KA : Hp → Addr → Int → Prop) (a : Addr) (z : Int) (n : Nat) (pre : Int → List Int → Prop) (F : Int → List Int → Int) : Sp := fun vs H Q _ => ∃ ns : List Int, ns.length = n ∧ vs = .ref a :: ns.map V.int ∧ KA H a z ∧ pre z ns ∧ Q (.int (F z ns)) H
structure KM (P : Program) (w : World) (K : PySem.W.Frag) (mg : Str → Option Value) (base : Heap) (k : Nat) (KA : Hp → Addr → Int → Prop) (m : Str) (n : Nat) (pre : Int → List Int → Prop) (F : Int → List Int → Int) : Prop where
  ex : ∀ H a z, KA H a z → ∃ C dx fs ps, H a = some (.ins C dx fs) ∧ fs.lookup m = none ∧ OkM P w K mg base CX0 k C m ps (spKM KA a z n pre F)
section
variable {X : Cx} {j k n : Nat} {x m : Str} {px pos apos : Pos} {e : Expr} {es : List Expr} {KA : Hp → Addr → Int → Prop} {pre : Int → List Int → Prop} {F : Int → List Int → Int} {C : St → Hp → Prop} {g : St → List Int}
end
/-- C.m read off the class under its name keeps sp -/
structure OkC (P : Program) (w : World) (K : PySem.W.Frag) (mg : Str → Option Value) (base : Heap) (CX : CXT) (k : Nat) (x : Str) (C : Addr) (m : Str) (ps : List Str) (sp : Sp) : Prop where
  ex : ∃ f fd, FnOk P w K mg base CX k f fd ps sp ∧ Binds K fd ps [] ∧ ClsFn K C m f ∧ mg x = some (.ref C)
/-- C(..) under its name: its __init__ keeps sp -/
structure OkI (P : Program) (w : World) (K : PySem.W.Frag) (mg : Str → Option Value) (base : Heap) (CX : CXT) (k : Nat) (x : Str) (C : Addr) (ps : List Str) (sp : Sp) : Prop where
  ex : ∃ f fd, FnOk P w K mg base CX k f fd ps sp ∧ Binds K fd ps [] ∧ Mk K C f ∧ mg x = some (.ref C)
section
variable {X : Cx} {CX : CXT} {j k : Nat} {C : Addr} {ps : List Str} {sp : Sp} {E : XK} {x m : Str} {p pos apos : Pos} {e : Expr} {es : List Expr} {t : TA}
theorem pe_clsO {pl : Sem Bool} (o : OkC X.prog X.w X.K X.mg X.base CX j x C m ps sp) (hr : Room k X.A) (hx : Passes CX X E) (ha : PA X (e :: es) t) (hj : j ≤ k := by decide) (hg : Gl X x := by rfl)
    (hdb : (x == ("__debug__" : Str)) = false := by decide) (hst : starEach (e :: es) X.env = (false, eval e X.env) :: starEach es X.env := by rfl) (hpl : (backTo pos (starEach es X.env)).any (·.1) = false := by rfl)
    (ht : eval (.Call (.Attribute (.Name x p) m apos) (e :: es) [] pos) X.env = (do
      let ov ← eval (.Name x p) X.env
      standAt apos.atName
      let (f, first) ← holding [ov] (getMethod ov m pl)
      callWith pos f first (backTo pos (starEach (e :: es) X.env)) (backToKw pos (keywordEach [] X.env))) := by rfl) : PE X (.Call (.Attribute (.Name x p) m apos) (e :: es) [] pos) (tCall sp [] E t) := by
  obtain ⟨f, fd, F, b, c, mm⟩ := o.ex
  exact pe_clsM hg mm c (F.mono hj) hr b .nil hx ha hdb hst hpl ht
theorem pe_makeO (o : OkI X.prog X.w X.K X.mg X.base CX j x C ps sp) (hr : Room k X.A) (hx : Passes CX X E) (ha : PA X (e :: es) t) (hj : j + 1 ≤ k := by decide) (hg : Gl X x := by rfl) (hdb : (x == ("__debug__" : Str)) = false := by decide)
    (he : starEach (e :: es) X.env = (false, eval e X.env) :: starEach es X.env := by rfl) (hpl : (backTo pos (starEach es X.env)).any (·.1) = false := by rfl) : PE X (.Call (.Name x p) (e :: es) [] pos) (tMake C sp [] E t) := by
  obtain ⟨f, fd, F, b, c, mm⟩ := o.ex
  exact pe_make c F (hr.mono hj) hg mm b .nil hx ha hdb he hpl
theorem pe_makeO0 (o : OkI X.prog X.w X.K X.mg X.base CX j x C ps sp) (hr : Room k X.A) (hx : Passes CX X E) (hj : j + 1 ≤ k := by decide) (hg : Gl X x := by rfl) (hdb : (x == ("__debug__" : Str)) = false := by decide) : PE X (.Call (.Name x p) [] [] pos) (tMake C sp [] E tNil) := by
  obtain ⟨f, fd, F, b, c, mm⟩ := o.ex
  exact pe_make0 c F (hr.mono hj) hg mm b .nil hx hdb
end
/-- numbers of numbers and of a list of numbers that stands first -/
noncomputable def spS (K : PySem.W.Frag) (n : Nat) (pre : List Int → List Int → Prop) (F : List Int → List Int → Int) : Sp := fun vs H Q _ => ∃ (a : Addr) (xs is : List Int), is.length = n ∧ vs = .ref a :: is.map V.int ∧ SqL K H a (xs.map V.int) ∧ pre xs is ∧ Q (.int (F xs is)) H
section
variable {X : Cx} {j k n : Nat} {x y : Str} {py pos p : Pos} {es : List Expr} {ps : List Str} {pre : List Int → List Int → Prop} {F : List Int → List Int → Int} {C : St → Hp → Prop} {g : St → List Int}
theorem pn_callS (i : Nat) (a : Addr) (xs : List Int) (o : Ok X.prog X.w X.K X.mg X.base j x ps (spS X.K n pre F)) (hr : Room k X.A) (ha : PA X es (tNs C g)) (hn : ∀ σ, (g σ).length = n := by intro _; rfl) (hj : j ≤ k := by decide) (hg : Gl X x := by rfl)
    (hN : X.N[i]? = some y := by rfl) (hv : Vis X.env.scope y := by first | exact Or.inl rfl | exact Or.inr (Or.inl rfl) | exact Or.inr (Or.inr rfl)) (hd : (y == ("__debug__" : Str)) = false := by decide) (hcd : (y == ("__classdict__" : Str)) = false := by decide)
    (hdb : (x == ("__debug__" : Str)) = false := by decide) (he : starEach (.Name y py :: es) X.env = (false, eval (.Name y py) X.env) :: starEach es X.env := by rfl) (hpl : (backTo pos (starEach es X.env)).any (·.1) = false := by rfl) :
    PE X (.Call (.Name x p) (.Name y py :: es) [] pos) (tN (fun σ H => σ[i]? = some (some (.ref a)) ∧ SqL X.K H a (xs.map V.int) ∧ C σ H ∧ pre xs (g σ)) (fun σ => F xs (g σ))) :=
  fun pins s σ H Q I h => pe_callO o hr (pa_cons (pe_var hN hv hd hcd) ha he) hj hg hdb he hpl pins s σ H Q I ⟨_, h.1.1, h.1.2.2.1, a, xs, g σ, hn σ, by rw [List.append_nil], h.1.2.1, h.1.2.2.2, h.2⟩
end
/-- a kind: Wholes (size 0), Rests or Powers (size above 0); cW, cR, cP the classes -/
noncomputable def kMeths : List Str := ["plain", "plus", "less", "times", "over"]
noncomputable def KAt (cW cR cP : Addr) (H : Hp) (a : Addr) (z : Int) : Prop := ∃ C dx fs, H a = some (.ins C dx fs) ∧ ((C = cW ∧ z = 0) ∨ ((C = cR ∨ C = cP) ∧ 0 < z)) ∧ fs.lookup ("size" : Str) = some (.int z) ∧ ∀ m ∈ kMeths, fs.lookup m = none
theorem KAt.same {cW cR cP : Addr} {H H' : Hp} {a : Addr} {z : Int} (k : KAt cW cR cP H a z) (s : Same H H') : KAt cW cR cP H' a z := by
  obtain ⟨C, dx, fs, e, r⟩ := k
  exact ⟨C, dx, fs, s _ _ e, r⟩
/-- the number that stands for n in a kind of size z -/
noncomputable def pl (z n : Int) : Int := if z = 0 then n else n % z
theorem pl_zero (n : Int) : pl 0 n = n := rfl
theorem pl_pos {z n : Int} (h : 0 < z) : pl z n = n % z := by unfold pl; rw [if_neg (by omega)]
end L2

/-! ### what else a loop walks: enumerate, reversed, zip -/
namespace L2
open PySem PySem.Spec PyProof.Rows
section
variable {X : Cx} {pins : List (Addr × Obj)} {σ : St} {H : Hp} {s : Shared} {h' : Heap}
/-- several records of an iterator have turned -/
theorem Inv.turnedL {ch : List Addr} {t' : Nat} (I : Inv X pins σ H s) (hf : ∀ b ∈ ch, FpOk X pins H b) (k : ∀ b o, b ∉ ch → s.heap.get? b = some o → h'.get? b = some o) : Inv X pins σ H { s with heap := h', toks := t' } := by
  have nit : ∀ b u, H b = some u → b ∉ ch := fun b u e z => by rw [(hf b z).1] at e; cases e
  refine I.step (g' := s.gens) (d' := s.drawn) (ch := ch) (fun b hb => ⟨(hf b hb).2.2.2.1, (hf b hb).2.1, (hf b hb).2.2.2.2.1, (hf b hb).2.2.2.2.2⟩) (fun b o _ _ hc e _ => k b o hc e) (fun b o _ _ hc e _ => ⟨o.slots, k b o hc e⟩) (fun _ _ _ _ n => n)
    (fun b o hc e => ⟨o, k b o hc e⟩) (fun _ _ e => e) (fun _ _ _ e => e) (fun b ps e => ⟨#[], by rw [e]; simp⟩) (fun m hm => ?_) (fun b u e => ?_) I.bare
  · obtain ⟨o, es, ep, ho, r⟩ := hm
    exact ⟨o, es, ep, k _ o (fun z => (hf _ z).2.1 rfl) ho, r⟩
  · refine (I.hok b u e).stay (fun c v hc q => k c v ?_ q) (fun _ q => q) fun _ _ q => q
    rcases hc with z | z
    · rw [z]; exact nit b u e
    · exact nit c _ z
/-- an object that stands there is tracked from now on -/
theorem Inv.track {T : Addr} {o : HO} (I : Inv X pins σ H s) (f : FpOk X pins H T) (new : ObjOk X.prog X.w (upd H T o) s.heap T o) : Inv X pins σ (upd H T o) s := by
  obtain ⟨f0, f1, f2, f3, f4, f5⟩ := f
  have ne : ∀ {b : Addr} {u : HO}, H b = some u → b ≠ T := fun e => ne_of_none e f0
  refine ⟨I.ok, I.os, I.bare, ⟨I.base.keep, I.base.slot, fun b ob e n x => ?_, I.base.there, fun b xs e => ?_, fun b ob u e => ?_, fun b ps e => ?_⟩, I.loc, I.cell, by rw [upd_ne (Ne.symm f1)]; exact I.free, fun x c e => ?_, fun p hp => ?_, fun b u e => ?_, I.len⟩
  · have hb : b ≠ T := fun z => by
      subst z
      rcases f3 with z | z
      · exact x z
      · exact absurd (Nat.lt_of_lt_of_le (Heap.lt_size e) z) (Nat.lt_irrefl _)
    rw [upd_ne hb]; exact I.base.free b ob e n x
  · have q := I.base.tups b xs e
    rw [upd_ne (ne q)]; exact q
  · have q := I.base.frzs b ob u e
    rw [upd_ne (ne q)]; exact q
  · obtain ⟨m, q⟩ := I.base.tbls b ps e
    exact ⟨m, by rw [upd_ne (ne q)]; exact q⟩
  · rw [upd_ne (f4 x c e)]; exact I.freeC x c e
  · obtain ⟨a1, a2, a3⟩ := I.pin p hp
    exact ⟨a1, by rw [upd_ne (f5 p hp)]; exact a2, a3⟩
  · by_cases c : b = T
    · subst c; rw [upd_same] at e; cases e; exact new
    · rw [upd_ne c] at e
      exact (I.hok b u e).stay (fun _ _ _ q => q) (fun d q => by rw [upd_ne (ne q)]; exact q) fun d xs q => by rw [upd_ne (ne q)]; exact q
end
/-- enumerate(the list at a): a pair (place, item) each turn -/
noncomputable def Ite (K : PySem.W.Frag) (a : Addr) : It :=
  ⟨fun i H => ∃ xs x, SqL K H a xs ∧ xs[i]? = some x, fun i H v H' => ∃ T y, v = .ref T ∧ H T = none ∧ H' = upd H T (.tup [.int i, y]) ∧ ∀ xs, SqL K H a xs → xs[i]? = some y, fun i H => ∃ xs, SqL K H a xs ∧ xs.length ≤ i⟩
theorem turn_enum {P : Program} {w : World} {K : PySem.W.Frag} {els : List Expr} {kk : Nat} {tp : Pos} (a e it : Addr) (hne : e ≠ it) : Turn P w K (.Tuple els kk tp) (Ite K a) [e, it] e (fun i h => (∃ old, IsEnum h e it i old) ∧ h.IsListIter it a i) where
  mem := by simp
  obj := fun i h st b hb => by
    obtain ⟨⟨old, he⟩, o, ho, _, hd⟩ := st
    rcases List.mem_cons.mp hb with rfl | hb
    · exact ⟨_, he, fun v z => by cases z⟩
    · have q : b = it := by simpa using hb
      subst q
      exact ⟨o, ho, fun v z => by rw [hd] at z; cases z⟩
  keep := fun i h h' st k => by
    obtain ⟨⟨old, he⟩, hit⟩ := st
    exact ⟨⟨old, k e (by simp) _ he⟩, hit.at fun o q => k it (by simp) o q⟩
  item := by
    intro X hP hw hK hc i pins s σ H E I hf st hg
    subst hP hw hK
    obtain ⟨xs, x, hq, hx⟩ := hg
    obtain ⟨⟨old, he⟩, hit⟩ := st
    obtain ⟨its, rv, p, hz⟩ := I.list hq
    obtain ⟨u, hu, ru⟩ := rv.get hx
    refine wpAny_pyNext_enum_item he hit p.isList (x := u) (by simpa using hu) hne fun h1 ho hit1 hT hsz hk => ⟨_, rfl, ?_⟩
    refine wpAny_letOwnedTupleGo_enum ho fun h2 he2 hs2 => ?_
    have Te : s.heap.objs.size ≠ e := Nat.ne_of_gt (Heap.lt_size he)
    have keep2 : ∀ b o, b ∉ [e, it] → s.heap.get? b = some o → h2.get? b = some o := fun b o hb q => by
      have b1 : b ≠ e := fun z => hb (by simp [z])
      have b2 : b ≠ it := fun z => hb (by simp [z])
      exact (hs2.2 b b1).trans (hk b o b1 b2 q)
    have I1 : Inv X pins σ H { s with heap := h2, toks := s.toks + 1 } := I.turnedL hf keep2
    have fT : FpOk X pins H s.heap.objs.size := I.fpOk (Nat.le_refl _) (I.hok.fresh (Nat.le_refl _))
    have I2 := I1.track (o := .tup [.int i, x]) fT ⟨by show 2 ≤ sizeLine; decide, [.int i s.toks, u], .cons ⟨_, rfl⟩ (.cons ru .nil), ⟨_, (hs2.2 _ Te).trans hT, rfl, _, rfl⟩⟩
    refine ⟨.ref s.heap.objs.size, _, I2, rfl, ⟨_, x, rfl, fT.1, rfl, fun ys hy => by rw [I.list_inj hy hq]; exact hx⟩, ⟨⟨_, by exact_mod_cast he2⟩, ?_⟩, fun b hb => ?_⟩
    · obtain ⟨o, q, r⟩ := hit1
      exact ⟨o, (hs2.2 it (Ne.symm hne)).trans q, r⟩
    · rw [upd_ne]
      · exact (hf b hb).1
      · rcases List.mem_cons.mp hb with rfl | hb
        · exact Ne.symm Te
        · have q : b = it := by simpa using hb
          subst q
          obtain ⟨o, q, _⟩ := hit
          exact Nat.ne_of_lt (Heap.lt_size q)
  done := by
    intro X hP hw hK hc i pins s σ H E I hf st hg
    subst hP hw hK
    obtain ⟨xs, hq, hx⟩ := hg
    obtain ⟨⟨old, he⟩, hit⟩ := st
    obtain ⟨its, rv, p, hz⟩ := I.list hq
    have hl := rv.length
    exact wpAny_pyNext_enum_end (I.ok.hd hc) he hit p.isList (by simp; omega) fun h1 eb => ⟨rfl, I.turnedL hf fun b o hb q => eb b o (fun z => hb (by simp [z])) q⟩
  self := fun A i s Q E st h => by
    obtain ⟨⟨old, he⟩, _⟩ := st
    exact wpAny_pyIter_enum he h
theorem bt_enumerate : bootBuiltins "enumerate" = some (.type "enumerate") := by decide +kernel
noncomputable def iEnum (K : PySem.W.Frag) (ta : TA) : TI := fun σ H R => ta σ H fun vs H1 => ∃ a, vs = [.ref a] ∧ (∃ xs, SqL K H1 a xs) ∧ R (Ite K a) H1
theorem pi_enum {X : Cx} {els : List Expr} {kk : Nat} {tp : Pos} {l : Expr} {ta : TA} {p pos : Pos} (hg : Gl X "enumerate") (hm : X.mg "enumerate" = none) (ha : PA X [l] ta) (hs : starEach [l] X.env = [(false, eval l X.env)] := by rfl) :
    PI X (.Tuple els kk tp) (.Call (.Name "enumerate" p) [l] [] pos) (iEnum X.K ta) := by
  intro pins s σ H R I h
  refine Call_ (ld_blt I hg hm bt_enumerate (PyProof.Rows.callWith_type1 (thn (ha pos pins s σ H _ I h) fun us s1 ⟨vs, H1, I1, r1, q1⟩ => ?_) hs rfl))
  obtain ⟨a, rfl, ⟨xs, hq⟩, q⟩ := q1
  obtain ⟨u, rfl, ru⟩ := vals1 r1
  cases ru
  obtain ⟨its, rv, p', hz⟩ := I1.list hq
  refine call_enumerate_list p'.isList fun h1 he hit hsz hk => ?_
  refine wpAny_pyIter_enum he ?_
  have I2 : Inv X pins σ H1 { s1 with heap := h1 } := I1.kept (t' := s1.toks) hk
  refine ⟨_, [s1.heap.objs.size + 1, s1.heap.objs.size], _, _, H1, rfl, I2, turn_enum a (s1.heap.objs.size + 1) s1.heap.objs.size (Nat.succ_ne_self _), ⟨⟨_, he⟩, hit⟩, fun b hb => ?_, q⟩
  rcases List.mem_cons.mp hb with rfl | hb
  · exact I1.fpOk (Nat.le_succ _) (I1.hok.fresh (Nat.le_succ _))
  · have e : b = s1.heap.objs.size := by simpa using hb
    subst e
    exact I1.fpOk (Nat.le_refl _) (I1.hok.fresh (Nat.le_refl _))
/-! the forms one uses -/
/-- for k, v in enumerate(a): the body leaves the list as it is -/
theorem for_enum {K : PySem.W.Frag} {a : Addr} {xs : List V} {g : TG} {tb : TS} {D : Ends} {σ : St} {H : Hp} (Pv : Nat → St → Hp → Prop) (h0 : Pv 0 σ H) (hl : ∀ i σ H, i ≤ xs.length → Pv i σ H → SqL K H a xs)
    (hs : ∀ i x σ H T, xs[i]? = some x → Pv i σ H → H T = none → g (.ref T) σ (upd H T (.tup [.int i, x])) fun σ2 H2 => tb { D with nx := Pv (i + 1), ct := Pv (i + 1), bk := D.nx } σ2 H2) (hd : ∀ σ H, Pv xs.length σ H → D.nx σ H) :
    ∃ W : Nat → Nat → St → Hp → Prop, (∃ m, W 0 m σ H) ∧ ∀ i m σ H, W i m σ H →
      ((Ite K a).stop i H ∧ D.nx σ H) ∨ ((Ite K a).go i H ∧ ∃ N : St → Hp → Prop, (∀ σ' H', N σ' H' → ∃ m', m' < m ∧ W (i + 1) m' σ' H') ∧ ∀ x H', (Ite K a).yld i H x H' → g x σ H' fun σ2 H2 => tb { D with nx := N, ct := N, bk := D.nx } σ2 H2) := by
  refine ⟨fun i m σ H => m = xs.length - i ∧ i ≤ xs.length ∧ Pv i σ H, ⟨xs.length, by simp, Nat.zero_le _, h0⟩, ?_⟩
  rintro i m σ H ⟨rfl, hi, p⟩
  have q := hl i σ H hi p
  by_cases hlt : i < xs.length
  · refine .inr ⟨⟨xs, xs[i], q, by simp [hlt]⟩, Pv (i + 1), fun σ' H' p' => ⟨xs.length - (i + 1), by omega, rfl, hlt, p'⟩, fun x H' y => ?_⟩
    obtain ⟨T, z, rfl, hT, rfl, hz⟩ := y
    exact hs i z σ H T (hz xs q) p hT
  · have e : i = xs.length := by omega
    subst e
    exact .inl ⟨⟨xs, q, Nat.le_refl _⟩, hd σ H p⟩
end L2

/-! ### comprehensions of numbers, as one uses them -/
namespace L2
open PySem PySem.Spec PyProof.Rows
theorem int_at {ns : List Int} {i : Nat} {x : V} (h : (ns.map V.int)[i]? = some x) : ∃ n, x = .int n ∧ ns[i]? = some n := by
  rw [List.getElem?_map] at h
  cases e : ns[i]? with
  | none => rw [e] at h; cases h
  | some n => rw [e] at h; exact ⟨n, (Option.some.inj h).symm, rfl⟩
theorem take_at {α : Type} {ns : List α} {i : Nat} {n : α} (h : ns[i]? = some n) : ns.take (i + 1) = ns.take i ++ [n] := by rw [List.take_add_one, h]; rfl
noncomputable abbrev noTest : TT := fun _ H Q => Q true H
section
variable {K : PySem.W.Frag} {a D : Addr} {ns : List Int} {σ : St} {C : St → Hp → Prop} {g : St → Int} {Q : VK} {H1 : Hp}
end
end L2

/-! ### the mathematics: primes up to 9973, rests, noughts cut, values -/
namespace FM
open L2
noncomputable def IsP (n : Int) : Prop := 2 ≤ n ∧ n ≤ 9973 ∧ ∀ d : Int, 2 ≤ d → d * d ≤ n → ¬ n % d = 0
open Classical in
noncomputable def isP (n : Int) : Bool := decide (IsP n)
open Classical in
theorem isP_true {n : Int} (h : IsP n) : isP n = true := by unfold isP; exact decide_eq_true h
open Classical in
theorem isP_false {n : Int} (h : ¬ IsP n) : isP n = false := by unfold isP; exact decide_eq_false h
open Classical in
theorem isP_iff {n : Int} : isP n = true ↔ IsP n := by unfold isP; exact decide_eq_true_iff
noncomputable def Clean (n d : Int) : Prop := ∀ e : Int, 2 ≤ e → e < d → ¬ n % e = 0
theorem Clean.next {n d : Int} (h : Clean n d) (hd : ¬ n % d = 0) : Clean n (d + 1) := fun e h1 h2 => by
  by_cases c : e = d
  · rw [c]; exact hd
  · exact h e h1 (by omega)
theorem sq_ge {d : Int} (h : 2 ≤ d) : d ≤ d * d := by
  have := Int.mul_le_mul_of_nonneg_left (show (1 : Int) ≤ d by omega) (show (0 : Int) ≤ d by omega)
  omega
theorem sq_mono {d e : Int} (h0 : 0 ≤ d) (h : d ≤ e) : d * d ≤ e * e := Int.mul_le_mul h h h0 (by omega)
theorem IsP.out {n d : Int} (h : Clean n d) (h2 : 2 ≤ d) (lo : 2 ≤ n) (hi : n ≤ 9973) (hd : ¬ d * d ≤ n) : IsP n := ⟨lo, hi, fun e h1 he => by
  by_cases c : e < d
  · exact h e h1 c
  · have := sq_mono (d := d) (e := e) (by omega) (by omega)
    omega⟩
theorem isP2 : IsP 2 := ⟨by omega, by omega, fun d h1 h2 => by have := sq_mono (d := 2) (e := d) (by omega) h1; omega⟩
noncomputable def F_P : List Int → Bool := fun ns => match ns with
  | [n] => isP n
  | _ => false
noncomputable def yes : List Int → Prop := fun _ => True
/-! rests -/
theorem pl_pl (z n : Int) : pl z (pl z n) = pl z n := by
  unfold pl
  by_cases h : z = 0
  · rw [if_pos h, if_pos h]
  · rw [if_neg h, if_neg h, Int.emod_emod_of_dvd _ (Int.dvd_refl z)]
theorem pl_add (z a b : Int) : pl z (pl z a + b) = pl z (a + b) := by
  unfold pl
  by_cases h : z = 0
  · rw [if_pos h, if_pos h, if_pos h]
  · rw [if_neg h, if_neg h, if_neg h, Int.emod_add_emod]
theorem pl_mul (z a b : Int) : pl z (pl z a * b) = pl z (a * b) := by
  unfold pl
  by_cases h : z = 0
  · rw [if_pos h, if_pos h, if_pos h]
  · rw [if_neg h, if_neg h, if_neg h, Int.mul_emod, Int.emod_emod_of_dvd _ (Int.dvd_refl z), ← Int.mul_emod]
theorem pl_mul' (z a b : Int) : pl z (a * pl z b) = pl z (a * b) := by rw [Int.mul_comm, pl_mul, Int.mul_comm]
theorem pl_add' (z a b : Int) : pl z (a + pl z b) = pl z (a + b) := by rw [Int.add_comm, pl_add, Int.add_comm]
/-! noughts at the end -/
noncomputable def trimZ (xs : List Int) : List Int := (xs.reverse.dropWhile (· == 0)).reverse
theorem trimZ_zero (xs : List Int) : trimZ (xs ++ [0]) = trimZ xs := by
  unfold trimZ
  rw [List.reverse_append]
  simp
theorem trimZ_ne (xs : List Int) {x : Int} (h : x ≠ 0) : trimZ (xs ++ [x]) = xs ++ [x] := by
  unfold trimZ
  rw [List.reverse_append]
  simp [h]
theorem trimZ_len (xs : List Int) : (trimZ xs).length ≤ xs.length := by
  unfold trimZ
  have := (List.dropWhile_sublist (· == 0) (l := xs.reverse)).length_le
  simpa using this
/-! sizes -/
theorem abs_pow_le {x : Int} {X : Nat} (h : x.natAbs ≤ X) (k : Nat) : (x ^ k).natAbs ≤ X ^ k := by
  rw [Int.natAbs_pow]
  exact Nat.pow_le_pow_left h k
/-! values -/
noncomputable def ev : List Int → Int → Int
  | [], _ => 0
  | n :: r, x => n + x * ev r x
end FM

/-! ### a reading of defs by pure values: what stands in the slots, without the heap -/
namespace L3
open PySem PySem.Spec PyProof.Rows L2
inductive PV where
  | int (n : Int) | bl (b : Bool) | non | str (s : Str) | ints (ns : List Int) | scr (ns : List Int) | lst (xs : List PV) | tup (xs : List PV) | ob (k : Nat) (z : Int) | ty (n : String) | cls (a : Addr)
/-- what stands for own objects: k the sort, z its number -/
structure Gx where
  ob : Nat → Hp → Addr → Int → Prop
  mono : ∀ k H H' a z, Same H H' → ob k H a z → ob k H' a z
mutual
noncomputable def At (K : PySem.W.Frag) (G : Gx) (H : Hp) : PV → V → Prop
  | .int n, v => v = .int n
  | .bl b, v => v = .bl b
  | .non, v => v = .non
  | .str s, v => v = .str s
  | .ints ns, v => ∃ a, v = .ref a ∧ Rd H a (.lst (ns.map V.int))
  | .scr ns, v => ∃ a, v = .ref a ∧ SqL K H a (ns.map V.int)
  | .lst xs, v => ∃ a vs, v = .ref a ∧ Rd H a (.lst vs) ∧ AtL K G H xs vs
  | .tup xs, v => ∃ a vs, v = .ref a ∧ H a = some (.tup vs) ∧ AtL K G H xs vs
  | .ob k z, v => ∃ a, v = .ref a ∧ G.ob k H a z
  | .ty n, v => v = .ty n
  | .cls a, v => v = .ref a
noncomputable def AtL (K : PySem.W.Frag) (G : Gx) (H : Hp) : List PV → List V → Prop
  | [], vs => vs = []
  | p :: ps, vs => ∃ v r, vs = v :: r ∧ At K G H p v ∧ AtL K G H ps r
end
theorem same_rd {H H' : Hp} {a : Addr} {u : HO} (e : Same H H') (h : Rd H a u) : Rd H' a u := by
  rcases h with h | ⟨o, h⟩
  · exact .inl (e _ _ h)
  · exact .inr ⟨o, e _ _ h⟩
theorem same_tup {K : PySem.W.Frag} {H H' : Hp} {a : Addr} {xs : List V} (e : Same H H') (h : SqT K H a xs) : SqT K H' a xs := by
  rcases h with (h | ⟨o, h⟩) | h
  · exact .inl (.inl (e _ _ h))
  · exact .inl (.inr ⟨o, e _ _ h⟩)
  · exact .inr h
mutual
theorem At.mono {K : PySem.W.Frag} {G : Gx} {H H' : Hp} (s : Same H H') : ∀ (p : PV) (v : V), At K G H p v → At K G H' p v
  | .int _, _, h => h
  | .bl _, _, h => h
  | .non, _, h => h
  | .str _, _, h => h
  | .ints _, _, h => by obtain ⟨a, e, q⟩ := h; exact ⟨a, e, same_rd s q⟩
  | .scr _, _, h => by obtain ⟨a, e, q⟩ := h; exact ⟨a, e, s.seq q⟩
  | .lst xs, _, h => by obtain ⟨a, vs, e, q, r⟩ := h; exact ⟨a, vs, e, same_rd s q, AtL.mono s xs vs r⟩
  | .tup xs, _, h => by obtain ⟨a, vs, e, q, r⟩ := h; exact ⟨a, vs, e, s _ _ q, AtL.mono s xs vs r⟩
  | .ob _ _, _, h => by obtain ⟨a, e, q⟩ := h; exact ⟨a, e, G.mono _ _ _ _ _ s q⟩
  | .ty _, _, h => h
  | .cls _, _, h => h
theorem AtL.mono {K : PySem.W.Frag} {G : Gx} {H H' : Hp} (s : Same H H') : ∀ (ps : List PV) (vs : List V), AtL K G H ps vs → AtL K G H' ps vs
  | [], _, h => h
  | p :: ps, _, h => by obtain ⟨v, r, e, q, t⟩ := h; exact ⟨v, r, e, At.mono s p v q, AtL.mono s ps r t⟩
end
theorem AtL.length {K : PySem.W.Frag} {G : Gx} {H : Hp} : ∀ {ps : List PV} {vs : List V}, AtL K G H ps vs → ps.length = vs.length
  | [], _, h => by cases h; rfl
  | p :: ps, _, h => by
    obtain ⟨v, r, rfl, _, t⟩ := h
    rw [List.length_cons, List.length_cons, AtL.length t]
theorem AtL.get {K : PySem.W.Frag} {G : Gx} {H : Hp} : ∀ {ps : List PV} {vs : List V} {i : Nat} {v : V}, AtL K G H ps vs → vs[i]? = some v → ∃ p, ps[i]? = some p ∧ At K G H p v
  | [], _, i, v, h, e => by cases h; simp at e
  | p :: ps, _, 0, v, h, e => by
    obtain ⟨w, r, rfl, q, t⟩ := h
    simp at e
    subst e
    exact ⟨p, rfl, q⟩
  | p :: ps, _, i + 1, v, h, e => by
    obtain ⟨w, r, rfl, q, t⟩ := h
    obtain ⟨p', e', q'⟩ := AtL.get (i := i) (v := v) t (by simpa using e)
    exact ⟨p', by simpa using e', q'⟩
theorem AtL.at {K : PySem.W.Frag} {G : Gx} {H : Hp} : ∀ {ps : List PV} {vs : List V} {i : Nat} {p : PV}, AtL K G H ps vs → ps[i]? = some p → ∃ v, vs[i]? = some v ∧ At K G H p v
  | [], _, i, v, h, e => by simp at e
  | p :: ps, _, 0, v, h, e => by
    obtain ⟨w, r, rfl, q, t⟩ := h
    simp at e
    subst e
    exact ⟨w, rfl, q⟩
  | p :: ps, _, i + 1, v, h, e => by
    obtain ⟨w, r, rfl, q, t⟩ := h
    obtain ⟨v', e', q'⟩ := AtL.at (i := i) (p := v) t (by simpa using e)
    exact ⟨v', by simpa using e', q'⟩
theorem AtL.snoc {K : PySem.W.Frag} {G : Gx} {H : Hp} {p : PV} {v : V} : ∀ {ps : List PV} {vs : List V}, AtL K G H ps vs → At K G H p v → AtL K G H (ps ++ [p]) (vs ++ [v])
  | [], _, h, q => by cases h; exact ⟨v, [], rfl, q, rfl⟩
  | p' :: ps, _, h, q => by
    obtain ⟨w, r, rfl, q', t⟩ := h
    exact ⟨w, _, rfl, q', AtL.snoc t q⟩
/-- the heap less what is hidden -/
noncomputable def mn (H : Hp) (O : Addr → Bool) : Hp := fun b => if O b = true then none else H b
theorem mn_get {H : Hp} {O : Addr → Bool} {b : Addr} {o : HO} (h : mn H O b = some o) : O b = false ∧ H b = some o := by
  unfold mn at h
  by_cases c : O b = true
  · rw [if_pos c] at h; cases h
  · rw [if_neg c] at h; exact ⟨by simpa using c, h⟩
theorem mn_of {H : Hp} {O : Addr → Bool} {b : Addr} (h : O b = false) : mn H O b = H b := by unfold mn; rw [if_neg (by rw [h]; decide)]
theorem mn_le {H : Hp} {O : Addr → Bool} : Same (mn H O) H := fun _ _ h => (mn_get h).2
theorem mn_same {H H' : Hp} {O : Addr → Bool} (s : Same H H') : Same (mn H O) (mn H' O) := fun b o h => by
  obtain ⟨c, e⟩ := mn_get h
  rw [mn_of c]; exact s b o e
theorem mn_anti {H : Hp} {O O' : Addr → Bool} (k : ∀ a, O a = true → O' a = true) : Same (mn H O') (mn H O) := fun b o h => by
  obtain ⟨c, e⟩ := mn_get h
  have : O b = false := by
    cases z : O b with
    | false => rfl
    | true => rw [k b z] at c; cases c
  rw [mn_of this]; exact e
noncomputable def hide (a : Addr) (O : Addr → Bool) : Addr → Bool := fun b => b == a || O b
theorem hide_ne {a b : Addr} {O : Addr → Bool} (h : b ≠ a) : hide a O b = O b := by unfold hide; simp [h]
theorem hide_self {a : Addr} {O : Addr → Bool} : hide a O a = true := by unfold hide; simp
theorem hide_le {a : Addr} {O : Addr → Bool} : ∀ b, O b = true → hide a O b = true := fun b h => by unfold hide; simp [h]
/-- a new address is hidden: what could be seen is still seen -/
theorem mn_hide {H H' : Hp} {O : Addr → Bool} {a : Addr} (s : Same H H') (ha : H a = none) : Same (mn H O) (mn H' (hide a O)) := fun b o h => by
  obtain ⟨c, e⟩ := mn_get h
  rw [mn_of (by rw [hide_ne (ne_of_none e ha)]; exact c)]; exact s b o e
theorem mn_upd {H : Hp} {O : Addr → Bool} {a : Addr} {o : HO} (h : O a = true) : mn (upd H a o) O = mn H O := by
  funext b
  unfold mn
  by_cases c : O b = true
  · rw [if_pos c, if_pos c]
  · rw [if_neg c, if_neg c, upd_ne (fun z => c (by rw [z]; exact h))]
/-- slots: not bound; bound to what nobody changes; to a list of one's own; to a list of two such lists -/
inductive Sl where
  | un | fr (p : PV) | ow (p : PV) | o2 (xs ys : List Int)
noncomputable abbrev En := List Sl
structure Bs where
  H0 : Hp
  Oc : Addr → Bool
noncomputable def OwnAt (K : PySem.W.Frag) (G : Gx) (H : Hp) : PV → List V → Prop
  | .ints ns, vs => vs = ns.map V.int
  | .lst xs, vs => AtL K G H xs vs
  | _, _ => False
theorem OwnAt.mono {K : PySem.W.Frag} {G : Gx} {H H' : Hp} (s : Same H H') {p : PV} {vs : List V} (h : OwnAt K G H p vs) : OwnAt K G H' p vs := by
  cases p <;> first | exact h | exact AtL.mono s _ _ h
structure O2At (B : Bs) (σ : L2.St) (H : Hp) (ρ : En) (O : Addr → Bool) (i : Nat) (xs ys : List Int) (D a b : Addr) : Prop where
  at_ : σ[i]? = some (some (.ref D))
  oD : O D = true
  oa : O a = true
  ob : O b = true
  nD : B.H0 D = none
  na : B.H0 a = none
  nb : B.H0 b = none
  hD : H D = some (.lst [.ref a, .ref b])
  ha : H a = some (.lst (xs.map V.int))
  hb : H b = some (.lst (ys.map V.int))
  ab : a ≠ b
  un : ∀ (j : Nat) q c, ρ[j]? = some (.ow q) → σ[j]? = some (some (.ref c)) → c ≠ D ∧ c ≠ a ∧ c ≠ b
  one : ∀ (j : Nat) xs' ys', ρ[j]? = some (.o2 xs' ys') → j = i
structure Rep (K : PySem.W.Frag) (G : Gx) (B : Bs) (σ : L2.St) (H : Hp) (ρ : En) (O : Addr → Bool) : Prop where
  same : Same B.H0 H
  cd : ∀ a, B.Oc a = true → B.H0 a ≠ none
  hid : ∀ a, B.Oc a = true → O a = true
  dom : ∀ a, O a = true → H a ≠ none
  vis : ∀ a, O a = true → B.Oc a = true ∨ B.H0 a = none
  fr : ∀ (i : Nat) p, ρ[i]? = some (.fr p) → ∃ v, σ[i]? = some (some v) ∧ At K G (mn H O) p v
  ow : ∀ (i : Nat) p, ρ[i]? = some (.ow p) → ∃ a vs, σ[i]? = some (some (.ref a)) ∧ O a = true ∧ B.H0 a = none ∧ H a = some (.lst vs) ∧ OwnAt K G (mn H O) p vs
  inj : ∀ (i j : Nat) p q a, ρ[i]? = some (.ow p) → ρ[j]? = some (.ow q) → σ[i]? = some (some (.ref a)) → σ[j]? = some (some (.ref a)) → i = j
  len : σ.length = ρ.length
  o2 : ∀ (i : Nat) xs ys, ρ[i]? = some (.o2 xs ys) → ∃ D a b, O2At B σ H ρ O i xs ys D a b
section
variable {K : PySem.W.Frag} {G : Gx} {B : Bs} {σ : L2.St} {H H' : Hp} {ρ : En} {O : Addr → Bool} {i : Nat}
theorem Rep.grow (R : Rep K G B σ H ρ O) (s : Same H H') : Rep K G B σ H' ρ O := by
  refine ⟨R.same.trans s, R.cd, R.hid, fun a h z => R.dom a h (s.free z), R.vis, fun i p e => ?_, fun i p e => ?_, R.inj, R.len, fun i xs ys e => let ⟨D, a, b, q⟩ := R.o2 i xs ys e; ⟨D, a, b, q.at_, q.oD, q.oa, q.ob, q.nD, q.na, q.nb, s _ _ q.hD, s _ _ q.ha, s _ _ q.hb, q.ab, q.un, q.one⟩⟩
  · obtain ⟨v, e1, e2⟩ := R.fr i p e
    exact ⟨v, e1, At.mono (mn_same s) _ _ e2⟩
  · obtain ⟨a, vs, e1, e2, e3, e4, e5⟩ := R.ow i p e
    exact ⟨a, vs, e1, e2, e3, s _ _ e4, e5.mono (mn_same s)⟩
theorem set_at {α : Type} {l : List α} {i j : Nat} {x y : α} (h : (l.set i x)[j]? = some y) : (i = j ∧ y = x ∧ i < l.length) ∨ (i ≠ j ∧ l[j]? = some y) := by
  rw [List.getElem?_set] at h
  by_cases c : i = j
  · rw [if_pos c] at h
    by_cases c2 : i < l.length
    · rw [if_pos c2] at h; exact .inl ⟨c, (Option.some.inj h).symm, c2⟩
    · rw [if_neg c2] at h; cases h
  · rw [if_neg c] at h; exact .inr ⟨c, h⟩
theorem set_ne {α : Type} {l : List α} {i j : Nat} {x : α} (h : i ≠ j) : (l.set i x)[j]? = l[j]? := by rw [List.getElem?_set, if_neg h]
theorem set_eq {α : Type} {l : List α} {i : Nat} {x : α} (h : i < l.length) : (l.set i x)[i]? = some x := by rw [List.getElem?_set, if_pos rfl, if_pos h]
/-- a name is bound to a value that nobody changes -/
theorem Rep.set (R : Rep K G B σ H ρ O) {p : PV} {v : V} (h : At K G (mn H O) p v) : Rep K G B (σ.set i (some v)) H (ρ.set i (.fr p)) O := by
  refine ⟨R.same, R.cd, R.hid, R.dom, R.vis, fun j q e => ?_, fun j q e => ?_, fun j k q r a e1 e2 e3 e4 => ?_, by rw [List.length_set, List.length_set]; exact R.len, fun j xs ys e => ?_⟩
  · rcases set_at e with ⟨rfl, e, l⟩ | ⟨n, e⟩
    · cases e; exact ⟨v, set_eq (by rw [R.len]; exact l), h⟩
    · rw [set_ne n]; exact R.fr j q e
  · rcases set_at e with ⟨rfl, e, l⟩ | ⟨n, e⟩
    · cases e
    · rw [set_ne n]; exact R.ow j q e
  · rcases set_at e1 with ⟨rfl, e, l⟩ | ⟨n, e⟩
    · cases e
    · rcases set_at e2 with ⟨rfl, e', l'⟩ | ⟨n', e'⟩
      · cases e'
      · rw [set_ne n] at e3; rw [set_ne n'] at e4
        exact R.inj j k q r a e e' e3 e4
  · rcases set_at e with ⟨rfl, e, l⟩ | ⟨n, e⟩
    · cases e
    · obtain ⟨D, a, b, q⟩ := R.o2 j xs ys e
      refine ⟨D, a, b, by rw [set_ne n]; exact q.at_, q.oD, q.oa, q.ob, q.nD, q.na, q.nb, q.hD, q.ha, q.hb, q.ab, fun k r c e1 e2 => ?_, fun k xs' ys' e1 => ?_⟩
      · rcases set_at e1 with ⟨_, e', _⟩ | ⟨n', e'⟩
        · cases e'
        · rw [set_ne n'] at e2; exact q.un k r c e' e2
      · rcases set_at e1 with ⟨_, e', _⟩ | ⟨n', e'⟩
        · cases e'
        · exact q.one k xs' ys' e'
/-- a new list comes and is one's own -/
theorem Rep.new (R : Rep K G B σ H ρ O) {p : PV} {a : Addr} {vs : List V} (s : Same H H') (ha : H a = none) (he : H' a = some (.lst vs)) (h : OwnAt K G (mn H' (hide a O)) p vs) : Rep K G B (σ.set i (some (.ref a))) H' (ρ.set i (.ow p)) (hide a O) := by
  refine ⟨R.same.trans s, R.cd, fun b z => hide_le b (R.hid b z), fun b z y => ?_, fun b z => ?_, fun j q e => ?_, fun j q e => ?_, fun j k q r b e1 e2 e3 e4 => ?_, by rw [List.length_set, List.length_set]; exact R.len, fun j xs ys e => ?_⟩
  · by_cases c : b = a
    · subst c; rw [he] at y; cases y
    · rw [hide_ne c] at z; exact R.dom b z (s.free y)
  · by_cases c : b = a
    · subst c; exact .inr (R.same.free ha)
    · rw [hide_ne c] at z; exact R.vis b z
  · rcases set_at e with ⟨rfl, e, l⟩ | ⟨n, e⟩
    · cases e
    · obtain ⟨v, e1, e2⟩ := R.fr j q e
      exact ⟨v, by rw [set_ne n]; exact e1, At.mono (mn_hide s ha) _ _ e2⟩
  · rcases set_at e with ⟨rfl, e, l⟩ | ⟨n, e⟩
    · cases e
      exact ⟨a, vs, set_eq (by rw [R.len]; exact l), hide_self, R.same.free ha, he, h⟩
    · obtain ⟨b, us, e1, e2, e3, e4, e5⟩ := R.ow j q e
      exact ⟨b, us, by rw [set_ne n]; exact e1, hide_le b e2, e3, s _ _ e4, e5.mono (mn_hide s ha)⟩
  · have old : ∀ (m : Nat) q, ρ[m]? = some (.ow q) → σ[m]? = some (some (.ref a)) → False := fun m q e z => by
      obtain ⟨b, us, e1, _, _, e4, _⟩ := R.ow m q e
      rw [z] at e1; cases e1
      rw [ha] at e4; cases e4
    rcases set_at e1 with ⟨rfl, e, l⟩ | ⟨n, e⟩
    · rcases set_at e2 with ⟨rfl, e', l'⟩ | ⟨n', e'⟩
      · rfl
      · rw [set_eq (by rw [R.len]; exact l)] at e3
        cases e3
        rw [set_ne n'] at e4
        exact (old k r e' e4).elim
    · rcases set_at e2 with ⟨rfl, e', l'⟩ | ⟨n', e'⟩
      · rw [set_eq (by rw [R.len]; exact l')] at e4
        cases e4
        rw [set_ne n] at e3
        exact (old j q e e3).elim
      · rw [set_ne n] at e3; rw [set_ne n'] at e4
        exact R.inj j k q r b e e' e3 e4
  · rcases set_at e with ⟨rfl, e, l⟩ | ⟨n, e⟩
    · cases e
    · obtain ⟨D, a1, b1, q⟩ := R.o2 j xs ys e
      refine ⟨D, a1, b1, by rw [set_ne n]; exact q.at_, hide_le _ q.oD, hide_le _ q.oa, hide_le _ q.ob, q.nD, q.na, q.nb, s _ _ q.hD, s _ _ q.ha, s _ _ q.hb, q.ab, fun k r c e1 e2 => ?_, fun k xs' ys' e1 => ?_⟩
      · rcases set_at e1 with ⟨rfl, e', l'⟩ | ⟨n', e'⟩
        · rw [set_eq (by rw [R.len]; exact l')] at e2
          cases e2
          exact ⟨Ne.symm (ne_of_none q.hD ha), Ne.symm (ne_of_none q.ha ha), Ne.symm (ne_of_none q.hb ha)⟩
        · rw [set_ne n'] at e2; exact q.un k r c e' e2
      · rcases set_at e1 with ⟨_, e', _⟩ | ⟨n', e'⟩
        · cases e'
        · exact q.one k xs' ys' e'
/-- a list of one's own changes -/
theorem Rep.change (R : Rep K G B σ H ρ O) {p p' : PV} {a : Addr} {vs : List V} (e : ρ[i]? = some (.ow p)) (ea : σ[i]? = some (some (.ref a))) (h : OwnAt K G (mn H O) p' vs) : Rep K G B σ (upd H a (.lst vs)) (ρ.set i (.ow p')) O := by
  obtain ⟨a', us, e1, e2, e3, e4, e5⟩ := R.ow i p e
  rw [ea] at e1
  cases e1
  have hl : i < ρ.length := (List.getElem?_eq_some_iff.mp e).1
  refine ⟨fun b o z => ?_, R.cd, R.hid, fun b z y => ?_, R.vis, fun j q ej => ?_, fun j q ej => ?_, fun j k q r b j1 j2 j3 j4 => ?_, by rw [List.length_set]; exact R.len, fun j xs ys ej => ?_⟩
  · rw [upd_ne (ne_of_none z e3)]; exact R.same b o z
  · by_cases c : b = a
    · subst c; rw [upd_same] at y; cases y
    · rw [upd_ne c] at y; exact R.dom b z y
  · rw [mn_upd e2]
    rcases set_at ej with ⟨_, e', _⟩ | ⟨_, e'⟩
    · cases e'
    · exact R.fr j q e'
  · rw [mn_upd e2]
    rcases set_at ej with ⟨rfl, e', _⟩ | ⟨n, e'⟩
    · cases e'
      exact ⟨a, vs, ea, e2, e3, upd_same, h⟩
    · obtain ⟨b, ws, f1, f2, f3, f4, f5⟩ := R.ow j q e'
      refine ⟨b, ws, f1, f2, f3, ?_, f5⟩
      rw [upd_ne]
      · exact f4
      · intro z
        subst z
        exact n (R.inj i j p q b e e' ea f1)
  · have back : ∀ (m : Nat) q, (ρ.set i (.ow p'))[m]? = some (.ow q) → ∃ q', ρ[m]? = some (.ow q') := fun m q z => by
      rcases set_at z with ⟨rfl, _, _⟩ | ⟨_, z⟩
      · exact ⟨p, e⟩
      · exact ⟨q, z⟩
    obtain ⟨q', y1⟩ := back j q j1
    obtain ⟨r', y2⟩ := back k r j2
    exact R.inj j k q' r' b y1 y2 j3 j4
  · rcases set_at ej with ⟨rfl, e', _⟩ | ⟨n, e'⟩
    · cases e'
    · obtain ⟨D, a1, b1, q⟩ := R.o2 j xs ys e'
      obtain ⟨u1, u2, u3⟩ := q.un i p a e ea
      refine ⟨D, a1, b1, q.at_, q.oD, q.oa, q.ob, q.nD, q.na, q.nb, by rw [upd_ne (Ne.symm u1)]; exact q.hD, by rw [upd_ne (Ne.symm u2)]; exact q.ha, by rw [upd_ne (Ne.symm u3)]; exact q.hb, q.ab, fun k r c e1 e2 => ?_, fun k xs' ys' e1 => ?_⟩
      · rcases set_at e1 with ⟨rfl, _, _⟩ | ⟨_, e1⟩
        · exact q.un i p c e e2
        · exact q.un k r c e1 e2
      · rcases set_at e1 with ⟨_, e', _⟩ | ⟨n', e'⟩
        · cases e'
        · exact q.one k xs' ys' e'
noncomputable def show' (a : Addr) (O : Addr → Bool) : Addr → Bool := fun b => if b = a then false else O b
theorem show_ne {a b : Addr} {O : Addr → Bool} (h : b ≠ a) : show' a O b = O b := by unfold show'; rw [if_neg h]
theorem show_self {a : Addr} {O : Addr → Bool} : show' a O a = false := by unfold show'; rw [if_pos rfl]
theorem show_le {a : Addr} {O : Addr → Bool} : ∀ b, show' a O b = true → O b = true := fun b h => by
  by_cases c : b = a
  · subst c; rw [show_self] at h; cases h
  · rw [show_ne c] at h; exact h
noncomputable def frz (ρ : En) (i : Nat) : En := match ρ[i]? with
  | some (.ow p) => ρ.set i (.fr p)
  | _ => ρ
/-- a list of one's own is changed no more -/
theorem Rep.freeze (R : Rep K G B σ H ρ O) (i : Nat) : ∃ O', Rep K G B σ H (frz ρ i) O' := by
  unfold frz
  split
  · rename_i p e
    obtain ⟨a, vs, e1, e2, e3, e4, e5⟩ := R.ow i p e
    have sub : Same (mn H O) (mn H (show' a O)) := mn_anti show_le
    have sees : Rd (mn H (show' a O)) a (.lst vs) := .inl (by rw [mn_of show_self]; exact e4)
    have hp : At K G (mn H (show' a O)) p (.ref a) := by
      cases p <;> first
        | exact False.elim e5
        | (have e5 := e5.mono sub; exact ⟨a, vs, rfl, sees, e5⟩)
        | (have e5' : vs = _ := e5; subst e5'; exact ⟨a, rfl, sees⟩)
    refine ⟨show' a O, R.same, R.cd, fun b z => ?_, fun b z => R.dom b (show_le b z), fun b z => R.vis b (show_le b z), fun j q ej => ?_, fun j q ej => ?_, fun j k q r b j1 j2 j3 j4 => ?_, by rw [List.length_set]; exact R.len, fun j xs ys ej => ?_⟩
    · rw [show_ne]
      · exact R.hid b z
      · intro y
        subst y
        exact R.cd b z e3
    · rcases set_at ej with ⟨rfl, e', _⟩ | ⟨n, e'⟩
      · cases e'
        exact ⟨.ref a, e1, hp⟩
      · obtain ⟨v, f1, f2⟩ := R.fr j q e'
        exact ⟨v, f1, At.mono sub _ _ f2⟩
    · rcases set_at ej with ⟨rfl, e', _⟩ | ⟨n, e'⟩
      · cases e'
      · obtain ⟨b, ws, f1, f2, f3, f4, f5⟩ := R.ow j q e'
        refine ⟨b, ws, f1, ?_, f3, f4, f5.mono sub⟩
        rw [show_ne]
        · exact f2
        · intro z
          subst z
          exact n (R.inj i j p q b e e' e1 f1)
    · rcases set_at j1 with ⟨_, e', _⟩ | ⟨_, y1⟩
      · cases e'
      · rcases set_at j2 with ⟨_, e', _⟩ | ⟨_, y2⟩
        · cases e'
        · exact R.inj j k q r b y1 y2 j3 j4
    · rcases set_at ej with ⟨rfl, e', _⟩ | ⟨n, e'⟩
      · cases e'
      · obtain ⟨D, a1, b1, q⟩ := R.o2 j xs ys e'
        obtain ⟨u1, u2, u3⟩ := q.un i p a e e1
        refine ⟨D, a1, b1, q.at_, by rw [show_ne (Ne.symm u1)]; exact q.oD, by rw [show_ne (Ne.symm u2)]; exact q.oa, by rw [show_ne (Ne.symm u3)]; exact q.ob, q.nD, q.na, q.nb, q.hD, q.ha, q.hb, q.ab, fun k r c e1 e2 => ?_, fun k xs' ys' e1 => ?_⟩
        · rcases set_at e1 with ⟨_, e', _⟩ | ⟨_, e1⟩
          · cases e'
          · exact q.un k r c e1 e2
        · rcases set_at e1 with ⟨_, e', _⟩ | ⟨n', e'⟩
          · cases e'
          · exact q.one k xs' ys' e'
  · exact ⟨O, R⟩
/-- the base of a loop: all that is not one's own -/
noncomputable def Bs.at (B : Bs) (H : Hp) (O : Addr → Bool) : Bs := ⟨fun b => if (O b && (B.H0 b).isNone) = true then none else H b, B.Oc⟩
theorem Bs.at_of {b : Addr} (h : O b = false ∨ B.H0 b ≠ none) : (B.at H O).H0 b = H b := by
  show (if (O b && (B.H0 b).isNone) = true then none else H b) = H b
  rw [if_neg]
  rcases h with h | h
  · rw [h]; simp
  · cases e : B.H0 b with
    | none => exact absurd e h
    | some o => simp
theorem Rep.rebase (R : Rep K G B σ H ρ O) : Rep K G (B.at H O) σ H ρ O := by
  refine ⟨fun b o z => ?_, fun a z => ?_, R.hid, R.dom, fun a z => ?_, R.fr, fun i p e => ?_, R.inj, R.len, fun i xs ys e => ?_⟩
  · have z : (if (O b && (B.H0 b).isNone) = true then none else H b) = some o := z
    by_cases c : (O b && (B.H0 b).isNone) = true
    · rw [if_pos c] at z; cases z
    · rw [if_neg c] at z; exact z
  · rw [Bs.at_of (.inr (R.cd a z))]
    exact R.dom a (R.hid a z)
  · rcases R.vis a z with y | y
    · exact .inl y
    · refine .inr ?_
      show (if (O a && (B.H0 a).isNone) = true then none else H a) = none
      rw [if_pos (by rw [z, y]; rfl)]
  · obtain ⟨a, vs, e1, e2, e3, e4, e5⟩ := R.ow i p e
    refine ⟨a, vs, e1, e2, ?_, e4, e5⟩
    show (if (O a && (B.H0 a).isNone) = true then none else H a) = none
    rw [if_pos (by rw [e2, e3]; rfl)]
  · obtain ⟨D, a, b, q⟩ := R.o2 i xs ys e
    have z : ∀ c, O c = true → B.H0 c = none → (B.at H O).H0 c = none := fun c h1 h2 => by
      show (if (O c && (B.H0 c).isNone) = true then none else H c) = none
      rw [if_pos (by rw [h1, h2]; rfl)]
    exact ⟨D, a, b, q.at_, q.oD, q.oa, q.ob, z D q.oD q.nD, z a q.oa q.na, z b q.ob q.nb, q.hD, q.ha, q.hb, q.ab, q.un, q.one⟩
theorem Rep.base_le (R : Rep K G B σ H ρ O) : Same B.H0 (B.at H O).H0 := fun b o z => by
  rw [Bs.at_of (.inr (by rw [z]; exact fun y => by cases y))]
  exact R.same b o z
theorem Rep.base_mn (B : Bs) (H : Hp) (O : Addr → Bool) : Same (mn H O) (B.at H O).H0 := fun b o z => by
  obtain ⟨c, e⟩ := mn_get z
  rw [Bs.at_of (.inl c)]
  exact e
theorem Rep.unbase {σ' : L2.St} {ρ' : En} {O' : Addr → Bool} (R : Rep K G B σ H ρ O) (R' : Rep K G (B.at H O) σ' H' ρ' O') : Rep K G B σ' H' ρ' O' := by
  refine ⟨R.base_le.trans R'.same, R.cd, R'.hid, R'.dom, fun a z => (R'.vis a z).imp id fun y => R.base_le.free y, R'.fr, fun i p e => ?_, R'.inj, R'.len, fun i xs ys e => ?_⟩
  · obtain ⟨a, vs, e1, e2, e3, e4, e5⟩ := R'.ow i p e
    exact ⟨a, vs, e1, e2, R.base_le.free e3, e4, e5⟩
  · obtain ⟨D, a, b, q⟩ := R'.o2 i xs ys e
    exact ⟨D, a, b, q.at_, q.oD, q.oa, q.ob, R.base_le.free q.nD, R.base_le.free q.na, R.base_le.free q.nb, q.hD, q.ha, q.hb, q.ab, q.un, q.one⟩
/-- what was seen as a loop began is seen in it -/
theorem Rep.seen {σ' : L2.St} {ρ' : En} {O' : Addr → Bool} (R : Rep K G B σ H ρ O) (R' : Rep K G (B.at H O) σ' H' ρ' O') : Same (mn H O) (mn H' O') := fun b o z => by
  have z0 := Rep.base_mn B H O b o z
  obtain ⟨c, e⟩ := mn_get z
  rw [mn_of]
  · exact R'.same b o z0
  · cases y : O' b with
    | false => rfl
    | true =>
      rcases R'.vis b y with y | y
      · rw [R.hid b y] at c; cases c
      · rw [z0] at y; cases y
end
/-! what stands in a slot -/
noncomputable def getI (ρ : En) (i : Nat) : Int := match ρ[i]? with
  | some (.fr (.int n)) => n
  | _ => 0
noncomputable def isI (ρ : En) (i : Nat) : Prop := ρ[i]? = some (.fr (.int (getI ρ i)))
noncomputable def getL (ρ : En) (i : Nat) : List Int := match ρ[i]? with
  | some (.fr (.ints ns)) => ns
  | some (.ow (.ints ns)) => ns
  | some (.fr (.scr ns)) => ns
  | _ => []
noncomputable def isL (ρ : En) (i : Nat) : Prop := ρ[i]? = some (.fr (.ints (getL ρ i)))
noncomputable def isO (ρ : En) (i : Nat) : Prop := ρ[i]? = some (.ow (.ints (getL ρ i)))
noncomputable def isLO (ρ : En) (i : Nat) : Prop := isL ρ i ∨ isO ρ i ∨ ρ[i]? = some (.fr (.scr (getL ρ i)))
noncomputable def getP (ρ : En) (i : Nat) : PV := match ρ[i]? with
  | some (.fr p) => p
  | some (.ow p) => p
  | _ => .non
noncomputable def isF (ρ : En) (i : Nat) : Prop := ρ[i]? = some (.fr (getP ρ i))
noncomputable def getS (ρ : En) (i : Nat) : Str := match ρ[i]? with
  | some (.fr (.str s)) => s
  | _ => Str.empty
noncomputable def isS (ρ : En) (i : Nat) : Prop := ρ[i]? = some (.fr (.str (getS ρ i)))
section
variable {K : PySem.W.Frag} {G : Gx} {B : Bs} {σ : L2.St} {H H' : Hp} {ρ : En} {O : Addr → Bool} {i : Nat}
/-- a list read, one's own or not -/
theorem Rep.readL (R : Rep K G B σ H ρ O) (h : isLO ρ i) : ∃ a, σ[i]? = some (some (.ref a)) ∧ SqL K H a ((getL ρ i).map V.int) := by
  rcases h with h | h | h
  · obtain ⟨v, e1, a, e2, e3⟩ := R.fr i _ h
    subst e2
    exact ⟨a, e1, .inl (same_rd mn_le e3)⟩
  · obtain ⟨a, vs, e1, e2, e3, e4, e5⟩ := R.ow i _ h
    have e5 : vs = (getL ρ i).map V.int := e5
    subst e5
    exact ⟨a, e1, .inl (.inl e4)⟩
  · obtain ⟨v, e1, a, e2, e3⟩ := R.fr i _ h
    subst e2
    exact ⟨a, e1, mn_le.seq e3⟩
end
/-! ### expressions -/
noncomputable def tX (K : PySem.W.Frag) (G : Gx) (C : En → Prop) (g : En → PV) : TE := fun σ H Q => ∃ B ρ O, Rep K G B σ H ρ O ∧ C ρ ∧ ∀ v H', Same H H' → At K G (mn H' O) (g ρ) v → Q v H'
/-- a new list of numbers -/
noncomputable def tXl (K : PySem.W.Frag) (G : Gx) (C : En → Prop) (g : En → List Int) : TE := fun σ H Q => ∃ B ρ O, Rep K G B σ H ρ O ∧ C ρ ∧ ∀ a H', Same H H' → H a = none → H' a = some (.lst ((g ρ).map V.int)) → Q (.ref a) H'
/-- a new list of any values -/
noncomputable def tXp (K : PySem.W.Frag) (G : Gx) (C : En → Prop) (g : En → List PV) : TE := fun σ H Q => ∃ B ρ O, Rep K G B σ H ρ O ∧ C ρ ∧ ∀ a vs H', Same H H' → H a = none → H' a = some (.lst vs) → AtL K G (mn H' (hide a O)) (g ρ) vs → Q (.ref a) H'
noncomputable def tXs (K : PySem.W.Frag) (G : Gx) (C : En → Prop) (g : En → List PV) : TA := fun σ H Q => ∃ B ρ O, Rep K G B σ H ρ O ∧ C ρ ∧ ∀ vs H', Same H H' → AtL K G (mn H' O) (g ρ) vs → Q vs H'
noncomputable def tXT (K : PySem.W.Frag) (G : Gx) (C : En → Prop) (p : En → Prop) [∀ ρ, Decidable (p ρ)] : TT := fun σ H Q => ∃ B ρ O, Rep K G B σ H ρ O ∧ C ρ ∧ ∀ H', Same H H' → Q (decide (p ρ)) H'
noncomputable abbrev tXI (K : PySem.W.Frag) (G : Gx) (C : En → Prop) (g : En → Int) : TE := tX K G C fun ρ => .int (g ρ)
noncomputable abbrev tXL (K : PySem.W.Frag) (G : Gx) (C : En → Prop) (g : En → List Int) : TE := tX K G C fun ρ => .ints (g ρ)
noncomputable abbrev tXB (K : PySem.W.Frag) (G : Gx) (C : En → Prop) (p : En → Prop) [∀ ρ, Decidable (p ρ)] : TE := tX K G C fun ρ => .bl (decide (p ρ))
noncomputable abbrev tXS (K : PySem.W.Frag) (G : Gx) (C : En → Prop) (g : En → Str) : TE := tX K G C fun ρ => .str (g ρ)
section
variable {X : Cx} {G : Gx} {a b : Expr} {pos : Pos} {Ca Cb : En → Prop} {ga gb : En → Int} {i : Nat} {x : Str} {e : Expr} {t : TE} {C : En → Prop} {g : En → PV} {gl hl : En → List Int}
theorem toX (h : PE X e t) (k : ∀ B σ H ρ O Q, Rep X.K G B σ H ρ O → C ρ → (∀ v H', Same H H' → At X.K G (mn H' O) (g ρ) v → Q v H') → t σ H Q) : PE X e (tX X.K G C g) :=
  fun pins s σ H Q I ⟨B, ρ, O, R, c, q⟩ => h pins s σ H Q I (k B σ H ρ O Q R c q)
theorem toXl (h : PE X e t) (k : ∀ B σ H ρ O Q, Rep X.K G B σ H ρ O → C ρ → (∀ a H', Same H H' → H a = none → H' a = some (.lst ((gl ρ).map V.int)) → Q (.ref a) H') → t σ H Q) : PE X e (tXl X.K G C gl) :=
  fun pins s σ H Q I ⟨B, ρ, O, R, c, q⟩ => h pins s σ H Q I (k B σ H ρ O Q R c q)
/-- a new list, as a value -/
theorem newL (h : PE X e (tXl X.K G C gl)) : PE X e (tXL X.K G C gl) := toX h fun B σ H ρ O Q R c q => ⟨B, ρ, O, R, c, fun a H' s n e => q _ H' s ⟨a, rfl, .inl (by
  rw [mn_of]
  · exact e
  · cases z : O a with
    | false => rfl
    | true => exact absurd n (R.dom a z))⟩⟩
theorem xn_int {n : Int} {j : Nat} : PE X (.Constant (.int n) j pos) (tXI X.K G (fun _ => True) fun _ => n) := toX pe_int fun _ _ H _ _ _ _ _ q => q _ H (Same.refl H) rfl
theorem xb_bl {n : Bool} {j : Nat} : PE X (.Constant (.bool n) j pos) (tX X.K G (fun _ => True) fun _ => .bl n) := toX pe_bl fun _ _ H _ _ _ _ _ q => q _ H (Same.refl H) rfl
theorem xv_non {j : Nat} : PE X (.Constant .none j pos) (tX X.K G (fun _ => True) fun _ => .non) := toX pe_non fun _ _ H _ _ _ _ _ q => q _ H (Same.refl H) rfl
theorem xs_str {n : Str} {j : Nat} : PE X (.Constant (.str n) j pos) (tXS X.K G (fun _ => True) fun _ => n) := toX pe_str fun _ _ H _ _ _ _ _ q => q _ H (Same.refl H) rfl
theorem xv_bltn {u : String} (hg : Gl X x) (hm : X.mg x = none) (hv : bootBuiltins x = some (.type u)) (hn : x ≠ "__name__" := by decide) (hd : (x == ("__debug__" : Str)) = false := by decide) : PE X (.Name x pos) (tX X.K G (fun _ => True) fun _ => .ty u) :=
  toX (pe_bltn (v := .ty u) hg hm hv rfl hn hd) fun _ _ H _ _ _ _ _ q => q _ H (Same.refl H) rfl
theorem xv_glob {c : Addr} (hg : Gl X x) (hm : X.mg x = some (.ref c)) (hd : (x == ("__debug__" : Str)) = false := by decide) : PE X (.Name x pos) (tX X.K G (fun _ => True) fun _ => .cls c) :=
  toX (pe_glob (v := .ref c) hg hm rfl hd) fun _ _ H _ _ _ _ _ q => q _ H (Same.refl H) rfl
theorem xv (i : Nat) {x : Str} (hN : X.N[i]? = some x := by rfl) (hv : Vis X.env.scope x := by first | exact Or.inl rfl | exact Or.inr (Or.inl rfl) | exact Or.inr (Or.inr rfl))
    (hd : (x == ("__debug__" : Str)) = false := by decide) (hcd : (x == ("__classdict__" : Str)) = false := by decide) : PE X (.Name x pos) (tX X.K G (fun ρ => isF ρ i) fun ρ => getP ρ i) :=
  toX (pe_var hN hv hd hcd) fun _ _ H _ _ _ R c q => let ⟨v, e, h⟩ := R.fr i _ c; ⟨v, e, q v H (Same.refl H) h⟩
theorem xn (i : Nat) {x : Str} (hN : X.N[i]? = some x := by rfl) (hv : Vis X.env.scope x := by first | exact Or.inl rfl | exact Or.inr (Or.inl rfl) | exact Or.inr (Or.inr rfl))
    (hd : (x == ("__debug__" : Str)) = false := by decide) (hcd : (x == ("__classdict__" : Str)) = false := by decide) : PE X (.Name x pos) (tXI X.K G (fun ρ => isI ρ i) fun ρ => getI ρ i) :=
  toX (pe_var hN hv hd hcd) fun _ _ H _ _ _ R c q => let ⟨v, e, h⟩ := R.fr i _ c; ⟨v, e, q v H (Same.refl H) h⟩
theorem xl (i : Nat) {x : Str} (hN : X.N[i]? = some x := by rfl) (hv : Vis X.env.scope x := by first | exact Or.inl rfl | exact Or.inr (Or.inl rfl) | exact Or.inr (Or.inr rfl))
    (hd : (x == ("__debug__" : Str)) = false := by decide) (hcd : (x == ("__classdict__" : Str)) = false := by decide) : PE X (.Name x pos) (tXL X.K G (fun ρ => isL ρ i) fun ρ => getL ρ i) :=
  toX (pe_var hN hv hd hcd) fun _ _ H _ _ _ R c q => let ⟨v, e, h⟩ := R.fr i _ c; ⟨v, e, q v H (Same.refl H) h⟩
theorem xr (i : Nat) {x : Str} (hN : X.N[i]? = some x := by rfl) (hv : Vis X.env.scope x := by first | exact Or.inl rfl | exact Or.inr (Or.inl rfl) | exact Or.inr (Or.inr rfl))
    (hd : (x == ("__debug__" : Str)) = false := by decide) (hcd : (x == ("__classdict__" : Str)) = false := by decide) : PE X (.Name x pos) (tX X.K G (fun ρ => ρ[i]? = some (.fr (.scr (getL ρ i)))) fun ρ => .scr (getL ρ i)) :=
  toX (pe_var hN hv hd hcd) fun _ _ H _ _ _ R c q => let ⟨v, e, h⟩ := R.fr i _ c; ⟨v, e, q v H (Same.refl H) h⟩
theorem xs (i : Nat) {x : Str} (hN : X.N[i]? = some x := by rfl) (hv : Vis X.env.scope x := by first | exact Or.inl rfl | exact Or.inr (Or.inl rfl) | exact Or.inr (Or.inr rfl))
    (hd : (x == ("__debug__" : Str)) = false := by decide) (hcd : (x == ("__classdict__" : Str)) = false := by decide) : PE X (.Name x pos) (tXS X.K G (fun ρ => isS ρ i) fun ρ => getS ρ i) :=
  toX (pe_var hN hv hd hcd) fun _ _ H _ _ _ R c q => let ⟨v, e, h⟩ := R.fr i _ c; ⟨v, e, q v H (Same.refl H) h⟩
/-- two values, one behind the other -/
theorem two {r : R2} {ga gb : En → PV} {σ : L2.St} {H : Hp} {B : Bs} {ρ : En} {O : Addr → Bool} {Q : VK} (R : Rep X.K G B σ H ρ O) (ca : Ca ρ) (cb : Cb ρ) (q : ∀ v u H1 H2, Same H H1 → Same H1 H2 → At X.K G (mn H2 O) (ga ρ) v → At X.K G (mn H2 O) (gb ρ) u → r v u H2 Q) :
    tOp r (tX X.K G Ca ga) (tX X.K G Cb gb) σ H Q :=
  ⟨B, ρ, O, R, ca, fun v H1 s1 a1 => ⟨B, ρ, O, R.grow s1, cb, fun u H2 s2 a2 => q v u H1 H2 s1 s2 (At.mono (mn_same s2) _ _ a1) a2⟩⟩
theorem xn_op {op : Operator} {C : Int → Int → Prop} {g : Int → Int → Int} (ho : OpR X (binaryOp op) (rI C fun i j => .int (g i j))) (ha : PE X a (tXI X.K G Ca ga)) (hb : PE X b (tXI X.K G Cb gb)) :
    PE X (.BinOp a op b pos) (tXI X.K G (fun ρ => Ca ρ ∧ Cb ρ ∧ C (ga ρ) (gb ρ)) fun ρ => g (ga ρ) (gb ρ)) :=
  toX (pe_op ho ha hb) fun _ _ _ _ _ _ R c q => two R c.1 c.2.1 fun _ _ _ H2 s1 s2 a1 a2 => ⟨_, _, a1, a2, c.2.2, q _ H2 (s1.trans s2) rfl⟩
theorem xn_op0 {op : Operator} {g : Int → Int → Int} (ho : OpR X (binaryOp op) (rI0 fun i j => .int (g i j))) (ha : PE X a (tXI X.K G Ca ga)) (hb : PE X b (tXI X.K G Cb gb)) :
    PE X (.BinOp a op b pos) (tXI X.K G (fun ρ => Ca ρ ∧ Cb ρ) fun ρ => g (ga ρ) (gb ρ)) :=
  toX (pe_op ho ha hb) fun _ _ _ _ _ _ R c q => two R c.1 c.2 fun _ _ _ H2 s1 s2 a1 a2 => ⟨_, _, a1, a2, q _ H2 (s1.trans s2) rfl⟩
theorem xn_add (ha : PE X a (tXI X.K G Ca ga)) (hb : PE X b (tXI X.K G Cb gb)) : PE X (.BinOp a .Add b pos) (tXI X.K G (fun ρ => Ca ρ ∧ Cb ρ) fun ρ => ga ρ + gb ρ) := xn_op0 op_add ha hb
theorem xn_sub (ha : PE X a (tXI X.K G Ca ga)) (hb : PE X b (tXI X.K G Cb gb)) : PE X (.BinOp a .Sub b pos) (tXI X.K G (fun ρ => Ca ρ ∧ Cb ρ) fun ρ => ga ρ - gb ρ) := xn_op0 op_sub ha hb
theorem xn_mul (ha : PE X a (tXI X.K G Ca ga)) (hb : PE X b (tXI X.K G Cb gb)) : PE X (.BinOp a .Mult b pos) (tXI X.K G (fun ρ => Ca ρ ∧ Cb ρ ∧ IntMulOk (ga ρ) (gb ρ)) fun ρ => ga ρ * gb ρ) := xn_op op_mulB ha hb
theorem xn_mod (ha : PE X a (tXI X.K G Ca ga)) (hb : PE X b (tXI X.K G Cb gb)) : PE X (.BinOp a .Mod b pos) (tXI X.K G (fun ρ => Ca ρ ∧ Cb ρ ∧ 0 < gb ρ) fun ρ => ga ρ % gb ρ) := xn_op op_mod ha hb
theorem xn_div (ha : PE X a (tXI X.K G Ca ga)) (hb : PE X b (tXI X.K G Cb gb)) : PE X (.BinOp a .FloorDiv b pos) (tXI X.K G (fun ρ => Ca ρ ∧ Cb ρ ∧ CDivB (ga ρ) (gb ρ)) fun ρ => ga ρ / gb ρ) := xn_op op_fdivB ha hb
theorem xn_pow (ha : PE X a (tXI X.K G Ca ga)) (hb : PE X b (tXI X.K G Cb gb)) : PE X (.BinOp a .Pow b pos) (tXI X.K G (fun ρ => Ca ρ ∧ Cb ρ ∧ CPow (ga ρ) (gb ρ)) fun ρ => ga ρ ^ (gb ρ).toNat) := xn_op op_pow ha hb
theorem xn_neg (ha : PE X a (tXI X.K G Ca ga)) : PE X (.UnaryOp .USub a pos) (tXI X.K G Ca fun ρ => -ga ρ) :=
  toX (pe_un un_neg ha) fun B _ _ ρ O _ R c q => ⟨B, ρ, O, R, c, fun _ H1 s1 a1 => ⟨_, a1, q _ H1 s1 rfl⟩⟩
/-! tests -/
theorem xt_cmp {op : CmpOp} {p : Int → Int → Prop} [∀ i j, Decidable (p i j)] (ho : OpR X (compareOp op) (rI0 fun i j => .bl (decide (p i j)))) (hm : behindInMarks op b = false) (ha : PE X a (tXI X.K G Ca ga)) (hb : PE X b (tXI X.K G Cb gb)) :
    PT X (.Compare a [op] [b] pos) (tXT X.K G (fun ρ => Ca ρ ∧ Cb ρ) fun ρ => p (ga ρ) (gb ρ)) :=
  fun pins s σ H Q I ⟨_, _, _, R, c, q⟩ => pt_cmpR ho ha hb hm pins s σ H Q I (two R c.1 c.2 fun _ _ _ H2 s1 s2 a1 a2 => ⟨_, _, a1, a2, _, rfl, q H2 (s1.trans s2)⟩)
theorem xt_gt (ha : PE X a (tXI X.K G Ca ga)) (hb : PE X b (tXI X.K G Cb gb)) : PT X (.Compare a [.Gt] [b] pos) (tXT X.K G (fun ρ => Ca ρ ∧ Cb ρ) fun ρ => gb ρ < ga ρ) := xt_cmp (p := fun i j => j < i) op_gt (nomark _) ha hb
theorem xt_ge (ha : PE X a (tXI X.K G Ca ga)) (hb : PE X b (tXI X.K G Cb gb)) : PT X (.Compare a [.GtE] [b] pos) (tXT X.K G (fun ρ => Ca ρ ∧ Cb ρ) fun ρ => gb ρ ≤ ga ρ) := xt_cmp (p := fun i j => j ≤ i) op_ge (nomark _) ha hb
theorem xt_eq (ha : PE X a (tXI X.K G Ca ga)) (hb : PE X b (tXI X.K G Cb gb)) : PT X (.Compare a [.Eq] [b] pos) (tXT X.K G (fun ρ => Ca ρ ∧ Cb ρ) fun ρ => ga ρ = gb ρ) := xt_cmp op_eqI (nomark _) ha hb
theorem xt_ne (ha : PE X a (tXI X.K G Ca ga)) (hb : PE X b (tXI X.K G Cb gb)) : PT X (.Compare a [.NotEq] [b] pos) (tXT X.K G (fun ρ => Ca ρ ∧ Cb ρ) fun ρ => ¬ ga ρ = gb ρ) := xt_cmp (p := fun i j => ¬ i = j) op_neI (nomark _) ha hb
variable {pa pb : En → Prop} [∀ ρ, Decidable (pa ρ)] [∀ ρ, Decidable (pb ρ)] {rest : List Expr}
theorem xt_V {e : Expr} (h : PE X e (tXB X.K G Ca pa)) (he : ∀ whole, isTrue e X.env whole = (do let v ← whole; standAt e.pos; holding [v] (truthy v)) := by intro _; rfl) : PT X e (tXT X.K G Ca pa) :=
  fun pins s σ H Q I ⟨B, ρ, O, R, c, q⟩ => pt_val h he pins s σ H Q I ⟨B, ρ, O, R, c, fun _ H1 s1 a1 => ⟨_, a1, q H1 s1⟩⟩
theorem xt_not (ha : PT X a (tXT X.K G Ca pa)) : PT X (.UnaryOp .Not a pos) (tXT X.K G Ca fun ρ => ¬ pa ρ) :=
  fun pins s σ H Q I ⟨B, ρ, O, R, c, q⟩ => L2.pt_not ha pins s σ H Q I ⟨B, ρ, O, R, c, fun H1 s1 => by have z := q H1 s1; rw [decide_not] at z; exact z⟩
theorem xw_or1 (ha : PT X a (tXT X.K G Ca pa)) : PW X (.BoolOp .Or [a] pos) (tXT X.K G Ca pa) := pw_or1 ha
theorem xw_and1 (ha : PT X a (tXT X.K G Ca pa)) : PW X (.BoolOp .And [a] pos) (tXT X.K G Ca pa) := pw_and1 ha
theorem xw_or (ha : PT X a (tXT X.K G Ca pa)) (hb : PW X (.BoolOp .Or (b :: rest) pos) (tXT X.K G Cb pb)) : PW X (.BoolOp .Or (a :: b :: rest) pos) (tXT X.K G (fun ρ => Ca ρ ∧ (¬ pa ρ → Cb ρ)) fun ρ => pa ρ ∨ pb ρ) :=
  fun wh pins s σ H Q I ⟨B, ρ, O, R, c, q⟩ => pw_or ha hb wh pins s σ H Q I ⟨B, ρ, O, R, c.1, fun H1 s1 => by
    by_cases d : pa ρ
    · have z := q H1 s1
      rw [decide_eq_true (Or.inl d : pa ρ ∨ pb ρ)] at z
      rw [decide_eq_true d]; refine iteT ?_; exact z
    · rw [decide_eq_false d]; refine iteF ?_
      refine ⟨B, ρ, O, R.grow s1, c.2 d, fun H2 s2 => ?_⟩
      have z := q H2 (s1.trans s2)
      have e : decide (pa ρ ∨ pb ρ) = decide (pb ρ) := by simp [d]
      rw [e] at z; exact z⟩
theorem xw_and (ha : PT X a (tXT X.K G Ca pa)) (hb : PW X (.BoolOp .And (b :: rest) pos) (tXT X.K G Cb pb)) : PW X (.BoolOp .And (a :: b :: rest) pos) (tXT X.K G (fun ρ => Ca ρ ∧ (pa ρ → Cb ρ)) fun ρ => pa ρ ∧ pb ρ) :=
  fun wh pins s σ H Q I ⟨B, ρ, O, R, c, q⟩ => pw_and ha hb wh pins s σ H Q I ⟨B, ρ, O, R, c.1, fun H1 s1 => by
    by_cases d : pa ρ
    · rw [decide_eq_true d]; refine iteT ?_
      refine ⟨B, ρ, O, R.grow s1, c.2 d, fun H2 s2 => ?_⟩
      have z := q H2 (s1.trans s2)
      have e : decide (pa ρ ∧ pb ρ) = decide (pb ρ) := by simp [d]
      rw [e] at z; exact z
    · have z := q H1 s1
      rw [decide_eq_false (fun y => d y.1 : ¬ (pa ρ ∧ pb ρ))] at z
      rw [decide_eq_false d]; refine iteF ?_; exact z⟩
theorem xe_not (ha : PE X a (tXB X.K G Ca pa)) : PE X (.UnaryOp .Not a pos) (tXB X.K G Ca fun ρ => ¬ pa ρ) :=
  toX (pe_not ha) fun B _ _ ρ O _ R c q => ⟨B, ρ, O, R, c, fun _ H1 s1 a1 => ⟨_, a1, q _ H1 s1 (by rw [decide_not]; rfl)⟩⟩
theorem xe_and (ha : PE X a (tXB X.K G Ca pa)) (hb : PE X (.BoolOp .And (b :: rest) pos) (tXB X.K G Cb pb)) : PE X (.BoolOp .And (a :: b :: rest) pos) (tXB X.K G (fun ρ => Ca ρ ∧ (pa ρ → Cb ρ)) fun ρ => pa ρ ∧ pb ρ) :=
  toX (pe_and ha hb) fun B _ _ ρ O _ R c q => ⟨B, ρ, O, R, c.1, fun _ H1 s1 a1 => ⟨_, a1, by
    by_cases d : pa ρ
    · rw [decide_eq_true d]; refine iteT ?_
      refine ⟨B, ρ, O, R.grow s1, c.2 d, fun v H2 s2 a2 => q v H2 (s1.trans s2) ?_⟩
      have e : decide (pa ρ ∧ pb ρ) = decide (pb ρ) := by simp [d]
      rw [e]; exact a2
    · have z := q (.bl false) H1 s1 (by rw [decide_eq_false (fun y => d y.1 : ¬ (pa ρ ∧ pb ρ))]; rfl)
      rw [decide_eq_false d]; refine iteF ?_; exact z⟩⟩
/-! several values -/
variable {es : List Expr} {gs : En → List PV}
theorem xa_nil : PA X [] (tXs X.K G (fun _ => True) fun _ => []) := fun pos pins s σ H Q I ⟨_, _, _, _, _, q⟩ => pa_nil pos pins s σ H Q I (q [] H (Same.refl H) rfl)
theorem xa_cons (ha : PE X e (tX X.K G Ca g)) (hr : PA X es (tXs X.K G Cb gs)) (hs : starEach (e :: es) X.env = (false, eval e X.env) :: starEach es X.env := by rfl) : PA X (e :: es) (tXs X.K G (fun ρ => Ca ρ ∧ Cb ρ) fun ρ => g ρ :: gs ρ) :=
  fun pos pins s σ H Q I ⟨B, ρ, O, R, c, q⟩ => pa_cons ha hr hs pos pins s σ H Q I ⟨B, ρ, O, R, c.1, fun v H1 s1 a1 => ⟨B, ρ, O, R.grow s1, c.2, fun vs H2 s2 a2 => q _ H2 (s1.trans s2) ⟨v, vs, rfl, At.mono (mn_same s2) _ _ a1, a2⟩⟩⟩
end
end L3

/-! ### statements over pure values -/
namespace L3
open PySem PySem.Spec PyProof.Rows L2
structure Ps where
  nx : En → Prop
  rt : PV → Prop
  rl : List Int → Prop := fun _ => False
  rn : PV → Prop := fun _ => False
  bk : En → Prop := fun _ => False
  ct : En → Prop := fun _ => False
  er : Addr → Prop := fun _ => False
/-- what an error, by its class, owes -/
noncomputable abbrev ER := Addr → Hp → Prop
noncomputable abbrev ER0 : ER := fun _ _ => False
noncomputable abbrev FS := Ps → En → Prop
noncomputable def RepE (K : PySem.W.Frag) (G : Gx) (B : Bs) (σ : L2.St) (H : Hp) (ρ : En) : Prop := ∃ O, Rep K G B σ H ρ O
/-- what the ends of a pure reading owe to the ends of the machine's -/
structure Owe (K : PySem.W.Frag) (G : Gx) (Er : ER) (B : Bs) (P : Ps) (D : Ends) : Prop where
  nx : ∀ σ H ρ, RepE K G B σ H ρ → P.nx ρ → D.nx σ H
  rt : ∀ v H p, Same B.H0 H → At K G (mn H B.Oc) p v → P.rt p → D.rt v H
  rl : ∀ a H ns, Same B.H0 H → B.H0 a = none → H a = some (.lst (ns.map V.int)) → P.rl ns → D.rt (.ref a) H
  rn : ∀ v H p, Same B.H0 H → At K G (mn H fun a => (B.H0 a).isSome) p v → P.rn p → D.rt v H
  bk : ∀ σ H ρ, RepE K G B σ H ρ → P.bk ρ → D.bk σ H
  ct : ∀ σ H ρ, RepE K G B σ H ρ → P.ct ρ → D.ct σ H
  er : ∀ H C, Same B.H0 H → P.er C → Er C H
noncomputable def ts (K : PySem.W.Frag) (G : Gx) (Er : ER) (f : FS) : TS := fun D σ H => ∃ B ρ P, RepE K G B σ H ρ ∧ f P ρ ∧ Owe K G Er B P D
section
variable {X : Cx} {G : Gx} {Er : ER} {pos : Pos} {st : Stmt} {sts : List Stmt} {f f1 f2 : FS} {C : En → Prop} {e : Expr} {t : TS}
theorem toS (h : PS X st t) (k : ∀ B σ H ρ O P D, Rep X.K G B σ H ρ O → f P ρ → Owe X.K G Er B P D → t D σ H) : PS X st (ts X.K G Er f) :=
  fun pins s σ H D I ⟨B, ρ, P, ⟨O, R⟩, c, w⟩ => h pins s σ H D I (k B σ H ρ O P D R c w)
theorem xss_nil : PSs X [] (ts X.K G Er fun P ρ => P.nx ρ) := fun pins s σ H D I ⟨_, ρ, _, R, c, w⟩ => pss_nil pins s σ H D I (w.nx σ H ρ R c)
theorem xss_one (h : PS X st (ts X.K G Er f)) : PSs X [st] (ts X.K G Er f) := pss_one h
theorem xss_cons (h1 : PS X st (ts X.K G Er f1)) (h2 : PSs X sts (ts X.K G Er f2)) : PSs X (st :: sts) (ts X.K G Er fun P ρ => f1 { P with nx := f2 P } ρ) :=
  fun pins s σ H D I ⟨B, ρ, P, R, c, w⟩ => pss_cons h1 h2 pins s σ H D I ⟨B, ρ, { P with nx := f2 P }, R, c, ⟨fun _ _ ρ' R' c' => ⟨B, ρ', P, R', c', w⟩, w.rt, w.rl, w.rn, w.bk, w.ct, w.er⟩⟩
/-- the same, with a word J for what is true between the two -/
theorem xss_join (h1 : PS X st (ts X.K G Er f1)) (h2 : PSs X sts (ts X.K G Er f2)) : PSs X (st :: sts) (ts X.K G Er fun P ρ => ∃ J : En → Prop, f1 { P with nx := J } ρ ∧ ∀ ρ', J ρ' → f2 P ρ') :=
  fun pins s σ H D I ⟨B, ρ, P, R, ⟨J, c, k⟩, w⟩ => pss_cons h1 h2 pins s σ H D I ⟨B, ρ, { P with nx := J }, R, c, ⟨fun _ _ ρ' R' c' => ⟨B, ρ', P, R', k ρ' c', w⟩, w.rt, w.rl, w.rn, w.bk, w.ct, w.er⟩⟩
/-- from here on the list in slot i is not changed -/
theorem xss_freeze (i : Nat) (h : PSs X sts (ts X.K G Er f)) : PSs X sts (ts X.K G Er fun P ρ => f P (frz ρ i)) :=
  fun pins s σ H D I ⟨B, ρ, P, ⟨_, R⟩, c, w⟩ => h pins s σ H D I ⟨B, frz ρ i, P, R.freeze i, c, w⟩
theorem xst_ret {g : En → PV} (h : PE X e (tX X.K G C g)) : PS X (.Return (some e) pos) (ts X.K G Er fun P ρ => C ρ ∧ P.rt (g ρ)) :=
  toS (ps_ret h) fun B _ _ ρ O _ _ R c w => ⟨B, ρ, O, R, c.1, fun v H1 s1 a1 => w.rt v H1 _ (R.same.trans s1) (At.mono (mn_anti R.hid) _ _ a1) c.2⟩
/-- return a new list of numbers; the list of one's own in slot i -/
theorem xst_retl {g : En → List Int} (h : PE X e (tXl X.K G C g)) : PS X (.Return (some e) pos) (ts X.K G Er fun P ρ => C ρ ∧ P.rl (g ρ)) :=
  toS (ps_ret h) fun B _ _ ρ O _ _ R c w => ⟨B, ρ, O, R, c.1, fun a H1 s1 n1 e1 => w.rl a H1 _ (R.same.trans s1) (R.same.free n1) e1 c.2⟩
theorem xst_retO (i : Nat) {x : Str} {px : Pos} (hN : X.N[i]? = some x := by rfl) (hv : Vis X.env.scope x := by first | exact Or.inl rfl | exact Or.inr (Or.inl rfl) | exact Or.inr (Or.inr rfl))
    (hd : (x == ("__debug__" : Str)) = false := by decide) (hcd : (x == ("__classdict__" : Str)) = false := by decide) : PS X (.Return (some (.Name x px)) pos) (ts X.K G Er fun P ρ => isO ρ i ∧ P.rl (getL ρ i)) :=
  toS (ps_ret (pe_var hN hv hd hcd)) fun B _ H ρ O _ _ R c w => by
    obtain ⟨a, vs, e1, e2, e3, e4, e5⟩ := R.ow i _ c.1
    have e5 : vs = (getL ρ i).map V.int := e5
    subst e5
    exact ⟨_, e1, w.rl a H _ R.same e3 e4 c.2⟩
/-- x = a value, a number, a list of numbers that is not changed later -/
theorem xst_set {i : Nat} {x : Str} {pos' : Pos} {g : En → PV} (hN : X.N.Nodup) (hi : X.N[i]? = some x) (hx : Loc X.env.scope x) (he : PE X e (tX X.K G C g)) (hs : swapsWith e (some (.Name x pos')) pos.line X.env = pure false := by rfl)
    (hf : X.fn x = true ∨ X.env.scope.names.lookup x = some .local := by first | exact .inl rfl | exact .inr rfl | assumption) : PS X (.Assign [.Name x pos'] e pos) (ts X.K G Er fun P ρ => C ρ ∧ P.nx (ρ.set i (.fr (g ρ)))) :=
  toS (ps_set hN hi hx he hs hf) fun B σ _ ρ O _ _ R c w => ⟨B, ρ, O, R, c.1, fun _ H1 s1 a1 => w.nx _ H1 _ ⟨O, (R.grow s1).set a1⟩ c.2⟩
theorem xst_setP {i : Nat} {x : Str} {pos' : Pos} {g : En → PV} (hN : X.N.Nodup) (hi : X.N[i]? = some x) (hx : Loc X.env.scope x) (he : PE X e (tX X.K G C g)) (hs : swapsWith e (some (.Name x pos')) pos.line X.env = pure false := by rfl)
    (hf : X.fn x = true ∨ X.env.scope.names.lookup x = some .local := by first | exact .inl rfl | exact .inr rfl | assumption) : PS X (.Assign [.Name x pos'] e pos) (ts X.K G Er fun P ρ => C ρ ∧ ∀ p, p = g ρ → P.nx (ρ.set i (.fr p))) :=
  toS (xst_set hN hi hx he hs hf) fun B σ _ ρ O P D R c w => ⟨B, ρ, P, ⟨O, R⟩, ⟨c.1, c.2 _ rfl⟩, w⟩
theorem xst_setI {i : Nat} {x : Str} {pos' : Pos} {g : En → Int} (hN : X.N.Nodup) (hi : X.N[i]? = some x) (hx : Loc X.env.scope x) (he : PE X e (tXI X.K G C g)) (hs : swapsWith e (some (.Name x pos')) pos.line X.env = pure false := by rfl)
    (hf : X.fn x = true ∨ X.env.scope.names.lookup x = some .local := by first | exact .inl rfl | exact .inr rfl | assumption) : PS X (.Assign [.Name x pos'] e pos) (ts X.K G Er fun P ρ => C ρ ∧ ∀ n, n = g ρ → P.nx (ρ.set i (.fr (.int n)))) :=
  toS (xst_set hN hi hx he hs hf) fun B σ _ ρ O P D R c w => ⟨B, ρ, P, ⟨O, R⟩, ⟨c.1, c.2 _ rfl⟩, w⟩
theorem xst_setL {i : Nat} {x : Str} {pos' : Pos} {g : En → List Int} (hN : X.N.Nodup) (hi : X.N[i]? = some x) (hx : Loc X.env.scope x) (he : PE X e (tXL X.K G C g)) (hs : swapsWith e (some (.Name x pos')) pos.line X.env = pure false := by rfl)
    (hf : X.fn x = true ∨ X.env.scope.names.lookup x = some .local := by first | exact .inl rfl | exact .inr rfl | assumption) : PS X (.Assign [.Name x pos'] e pos) (ts X.K G Er fun P ρ => C ρ ∧ ∀ ns, ns = g ρ → P.nx (ρ.set i (.fr (.ints ns)))) :=
  toS (xst_set hN hi hx he hs hf) fun B σ _ ρ O P D R c w => ⟨B, ρ, P, ⟨O, R⟩, ⟨c.1, c.2 _ rfl⟩, w⟩
/-- x = a new list of numbers, one's own from here on -/
theorem xst_own {i : Nat} {x : Str} {pos' : Pos} {g : En → List Int} (hN : X.N.Nodup) (hi : X.N[i]? = some x) (hx : Loc X.env.scope x) (he : PE X e (tXl X.K G C g)) (hs : swapsWith e (some (.Name x pos')) pos.line X.env = pure false := by rfl)
    (hf : X.fn x = true ∨ X.env.scope.names.lookup x = some .local := by first | exact .inl rfl | exact .inr rfl | assumption) : PS X (.Assign [.Name x pos'] e pos) (ts X.K G Er fun P ρ => C ρ ∧ ∀ ns, ns = g ρ → P.nx (ρ.set i (.ow (.ints ns)))) :=
  toS (ps_set hN hi hx he hs hf) fun B σ _ ρ O _ _ R c w => ⟨B, ρ, O, R, c.1, fun a H1 s1 n1 e1 => w.nx _ H1 _ ⟨hide a O, R.new (p := .ints (g ρ)) s1 n1 e1 rfl⟩ (c.2 _ rfl)⟩
theorem xst_if {c : Expr} {a b : List Stmt} {p : En → Prop} [∀ ρ, Decidable (p ρ)] (hc : PT X c (tXT X.K G C p)) (ha : PSs X a (ts X.K G Er f1)) (hb : PSs X b (ts X.K G Er f2)) : PS X (.If c a b pos) (ts X.K G Er fun P ρ => C ρ ∧ (p ρ → f1 P ρ) ∧ (¬ p ρ → f2 P ρ)) :=
  toS (ps_if hc ha hb) fun B σ _ ρ O P D R c w => ⟨B, ρ, O, R, c.1, fun H1 s1 => by
    by_cases d : p ρ
    · rw [decide_eq_true d]; refine iteT ?_; exact ⟨B, ρ, P, ⟨O, R.grow s1⟩, c.2.1 d, w⟩
    · rw [decide_eq_false d]; refine iteF ?_; exact ⟨B, ρ, P, ⟨O, R.grow s1⟩, c.2.2 d, w⟩⟩
theorem xst_while {c : Expr} {body : List Stmt} {p : En → Prop} [∀ ρ, Decidable (p ρ)] (hp : PassesOwn (model X.prog X.w) X.A X.env X.xe) (hc : PT X c (tXT X.K G C p)) (hb : PSs X body (ts X.K G Er f)) :
    PS X (.While c body [] pos) (ts X.K G Er fun P ρ => ∃ (W : En → Prop) (μ : En → Nat), W ρ ∧ ∀ ρ, W ρ → C ρ ∧ (p ρ → f { P with nx := fun ρ' => W ρ' ∧ μ ρ' < μ ρ, ct := fun ρ' => W ρ' ∧ μ ρ' < μ ρ, bk := P.nx } ρ) ∧ (¬ p ρ → P.nx ρ)) :=
  toS (ps_while hp hc hb) fun B σ H ρ O P D R c w => by
    obtain ⟨W, μ, w0, st⟩ := c
    refine ⟨fun m σ H => ∃ ρ, RepE X.K G B σ H ρ ∧ W ρ ∧ m = μ ρ, ⟨μ ρ, ρ, ⟨O, R⟩, w0, rfl⟩, ?_⟩
    rintro m σ H ⟨ρ, ⟨O, R⟩, hw, rfl⟩
    obtain ⟨c1, c2, c3⟩ := st ρ hw
    refine ⟨B, ρ, O, R, c1, fun H1 s1 => ?_⟩
    by_cases d : p ρ
    · rw [decide_eq_true d]; refine iteT ?_
      refine ⟨fun σ' H' => ∃ ρ', RepE X.K G B σ' H' ρ' ∧ W ρ' ∧ μ ρ' < μ ρ, fun σ' H' ⟨ρ', R', h1, h2⟩ => ⟨_, h2, ρ', R', h1, rfl⟩, B, ρ, _, ⟨O, R.grow s1⟩, c2 d, ⟨fun σ' H' ρ' R' h => ⟨ρ', R', h⟩, w.rt, w.rl, w.rn, w.nx, fun σ' H' ρ' R' h => ⟨ρ', R', h⟩, w.er⟩⟩
    · rw [decide_eq_false d]; refine iteF ?_; exact w.nx σ H1 ρ ⟨O, R.grow s1⟩ (c3 d)
/-- for k in range(n) -/
theorem xst_forR {k : Nat} {x : Str} {a : Expr} {body : List Stmt} {g : En → Int} {p px pos' : Pos} (hp : PassesOwn (model X.prog X.w) X.A X.env X.xe) (hc : X.calm = true) (hg : Gl X "range") (hm : X.mg "range" = none) (ha : PE X a (tXI X.K G C g)) (hN : X.N.Nodup) (hi : X.N[k]? = some x) (hx : Loc X.env.scope x)
    (hb : PSs X body (ts X.K G Er f)) (hs : starEach [a] X.env = [(false, eval a X.env)] := by rfl) (hfs : ∀ x, foldedSetIterable (.Call (.Name "range" p) [a] [] pos') X.env x = pure x := by intro _; rfl)
    (hf : X.fn x = true ∨ X.env.scope.names.lookup x = some .local := by first | exact .inl rfl | exact .inr rfl | assumption) :
    PS X (.For (.Name x px) (.Call (.Name "range" p) [a] [] pos') body [] pos) (ts X.K G Er fun P ρ => C ρ ∧ (-(2 ^ 62) ≤ g ρ ∧ g ρ < 2 ^ 62) ∧ ∃ W : Nat → En → Prop, W 0 ρ ∧ (∀ i ρ', i < (g ρ).toNat → W i ρ' → f { P with nx := W (i + 1), ct := W (i + 1), bk := P.nx } (ρ'.set k (.fr (.int i)))) ∧ ∀ ρ', W (g ρ).toNat ρ' → P.nx ρ') :=
  toS (ps_for hp hc (pi_range1 hg hm (pa_cons ha pa_nil hs) hs) (pg_name hN hi hx hf) hb hfs) fun B σ H ρ O P D R c w => by
    obtain ⟨c1, ⟨l1, l2⟩, W, w0, st, nd⟩ := c
    refine ⟨B, ρ, O, R, c1, fun v H1 s1 a1 => ?_⟩
    have a1 : v = .int (g ρ) := a1
    subst a1
    refine ⟨g ρ, rfl, l1, l2, for_range (fun i σ H => ∃ ρ', RepE X.K G B σ H ρ' ∧ W i ρ') ⟨ρ, ⟨O, R.grow s1⟩, w0⟩ ?_ ?_⟩
    · rintro i σ H hi ⟨ρ', ⟨O', R'⟩, hw⟩
      have e : (0 : Int) + i = i := by omega
      rw [e]
      exact ⟨B, _, _, ⟨O', R'.set (p := .int i) rfl⟩, st i ρ' hi hw, ⟨fun σ' H' ρ' R' h => ⟨ρ', R', h⟩, w.rt, w.rl, w.rn, w.nx, fun σ' H' ρ' R' h => ⟨ρ', R', h⟩, w.er⟩⟩
    · rintro σ H ⟨ρ', R', hw⟩
      exact w.nx σ H ρ' R' (nd ρ' hw)
theorem owe_base {B : Bs} {σ : L2.St} {H : Hp} {ρ : En} {O : Addr → Bool} {K : PySem.W.Frag} {P : Ps} {D : Ends} (R : Rep K G B σ H ρ O) (w : Owe K G Er B P D) : Owe K G Er (B.at H O) P D :=
  ⟨fun σ' H' ρ' ⟨O', R'⟩ h => w.nx σ' H' ρ' ⟨O', R.unbase R'⟩ h, fun v H' p s a h => w.rt v H' p (R.base_le.trans s) a h, fun a H' ns s n e h => w.rl a H' ns (R.base_le.trans s) (R.base_le.free n) e h, fun v H' p s a h => w.rn v H' p (R.base_le.trans s) (At.mono (mn_anti fun b z => by
    obtain ⟨o, e⟩ := Option.isSome_iff_exists.mp z
    exact Option.isSome_iff_exists.mpr ⟨o, R.base_le _ _ e⟩) _ _ a) h, fun σ' H' ρ' ⟨O', R'⟩ h => w.bk σ' H' ρ' ⟨O', R.unbase R'⟩ h, fun σ' H' ρ' ⟨O', R'⟩ h => w.ct σ' H' ρ' ⟨O', R.unbase R'⟩ h, fun H' C s h => w.er H' C (R.base_le.trans s) h⟩
/-- for k, x in enumerate(a list of numbers) -/
theorem xst_forE {k j : Nat} {x y : Str} {l : Expr} {body : List Stmt} {g : En → List Int} {px py p pos' tp : Pos} {kk : Nat} (hp : PassesOwn (model X.prog X.w) X.A X.env X.xe) (hc : X.calm = true) (hg : Gl X "enumerate") (hm : X.mg "enumerate" = none) (hl : PE X l (tXL X.K G C g))
    (hgt : PG X (.Tuple [.Name x px, .Name y py] kk tp) (gTup X.K 2 (gCons (gName k) (gCons (gName j) gNil)))) (hb : PSs X body (ts X.K G Er f)) (hs : starEach [l] X.env = [(false, eval l X.env)] := by rfl)
    (hfs : ∀ x, foldedSetIterable (.Call (.Name "enumerate" p) [l] [] pos') X.env x = pure x := by intro _; rfl) :
    PS X (.For (.Tuple [.Name x px, .Name y py] kk tp) (.Call (.Name "enumerate" p) [l] [] pos') body [] pos) (ts X.K G Er fun P ρ => C ρ ∧ ∃ W : Nat → En → Prop, W 0 ρ ∧
      (∀ i n ρ', (g ρ)[i]? = some n → W i ρ' → f { P with nx := W (i + 1), ct := W (i + 1), bk := P.nx } ((ρ'.set k (.fr (.int i))).set j (.fr (.int n)))) ∧ ∀ ρ', W (g ρ).length ρ' → P.nx ρ') :=
  toS (ps_for hp hc (pi_enum hg hm (pa_cons hl pa_nil hs) hs) hgt hb hfs) fun B σ H ρ O P D R c w => by
    obtain ⟨c1, W, w0, st, nd⟩ := c
    refine ⟨B, ρ, O, R, c1, fun v H1 s1 a1 => ?_⟩
    obtain ⟨a, e, hq⟩ := a1
    subst e
    have R1 := R.grow s1
    have w1 := owe_base R1 w
    refine ⟨a, rfl, ⟨_, .inl (same_rd mn_le hq)⟩, for_enum (xs := (g ρ).map V.int) (fun i σ H => ∃ ρ', RepE X.K G (B.at H1 O) σ H ρ' ∧ W i ρ') ⟨ρ, ⟨O, R1.rebase⟩, w0⟩ ?_ ?_ ?_⟩
    · rintro i σ H _ ⟨ρ', ⟨O', R'⟩, _⟩
      exact .inl (same_rd ((Rep.base_mn B H1 O).trans R'.same) hq)
    · rintro i y σ H T hy ⟨ρ', ⟨O', R'⟩, hw⟩ hT
      obtain ⟨n, rfl, en⟩ := int_at hy
      refine ⟨T, _, rfl, SqT.of upd_same, rfl, _, _, rfl, _, _, rfl, rfl, ?_⟩
      exact ⟨_, _, _, ⟨O', ((R'.grow (same_new hT _)).set (p := .int i) rfl).set (p := .int n) rfl⟩, st i n ρ' en hw, ⟨fun σ' H' ρ' R' h => ⟨ρ', R', h⟩, w1.rt, w1.rl, w1.rn, w1.nx, fun σ' H' ρ' R' h => ⟨ρ', R', h⟩, w1.er⟩⟩
    · rintro σ H ⟨ρ', R', hw⟩
      rw [List.length_map] at hw
      exact w1.nx σ H ρ' R' (nd ρ' hw)
end
end L3

/-! ### lists, calls, changes over pure values -/
namespace L3
open PySem PySem.Spec PyProof.Rows L2
theorem getD_at {ns : List Int} {i : Int} (h1 : -(ns.length : Int) ≤ i) (h2 : i < ns.length) : atI (ns.map V.int) i = some (V.int (ns.getD (if 0 ≤ i then i else i + ns.length).toNat 0)) := by
  by_cases c0 : 0 ≤ i
  · rw [if_pos c0]; exact atI_int c0 h2
  · rw [if_neg c0]
    have q2 := atI_int (ns := ns) (i := i + ns.length) (by omega) (by omega)
    unfold atI ixN at q2 ⊢
    rw [List.length_map] at q2 ⊢
    rw [if_pos (show 0 ≤ i + (ns.length : Int) by omega), if_pos (show i + (ns.length : Int) < (ns.length : Int) by omega)] at q2
    rw [if_neg c0, if_pos h1]
    exact q2
/-- the place that an index means -/
noncomputable def ixO (n : Nat) (i : Int) : Nat := (if 0 ≤ i then i else i + n).toNat
theorem ixN_ok {n : Nat} {i : Int} (h1 : -(n : Int) ≤ i) (h2 : i < n) : ixN n i = some (ixO n i) := by
  unfold ixN ixO
  by_cases c : 0 ≤ i
  · rw [if_pos c, if_pos h2, if_pos c]
  · rw [if_neg c, if_pos h1, if_neg c]
theorem ixO_lt {n : Nat} {i : Int} (h1 : -(n : Int) ≤ i) (h2 : i < n) : ixO n i < n := by
  unfold ixO
  by_cases c : 0 ≤ i
  · rw [if_pos c]; omega
  · rw [if_neg c]; omega
section
variable {X : Cx} {G : Gx} {Er : ER} {a b e : Expr} {pos p px : Pos} {C Ca Cb : En → Prop} {ga gb : En → Int} {i : Nat} {es : List Expr}
/-- x[k], x a list of numbers -/
theorem xn_item (i : Nat) {x : Str} (hb : PE X b (tXI X.K G Cb gb)) (hs : PlainIx b) (hN : X.N[i]? = some x := by rfl) (hv : Vis X.env.scope x := by first | exact Or.inl rfl | exact Or.inr (Or.inl rfl) | exact Or.inr (Or.inr rfl))
    (hd : (x == ("__debug__" : Str)) = false := by decide) (hcd : (x == ("__classdict__" : Str)) = false := by decide) :
    PE X (.Subscript (.Name x px) b pos) (tXI X.K G (fun ρ => isLO ρ i ∧ Cb ρ ∧ -((getL ρ i).length : Int) ≤ gb ρ ∧ gb ρ < ((getL ρ i).length : Int)) fun ρ => (getL ρ i).getD (ixO (getL ρ i).length (gb ρ)) 0) :=
  toX (pe_ix ix_list (pe_var hN hv hd hcd) hb hs) fun B σ H ρ O Q R c q => by
    obtain ⟨a, e1, e2⟩ := R.readL c.1
    exact ⟨_, e1, B, ρ, O, R, c.2.1, fun u H1 s1 a1 => ⟨a, _, _, _, rfl, a1, s1.seq e2, getD_at c.2.2.1 c.2.2.2, q _ H1 s1 rfl⟩⟩
theorem xn_len (i : Nat) {x : Str} (hm : X.mg "len" = none) (hN : X.N[i]? = some x := by rfl) (hg : Gl X "len" := by rfl) (hv : Vis X.env.scope x := by first | exact Or.inl rfl | exact Or.inr (Or.inl rfl) | exact Or.inr (Or.inr rfl))
    (hd : (x == ("__debug__" : Str)) = false := by decide) (hcd : (x == ("__classdict__" : Str)) = false := by decide) (he : starEach [.Name x px] X.env = [(false, eval (.Name x px) X.env)] := by rfl) :
    PE X (.Call (.Name "len" p) [.Name x px] [] pos) (tXI X.K G (fun ρ => isLO ρ i) fun ρ => ((getL ρ i).length : Int)) :=
  toX (pe_callB call_len_seq hg hm bt_len (pa_cons (pe_var hN hv hd hcd) pa_nil he) (by decide) (by decide) he rfl) fun B σ H ρ O Q R c q => by
    obtain ⟨a, e1, e2⟩ := R.readL c
    exact ⟨_, e1, a, _, rfl, .inl e2, by rw [List.length_map]; exact q _ H (Same.refl H) rfl⟩
/-- len of any list or tuple -/
noncomputable def lenP : PV → Int
  | .ints ns => (ns.length : Int)
  | .scr ns => (ns.length : Int)
  | .lst xs => (xs.length : Int)
  | .tup xs => (xs.length : Int)
  | _ => 0
noncomputable def hasLen : PV → Prop
  | .ints _ => True
  | .scr _ => True
  | .lst _ => True
  | .tup _ => True
  | _ => False
theorem At.len {K : PySem.W.Frag} {H : Hp} {p : PV} {v : V} (h : At K G H p v) (hl : hasLen p) : ∃ a ys, v = .ref a ∧ (SqL K H a ys ∨ SqT K H a ys) ∧ (ys.length : Int) = lenP p := by
  cases p <;> first | exact hl.elim | skip
  · obtain ⟨a, e, q⟩ := h; exact ⟨a, _, e, .inl (.inl q), by rw [List.length_map]; rfl⟩
  · obtain ⟨a, e, q⟩ := h; exact ⟨a, _, e, .inl q, by rw [List.length_map]; rfl⟩
  · obtain ⟨a, vs, e, q, r⟩ := h; exact ⟨a, vs, e, .inl (.inl q), by rw [← r.length]; rfl⟩
  · obtain ⟨a, vs, e, q, r⟩ := h; exact ⟨a, vs, e, .inr (SqT.of q), by rw [← r.length]; rfl⟩
theorem xn_lenP {g : En → PV} (hm : X.mg "len" = none) (ha : PE X a (tX X.K G C g)) (hg : Gl X "len" := by rfl) (he : starEach [a] X.env = [(false, eval a X.env)] := by rfl) :
    PE X (.Call (.Name "len" p) [a] [] pos) (tXI X.K G (fun ρ => C ρ ∧ hasLen (g ρ)) fun ρ => lenP (g ρ)) :=
  toX (pe_callB call_len_seq hg hm bt_len (pa_cons ha pa_nil he) (by decide) (by decide) he rfl) fun B σ H ρ O Q R c q => ⟨B, ρ, O, R, c.1, fun v H1 s1 a1 => by
    obtain ⟨a, ys, e, s, l⟩ := a1.len c.2
    exact ⟨a, ys, by rw [e], s.imp (fun z => mn_le.seq z) (fun z => same_tup mn_le z), by rw [l]; exact q _ H1 s1 rfl⟩⟩
/-- an item of a list or tuple of values -/
noncomputable def itP : PV → Int → PV
  | .lst xs, k => xs.getD (ixO xs.length k) .non
  | .tup xs, k => xs.getD (ixO xs.length k) .non
  | .ints ns, k => .int (ns.getD (ixO ns.length k) 0)
  | _, _ => .non
noncomputable def hasIt : PV → Int → Prop
  | .lst xs, k => -(xs.length : Int) ≤ k ∧ k < xs.length
  | .tup xs, k => -(xs.length : Int) ≤ k ∧ k < xs.length
  | .ints xs, k => -(xs.length : Int) ≤ k ∧ k < xs.length
  | _, _ => False
theorem AtL.item {K : PySem.W.Frag} {H : Hp} {ps : List PV} {vs : List V} {k : Int} (h : AtL K G H ps vs) (h1 : -(ps.length : Int) ≤ k) (h2 : k < ps.length) : ∃ v, atI vs k = some v ∧ At K G H (ps.getD (ixO ps.length k) .non) v := by
  have l := ixO_lt h1 h2
  have e : ps[ixO ps.length k]? = some (ps.getD (ixO ps.length k) .non) := by rw [List.getD_eq_getElem?_getD, List.getElem?_eq_getElem l]; rfl
  obtain ⟨v, ev, av⟩ := h.at e
  refine ⟨v, ?_, av⟩
  unfold atI
  rw [← h.length, ixN_ok h1 h2]
  exact ev
theorem xp_item {g : En → PV} (ha : PE X a (tX X.K G Ca g)) (hb : PE X b (tXI X.K G Cb gb)) (hs : PlainIx b) : PE X (.Subscript a b pos) (tX X.K G (fun ρ => Ca ρ ∧ Cb ρ ∧ hasIt (g ρ) (gb ρ)) fun ρ => itP (g ρ) (gb ρ)) :=
  toX (pe_ix ix_seq ha hb hs) fun B σ H ρ O Q R c q => two R c.1 c.2.1 fun v u H1 H2 s1 s2 a1 a2 => by
    have h := c.2.2
    revert a1 h q
    generalize g ρ = pg
    intro q a1 h
    cases pg <;> first | exact h.elim | skip
    · obtain ⟨p, e, r⟩ := a1
      exact .inl ⟨p, _, _, _, e, a2, .inl (same_rd mn_le r), getD_at h.1 h.2, q _ H2 (s1.trans s2) rfl⟩
    · obtain ⟨p, vs, e, r, t⟩ := a1
      obtain ⟨v', e', a'⟩ := t.item h.1 h.2
      exact .inl ⟨p, vs, _, v', e, a2, .inl (same_rd mn_le r), e', q _ H2 (s1.trans s2) a'⟩
    · obtain ⟨p, vs, e, r, t⟩ := a1
      obtain ⟨v', e', a'⟩ := t.item h.1 h.2
      exact .inr (.inl ⟨p, vs, _, v', e, a2, SqT.of (mn_le _ _ r), e', q _ H2 (s1.trans s2) a'⟩)
/-- the truth of a list's name -/
theorem xt_list (i : Nat) {x : Str} (hN : X.N[i]? = some x := by rfl) (hv : Vis X.env.scope x := by first | exact Or.inl rfl | exact Or.inr (Or.inl rfl) | exact Or.inr (Or.inr rfl))
    (hd : (x == ("__debug__" : Str)) = false := by decide) (hcd : (x == ("__classdict__" : Str)) = false := by decide) : PT X (.Name x pos) (tXT X.K G (fun ρ => isLO ρ i) fun ρ => ¬ getL ρ i = []) :=
  fun pins s σ H Q I ⟨B, ρ, O, R, c, q⟩ => pt_truth (pe_var hN hv hd hcd) (fun _ => rfl) pins s σ H Q I (by
    obtain ⟨a, e1, e2⟩ := R.readL c
    refine ⟨_, e1, _, .inl ⟨_, e2, rfl⟩, ?_⟩
    have z := q H (Same.refl H)
    have e : (!((getL ρ i).map V.int).isEmpty) = decide (¬ getL ρ i = []) := by cases getL ρ i <;> simp
    rw [e]; exact z)
/-- [a, b, ..] of numbers -/
noncomputable def allI : List PV → List Int
  | .int n :: r => n :: allI r
  | _ => []
noncomputable def areI : List PV → Prop
  | [] => True
  | .int _ :: r => areI r
  | _ => False
theorem AtL.ints {K : PySem.W.Frag} {H : Hp} : ∀ {ps : List PV} {vs : List V}, AtL K G H ps vs → areI ps → vs = (allI ps).map V.int
  | [], _, h, _ => h
  | p :: ps, _, h, c => by
    cases p <;> first | exact c.elim | skip
    obtain ⟨v, r, rfl, e, t⟩ := h
    have e : v = _ := e
    rw [e, AtL.ints t c]
    rfl
theorem xl_lst {gs : En → List PV} (h : PA X es (tXs X.K G C gs)) (hz : ∀ ρ, (gs ρ).length ≤ 1000 := by intro _; exact Nat.le_of_ble_eq_true rfl) : PE X (.List es pos) (tXl X.K G (fun ρ => C ρ ∧ areI (gs ρ)) fun ρ => allI (gs ρ)) :=
  toXl (pe_lst h) fun B σ H ρ O Q R c q => ⟨B, ρ, O, R, c.1, fun vs H1 s1 a1 => ⟨by rw [← a1.length]; exact Nat.le_of_lt (small1000 (hz ρ)), fun a ha => by
    have e := a1.ints c.2
    refine q a _ (s1.trans (same_new ha _)) (s1.free ha) ?_
    rw [upd_same, e]⟩⟩
/-- list(x) of numbers -/
theorem xl_list {g : En → PV} {ns : En → List Int} (hm : X.mg "list" = none) (ha : PE X a (tX X.K G C g)) (hn : ∀ ρ, g ρ = .ints (ns ρ) ∨ g ρ = .scr (ns ρ)) (hg : Gl X "list" := by rfl) (he : starEach [a] X.env = [(false, eval a X.env)] := by rfl) :
    PE X (.Call (.Name "list" p) [a] [] pos) (tXl X.K G C ns) :=
  toXl (pe_callTy call_list_of hg hm bt_list (pa_cons ha pa_nil he) (by decide) (by decide) he rfl) fun B σ H ρ O Q R c q => ⟨B, ρ, O, R, c, fun v H1 s1 a1 => by
    have key : ∃ p, v = .ref p ∧ SqL X.K H1 p ((ns ρ).map V.int) := by
      rcases hn ρ with z | z
      · rw [z] at a1; obtain ⟨p, e, r⟩ := a1; exact ⟨p, e, .inl (same_rd mn_le r)⟩
      · rw [z] at a1; obtain ⟨p, e, r⟩ := a1; exact ⟨p, e, mn_le.seq r⟩
    obtain ⟨p, rfl, r⟩ := key
    exact ⟨p, _, rfl, .inl r, fun l hl => q l _ (s1.trans (same_new hl _)) (s1.free hl) upd_same⟩⟩
/-- x[lo:hi] of numbers -/
noncomputable def cutI (xs : List Int) (lo hi : Option Int) : List Int := (xs.drop (HT.sIx xs.length 0 lo)).take (HT.sIx xs.length xs.length hi - HT.sIx xs.length 0 lo)
theorem cutV_map (xs : List Int) (lo hi : Option Int) : cutV (xs.map V.int) lo hi = (cutI xs lo hi).map V.int := by
  unfold cutV cutI
  rw [List.length_map, ← List.map_drop, ← List.map_take]
noncomputable def tXo (K : PySem.W.Frag) (G : Gx) (C : En → Prop) (g : En → Option Int) : TO := fun σ H Q => ∃ B ρ O, Rep K G B σ H ρ O ∧ C ρ ∧ ∀ H', Same H H' → Q (g ρ) H'
theorem xo_none : PO X none (tXo X.K G (fun _ => True) fun _ => none) := fun pins s σ H Q I ⟨_, _, _, _, _, q⟩ => po_none pins s σ H Q I (q H (Same.refl H))
theorem xo_some (h : PE X e (tXI X.K G C ga)) : PO X (some e) (tXo X.K G C fun ρ => some (ga ρ)) := fun pins s σ H Q I ⟨B, ρ, O, R, c, q⟩ => po_some h pins s σ H Q I ⟨B, ρ, O, R, c, fun _ H1 s1 a1 => ⟨_, a1, q H1 s1⟩⟩
theorem xl_slice {lo hi : Option Expr} {p2 : Pos} {g : En → PV} {ns : En → List Int} {Cl Ch : En → Prop} {gl gh : En → Option Int} (ha : PE X a (tX X.K G C g)) (hl : PO X lo (tXo X.K G Cl gl)) (hh : PO X hi (tXo X.K G Ch gh)) (hn : ∀ ρ, C ρ → g ρ = .ints (ns ρ) ∨ g ρ = .scr (ns ρ)) :
    PE X (.Subscript a (.Slice lo hi none p2) pos) (tXl X.K G (fun ρ => C ρ ∧ Cl ρ ∧ Ch ρ) fun ρ => cutI (ns ρ) (gl ρ) (gh ρ)) :=
  toXl (pe_slice sl_list ha hl hh) fun B σ H ρ O Q R c q => ⟨B, ρ, O, R, c.1, fun v H1 s1 a1 => ⟨B, ρ, O, R.grow s1, c.2.1, fun H2 s2 => ⟨B, ρ, O, (R.grow s1).grow s2, c.2.2, fun H3 s3 => by
    have key : ∃ p, v = .ref p ∧ SqL X.K H1 p ((ns ρ).map V.int) := by
      rcases hn ρ c.1 with z | z
      · rw [z] at a1; obtain ⟨p, e, r⟩ := a1; exact ⟨p, e, .inl (same_rd mn_le r)⟩
      · rw [z] at a1; obtain ⟨p, e, r⟩ := a1; exact ⟨p, e, mn_le.seq r⟩
    obtain ⟨p, rfl, r⟩ := key
    refine ⟨p, _, rfl, (s2.trans s3).seq r, fun l hl => q l _ (((s1.trans s2).trans s3).trans (same_new hl _)) (((s1.trans s2).trans s3).free hl) ?_⟩
    rw [upd_same, cutV_map]⟩⟩⟩
/-- a list of numbers behind another -/
theorem Inv.lstR {X : Cx} {pins : List (Addr × Obj)} {σ : L2.St} {H : Hp} {s : Shared} {l : Addr} {xs : List V} (I : Inv X pins σ H s) (hH : Rd H l (.lst xs)) : xs.length ≤ sizeLine ∧ ∃ (its : List Value) (n : Nat), Vals xs its ∧ xs.length = its.length ∧ s.heap.get? l = some { cls := .type "list", data := .seq its.toArray n } := by
  obtain ⟨z, its, n, r, e⟩ := hH.ok I.hok
  exact ⟨z, its, n, r, r.length, e⟩
noncomputable def rCatR : R2 := fun x y H Q => ∃ l b xs zs, x = .ref l ∧ y = .ref b ∧ Rd H l (.lst xs) ∧ Rd H b (.lst zs) ∧ xs.length + zs.length ≤ sizeLine ∧ ∀ p, H p = none → Q (.ref p) (upd H p (.lst (xs ++ zs)))
theorem op_catR : OpR X (binaryOp .Add) rCatR := by
  intro pins s σ H x y v u Q I rx ry h
  obtain ⟨l, b, xs, zs, rfl, rfl, hH, hB, hz, q⟩ := h
  cases rx
  cases ry
  obtain ⟨z, its, n, r, hl, e⟩ := Inv.lstR I hH
  obtain ⟨z2, its2, n2, r2, hl2, e2⟩ := Inv.lstR I hB
  refine PySem.P.add_list e e2 ?_ (by rw [List.size_toArray, List.size_toArray]; omega)
  have ea : its.toArray ++ its2.toArray = (its ++ its2).toArray := by simp
  rw [ea]
  exact ⟨.ref _, _, I.lnew (t' := s.toks) (r.append r2) (by rw [List.length_append]; omega), rfl, q _ I.fresh⟩
theorem xl_cat {gl hl : En → List Int} (ha : PE X a (tXL X.K G Ca gl)) (hb : PE X b (tXL X.K G Cb hl)) : PE X (.BinOp a .Add b pos) (tXl X.K G (fun ρ => Ca ρ ∧ Cb ρ ∧ (gl ρ).length + (hl ρ).length ≤ sizeLine) fun ρ => gl ρ ++ hl ρ) :=
  toXl (pe_op op_catR ha hb) fun B σ H ρ O Q R c q => two R c.1 c.2.1 fun v u H1 H2 s1 s2 a1 a2 => by
    obtain ⟨l, rfl, r1⟩ := a1
    obtain ⟨b, rfl, r2⟩ := a2
    refine ⟨l, b, _, _, rfl, rfl, same_rd mn_le r1, same_rd mn_le r2, by rw [List.length_map, List.length_map]; exact c.2.2, fun p hp => q p _ ((s1.trans s2).trans (same_new hp _)) ((s1.trans s2).free hp) ?_⟩
    rw [upd_same, List.map_append]
theorem flat_rep {α : Type} (x : α) : ∀ k : Nat, (List.replicate k [x]).flatten = List.replicate k x
  | 0 => rfl
  | k + 1 => by rw [List.replicate_succ, List.flatten_cons, flat_rep x k]; rfl
/-- [x] * k -/
theorem xl_rep {gl : En → List Int} {n : En → Int} (ha : PE X a (tXl X.K G Ca gl)) (hb : PE X b (tXI X.K G Cb gb)) (hn : ∀ ρ, gl ρ = [n ρ]) : PE X (.BinOp a .Mult b pos) (tXl X.K G (fun ρ => Ca ρ ∧ Cb ρ ∧ -(2 ^ 63) ≤ gb ρ ∧ (gb ρ).toNat ≤ 1000) fun ρ => List.replicate (gb ρ).toNat (n ρ)) :=
  toXl (pe_op op_rep ha hb) fun B σ H ρ O Q R c q => ⟨B, ρ, O, R, c.1, fun l H1 s1 n1 e1 => ⟨B, ρ, O, R.grow s1, c.2.1, fun u H2 s2 a2 => by
    rw [hn ρ] at e1
    refine ⟨l, _, _, rfl, a2, s2 _ _ e1, c.2.2.1, by have := c.2.2.2; omega, ?_, fun p hp => q p _ ((s1.trans s2).trans (same_new hp _)) ((s1.trans s2).free hp) ?_⟩
    · rw [List.map_cons, List.map_nil, List.length_singleton, Nat.one_mul]
      exact Nat.le_of_lt (small1000 c.2.2.2)
    · rw [upd_same, List.map_cons, List.map_nil, flat_rep, List.map_replicate]⟩⟩
/-! calls of defs -/
end
/-- values in, a value out; nothing that stood is changed -/
noncomputable def spF (K : PySem.W.Frag) (G : Gx) (pre : List PV → Prop) (F : List PV → PV) : Sp := fun vs H Q _ => ∃ as O, (∀ a, O a = true → H a ≠ none) ∧ AtL K G (mn H O) as vs ∧ pre as ∧ ∀ v H', Same H H' → At K G (mn H' O) (F as) v → Q v H'
/-- values in, a new list of numbers out -/
noncomputable def spL (K : PySem.W.Frag) (G : Gx) (pre : List PV → Prop) (F : List PV → List Int) : Sp := fun vs H Q _ => ∃ as O, (∀ a, O a = true → H a ≠ none) ∧ AtL K G (mn H O) as vs ∧ pre as ∧ ∀ a H', Same H H' → H a = none → H' a = some (.lst ((F as).map V.int)) → Q (.ref a) H'
section
variable {X : Cx} {G : Gx} {Er : ER} {e : Expr} {es : List Expr} {pos p : Pos} {j k : Nat} {x : Str} {ps : List Str} {pre : List PV → Prop} {C : En → Prop} {gs : En → List PV}
theorem xc {F : List PV → PV} (o : Ok X.prog X.w X.K X.mg X.base j x ps (spF X.K G pre F)) (hr : Room k X.A) (ha : PA X (e :: es) (tXs X.K G C gs)) (hj : j ≤ k := by decide) (hg : Gl X x := by rfl) (hdb : (x == ("__debug__" : Str)) = false := by decide)
    (he : starEach (e :: es) X.env = (false, eval e X.env) :: starEach es X.env := by rfl) (hpl : (backTo pos (starEach es X.env)).any (·.1) = false := by rfl) :
    PE X (.Call (.Name x p) (e :: es) [] pos) (tX X.K G (fun ρ => C ρ ∧ pre (gs ρ)) fun ρ => F (gs ρ)) :=
  toX (pe_callO o hr ha hj hg hdb he hpl) fun B σ H ρ O Q R c q => ⟨B, ρ, O, R, c.1, fun vs H1 s1 a1 => by
    dsimp only
    rw [List.append_nil]
    exact ⟨gs ρ, O, (R.grow s1).dom, a1, c.2, fun v H2 s2 a2 => q v H2 (s1.trans s2) a2⟩⟩
theorem xcl {F : List PV → List Int} (o : Ok X.prog X.w X.K X.mg X.base j x ps (spL X.K G pre F)) (hr : Room k X.A) (ha : PA X (e :: es) (tXs X.K G C gs)) (hj : j ≤ k := by decide) (hg : Gl X x := by rfl) (hdb : (x == ("__debug__" : Str)) = false := by decide)
    (he : starEach (e :: es) X.env = (false, eval e X.env) :: starEach es X.env := by rfl) (hpl : (backTo pos (starEach es X.env)).any (·.1) = false := by rfl) :
    PE X (.Call (.Name x p) (e :: es) [] pos) (tXl X.K G (fun ρ => C ρ ∧ pre (gs ρ)) fun ρ => F (gs ρ)) :=
  toXl (pe_callO o hr ha hj hg hdb he hpl) fun B σ H ρ O Q R c q => ⟨B, ρ, O, R, c.1, fun vs H1 s1 a1 => by
    dsimp only
    rw [List.append_nil]
    exact ⟨gs ρ, O, (R.grow s1).dom, a1, c.2, fun a H2 s2 n2 e2 => q a H2 (s1.trans s2) (s1.free n2) e2⟩⟩
end
/-! a def begins -/
noncomputable def startR (N : List Str) (as : List PV) : En := as.map Sl.fr ++ List.replicate (N.length - as.length) .un
theorem rep_start {K : PySem.W.Frag} {G : Gx} {H : Hp} {O : Addr → Bool} {as : List PV} {vs : List V} {N : List Str} (hd : ∀ a, O a = true → H a ≠ none) (h : AtL K G (mn H O) as vs) : Rep K G ⟨H, O⟩ (L2.start N vs) H (startR N as) O := by
  have hl := h.length
  refine ⟨Same.refl H, hd, fun _ z => z, hd, fun _ z => .inl z, fun i p e => ?_, fun i p e => ?_, fun i j p q a e => ?_, by unfold L2.start startR; simp [hl], fun i xs ys e => ?_⟩
  · unfold startR at e
    by_cases c : i < as.length
    · rw [List.getElem?_append_left (by rw [List.length_map]; exact c), List.getElem?_map] at e
      cases e' : as[i]? with
      | none => rw [e'] at e; cases e
      | some p' =>
        rw [e'] at e
        cases e
        obtain ⟨v, ev, av⟩ := h.at e'
        refine ⟨v, ?_, av⟩
        unfold L2.start
        rw [List.getElem?_append_left (by rw [List.length_map, ← hl]; exact c), List.getElem?_map, ev]
        rfl
    · rw [List.getElem?_append_right (by rw [List.length_map]; omega), List.getElem?_replicate] at e
      split at e <;> cases e
  · exfalso
    unfold startR at e
    by_cases c : i < as.length
    · rw [List.getElem?_append_left (by rw [List.length_map]; exact c), List.getElem?_map] at e
      cases e' : as[i]? <;> rw [e'] at e <;> cases e
    · rw [List.getElem?_append_right (by rw [List.length_map]; omega), List.getElem?_replicate] at e
      split at e <;> cases e
  · exfalso
    unfold startR at e
    by_cases c : i < as.length
    · rw [List.getElem?_append_left (by rw [List.length_map]; exact c), List.getElem?_map] at e
      cases e' : as[i]? <;> rw [e'] at e <;> cases e
    · rw [List.getElem?_append_right (by rw [List.length_map]; omega), List.getElem?_replicate] at e
      split at e <;> cases e
  · exfalso
    unfold startR at e
    by_cases c : i < as.length
    · rw [List.getElem?_append_left (by rw [List.length_map]; exact c), List.getElem?_map] at e
      cases e' : as[i]? <;> rw [e'] at e <;> cases e
    · rw [List.getElem?_append_right (by rw [List.length_map]; omega), List.getElem?_replicate] at e
      split at e <;> cases e
section
variable {P : Program} {w : World} {K : PySem.W.Frag} {mg : Str → Option Value} {base : Heap} {G : Gx}
/-- a def that tells a value -/
theorem okF {x : Str} {st : Stmt} {N ps : List Str} {k : Nat} {pre : List PV → Prop} {F : List PV → PV} (d : Def K mg x st ps) (S : FnScope N ps (defScope st)) (len : ∀ as, pre as → as.length = ps.length)
    (hbody : ∀ (f : Addr) (cdv : Value) (A : Around) (outer : List Env) (s : Shared) (H : Hp) (E : XK), Room k (A.deeper (envOfC x (defScope st) s.heap.objs.size f cdv)) →
      ∃ fs, PSs (cxOf CX0 P w K mg base N x (defScope st) f cdv A outer s H E).nox (defBody st) (ts K G ER0 fs) ∧ ∀ as, pre as → fs { nx := fun _ => F as = .non, rt := fun p => p = F as, rl := fun ns => F as = .ints ns } (startR N as)) : Ok P w K mg base (k + 1) x ps (spF K G pre F) := by
  refine Def.ok d S (fun vs H Q E h => ?_) fun f cdv A outer s H vs Q E hr h => ?_
  · obtain ⟨as, O, _, al, hp, _⟩ := h
    rw [← al.length]; exact len as hp
  obtain ⟨as, O, hd, al, hp, q⟩ := h
  obtain ⟨fs, b, c⟩ := hbody f cdv A outer s H E hr
  refine ⟨_, b, ⟨H, O⟩, startR N as, _, ⟨O, rep_start hd al⟩, c as hp, ⟨fun σ' H' ρ' R' h => ?_, fun v H' p s' a' h => ?_, fun a H' ns s' n e h => ?_, fun _ _ _ _ _ h => h.elim, fun _ _ _ _ h => h, fun _ _ _ _ h => h, fun _ _ _ h => h⟩⟩
  · obtain ⟨O', R'⟩ := R'
    exact q .non H' R'.same (by rw [show F as = .non from h]; rfl)
  · have h : p = F as := h
    subst h
    exact q v H' s' a'
  · have h : F as = .ints ns := h
    refine q _ H' s' ?_
    rw [h]
    exact ⟨a, rfl, .inl (by
      rw [mn_of]
      · exact e
      · cases z : O a with
        | false => rfl
        | true => exact absurd n (hd a z))⟩
/-- a def that tells a new list of numbers -/
theorem okL {x : Str} {st : Stmt} {N ps : List Str} {k : Nat} {pre : List PV → Prop} {F : List PV → List Int} (d : Def K mg x st ps) (S : FnScope N ps (defScope st)) (len : ∀ as, pre as → as.length = ps.length)
    (hbody : ∀ (f : Addr) (cdv : Value) (A : Around) (outer : List Env) (s : Shared) (H : Hp) (E : XK), Room k (A.deeper (envOfC x (defScope st) s.heap.objs.size f cdv)) →
      ∃ fs, PSs (cxOf CX0 P w K mg base N x (defScope st) f cdv A outer s H E).nox (defBody st) (ts K G ER0 fs) ∧ ∀ as, pre as → fs { nx := fun _ => False, rt := fun _ => False, rl := fun ns => ns = F as } (startR N as)) : Ok P w K mg base (k + 1) x ps (spL K G pre F) := by
  refine Def.ok d S (fun vs H Q E h => ?_) fun f cdv A outer s H vs Q E hr h => ?_
  · obtain ⟨as, O, _, al, hp, _⟩ := h
    rw [← al.length]; exact len as hp
  obtain ⟨as, O, hd, al, hp, q⟩ := h
  obtain ⟨fs, b, c⟩ := hbody f cdv A outer s H E hr
  refine ⟨_, b, ⟨H, O⟩, startR N as, _, ⟨O, rep_start hd al⟩, c as hp, ⟨fun _ _ _ _ h => h.elim, fun _ _ _ _ _ h => h.elim, fun a H' ns s' n e h => ?_, fun _ _ _ _ _ h => h.elim, fun _ _ _ _ h => h, fun _ _ _ _ h => h, fun _ _ _ h => h⟩⟩
  have h : ns = F as := h
  subst h
  exact q a H' s' n e
end
/-! ### changes of a list of one's own -/
/-- a def that changes the list of numbers it is handed alone -/
noncomputable def spM (pre : List Int → Prop) (F : List Int → List Int) : Sp := fun vs H Q _ => ∃ a ns, vs = [.ref a] ∧ H a = some (.lst (ns.map V.int)) ∧ pre ns ∧ ∀ H', (∀ b o, b ≠ a → H b = some o → H' b = some o) → H' a = some (.lst ((F ns).map V.int)) → Q .non H'
theorem upd_le {H H' : Hp} {a : Addr} {o : HO} (h : ∀ b o, b ≠ a → H b = some o → H' b = some o) (e : H' a = some o) : Same (upd H a o) H' := fun b u z => by
  by_cases c : b = a
  · subst c; rw [upd_same] at z; cases z; exact e
  · rw [upd_ne c] at z; exact h b u c z
section
variable {X : Cx} {G : Gx} {Er : ER} {e b : Expr} {pos px pa pc : Pos} {i j k : Nat} {x y : Str} {C Cb : En → Prop} {g gb : En → Int}
theorem xst_pop (i : Nat) {x : Str} (hN : X.N[i]? = some x := by rfl) (hv : Vis X.env.scope x := by first | exact Or.inl rfl | exact Or.inr (Or.inl rfl) | exact Or.inr (Or.inr rfl))
    (hd : (x == ("__debug__" : Str)) = false := by decide) (hcd : (x == ("__classdict__" : Str)) = false := by decide)
    (hbase : attributeBase (.Name x px) "pop" X.env (eval (.Name x px) X.env) = eval (.Name x px) X.env := by rfl) (hline : (pa.endLine == pc.line) = true := by rfl)
    (hsw : swapsWith (.Call (.Attribute (.Name x px) "pop" pa) [] [] pc) none pos.line X.env = pure false := by rfl) :
    PS X (.Expr (.Call (.Attribute (.Name x px) "pop" pa) [] [] pc) pos) (ts X.K G Er fun P ρ => isO ρ i ∧ getL ρ i ≠ [] ∧ P.nx (ρ.set i (.ow (.ints (getL ρ i).dropLast)))) :=
  toS (ps_expr (pe_bm0 PySem.F.plainAttrs_list PySem.F.slot_list_pop PySem.F.type_list_pop mt_pop (pe_var hN hv hd hcd) hbase hline) hsw) fun B σ H ρ O P D R c w => by
    obtain ⟨c0, c1, c3⟩ := c
    obtain ⟨a, vs, e1, e2, e3, e4, e5⟩ := R.ow i _ c0
    have e5 : vs = (getL ρ i).map V.int := e5
    subst e5
    have hl : 0 < (getL ρ i).length := List.length_pos_iff.mpr c1
    refine ⟨_, e1, .inl ⟨rfl, _, SqL.of e4⟩, a, _, V.int ((getL ρ i)[(getL ρ i).length - 1]'(by omega)), rfl, rfl, e4, ?_, w.nx σ _ _ ⟨O, R.change c0 e1 (p' := .ints (getL ρ i).dropLast) ?_⟩ c3⟩
    · rw [List.length_map, List.getElem?_map, List.getElem?_eq_getElem (by omega)]
      rfl
    · show _ = (getL ρ i).dropLast.map V.int
      rw [List.map_dropLast]
theorem xst_setit (i : Nat) {x : Str} {ps : Pos} (hk : PE X b (tXI X.K G Cb gb)) (he : PE X e (tXI X.K G C g)) (hN : X.N[i]? = some x := by rfl) (hv : Vis X.env.scope x := by first | exact Or.inl rfl | exact Or.inr (Or.inl rfl) | exact Or.inr (Or.inr rfl))
    (hd : (x == ("__debug__" : Str)) = false := by decide) (hcd : (x == ("__classdict__" : Str)) = false := by decide)
    (ha : ∀ v, assign (.Subscript (.Name x px) b ps) X.env v = (do
      let ov ← holding [v] (eval (.Name x px) X.env)
      let iv ← holding [v, ov] (eval b X.env)
      standAt ps
      holding [v, ov, iv] (setItem ov iv v)
      release [v, ov, iv] []) := by intro _; rfl)
    (hs : swapsWithSole [.Subscript (.Name x px) b ps] e pos.line X.env = pure false := by rfl) (hw : swappedStores [.Subscript (.Name x px) b ps] e X.env = pure none := by rfl)
    (h1 : (assignEach [.Subscript (.Name x px) b ps] X.env).map (·.2) = [assign (.Subscript (.Name x px) b ps) X.env] := by rfl) :
    PS X (.Assign [.Subscript (.Name x px) b ps] e pos) (ts X.K G Er fun P ρ => C ρ ∧ isO ρ i ∧ Cb ρ ∧ (-((getL ρ i).length : Int) ≤ gb ρ ∧ gb ρ < ((getL ρ i).length : Int)) ∧ P.nx (ρ.set i (.ow (.ints ((getL ρ i).set (ixO (getL ρ i).length (gb ρ)) (g ρ)))))) :=
  toS (ps_asg he (pg_sub (pe_var hN hv hd hcd) hk set_list ha) hs hw h1) fun B σ H ρ O P D R c w => by
    obtain ⟨c1, c0, c2, cb, c3⟩ := c
    refine ⟨B, ρ, O, R, c1, fun v H1 s1 a1 => ?_⟩
    have a1 : v = .int (g ρ) := a1
    subst a1
    have R1 := R.grow s1
    obtain ⟨a, vs, e1, e2, e3, e4, e5⟩ := R1.ow i _ c0
    have e5 : vs = (getL ρ i).map V.int := e5
    subst e5
    refine ⟨_, e1, B, ρ, O, R1, c2, fun u H2 s2 a2 => ?_⟩
    have a2 : u = .int (gb ρ) := a2
    subst a2
    refine ⟨a, _, _, _, rfl, rfl, s2 _ _ e4, by rw [List.length_map]; exact ixN_ok cb.1 cb.2, w.nx σ _ _ ⟨O, (R1.grow s2).change c0 e1 (p' := .ints _) ?_⟩ c3⟩
    show _ = ((getL ρ i).set _ _).map V.int
    rw [List.map_set]
/-- a call of a def that changes the list of one's own in slot i -/
theorem xst_mut (i : Nat) {x y : Str} {ps : List Str} {pre : List Int → Prop} {F : List Int → List Int} (o : Ok X.prog X.w X.K X.mg X.base j y ps (spM pre F)) (hr : Room k X.A) (hj : j ≤ k := by decide) (hg : Gl X y := by rfl)
    (hN : X.N[i]? = some x := by rfl) (hv : Vis X.env.scope x := by first | exact Or.inl rfl | exact Or.inr (Or.inl rfl) | exact Or.inr (Or.inr rfl)) (hd : (x == ("__debug__" : Str)) = false := by decide) (hcd : (x == ("__classdict__" : Str)) = false := by decide)
    (hdb : (y == ("__debug__" : Str)) = false := by decide) (he : starEach (.Name x px :: []) X.env = (false, eval (.Name x px) X.env) :: starEach [] X.env := by rfl) (hpl : (backTo pc (starEach [] X.env)).any (·.1) = false := by rfl)
    (hsw : swapsWith (.Call (.Name y pa) [.Name x px] [] pc) none pos.line X.env = pure false := by rfl) :
    PS X (.Expr (.Call (.Name y pa) [.Name x px] [] pc) pos) (ts X.K G Er fun P ρ => isO ρ i ∧ pre (getL ρ i) ∧ P.nx (ρ.set i (.ow (.ints (F (getL ρ i)))))) :=
  toS (ps_expr (pe_callO o hr (pa_cons (pe_var hN hv hd hcd) pa_nil he) hj hg hdb he hpl) hsw) fun B σ H ρ O P D R c w => by
    obtain ⟨c0, c1, c3⟩ := c
    obtain ⟨a, vs, e1, e2, e3, e4, e5⟩ := R.ow i _ c0
    have e5 : vs = (getL ρ i).map V.int := e5
    subst e5
    exact ⟨_, e1, a, _, rfl, e4, c1, fun H' k1 k2 => w.nx σ H' _ ⟨O, (R.change c0 e1 (p' := .ints _) rfl).grow (upd_le k1 k2)⟩ c3⟩
end
end L3

/-! ### comprehensions over pure values -/
namespace L3
open PySem PySem.Spec PyProof.Rows L2
noncomputable def capR (cap : List (Option Nat)) (ρ : En) : En := cap.map fun o => match o with
  | some i => (match ρ[i]? with
    | some (.fr p) => .fr p
    | _ => .un)
  | none => .un
section
variable {K : PySem.W.Frag} {G : Gx} {B : Bs} {σ : L2.St} {H H1 : Hp} {ρ : En} {O : Addr → Bool} {D : Addr} {cap : List (Option Nat)}
theorem rep_block (R : Rep K G B σ H1 ρ O) (hD : H1 D = none) (s : Same H1 H) (hn : H D ≠ none) : Rep K G ⟨H1, O⟩ (capS cap σ) H (capR cap ρ) (hide D O) := by
  refine ⟨s, R.dom, hide_le, fun a z y => ?_, fun a z => ?_, fun j p e => ?_, fun j p e => ?_, fun i j p q a e => ?_, by unfold capS capR; rw [List.length_map, List.length_map], fun j xs ys e => ?_⟩
  · by_cases c : a = D
    · subst c; exact hn y
    · rw [hide_ne c] at z; exact R.dom a z (s.free y)
  · by_cases c : a = D
    · subst c; exact .inr hD
    · rw [hide_ne c] at z; exact .inl z
  · unfold capR at e
    rw [List.getElem?_map] at e
    cases ec : cap[j]? with
    | none => rw [ec] at e; cases e
    | some o =>
      rw [ec] at e
      cases o with
      | none => cases e
      | some i =>
        have e := Option.some.inj e
        dsimp only at e
        split at e
        · rename_i p' er
          cases e
          obtain ⟨v, e1, e2⟩ := R.fr i p er
          refine ⟨v, ?_, At.mono (mn_hide s hD) _ _ e2⟩
          unfold capS
          rw [List.getElem?_map, ec]
          show some ((σ[i]?).join) = some (some v)
          rw [e1]
          rfl
        · cases e
  · exfalso
    unfold capR at e
    rw [List.getElem?_map] at e
    cases ec : cap[j]? with
    | none => rw [ec] at e; cases e
    | some o =>
      rw [ec] at e
      cases o with
      | none => cases e
      | some i =>
        have e := Option.some.inj e
        dsimp only at e
        split at e <;> cases e
  · exfalso
    unfold capR at e
    rw [List.getElem?_map] at e
    cases ec : cap[i]? with
    | none => rw [ec] at e; cases e
    | some o =>
      rw [ec] at e
      cases o with
      | none => cases e
      | some i =>
        have e := Option.some.inj e
        dsimp only at e
        split at e <;> cases e
  · exfalso
    unfold capR at e
    rw [List.getElem?_map] at e
    cases ec : cap[j]? with
    | none => rw [ec] at e; cases e
    | some o =>
      rw [ec] at e
      cases o with
      | none => cases e
      | some i =>
        have e := Option.some.inj e
        dsimp only at e
        split at e <;> cases e
theorem ext_refl : ∀ σ : L2.St, ExtS σ σ
  | [] => True.intro
  | none :: r => ext_refl r
  | some _ :: r => ⟨rfl, ext_refl r⟩
variable {α : Type} {J : It} {g : TG} {C : En → Prop} {gb : En → PV} {Q : VK}
theorem lc_main (items : List α) (setσ : α → V → L2.St) (setr : α → En) (val : α → V) (R : Rep K G B σ H1 ρ O) (hD : H1 D = none) (hlen : items.length ≤ 1000) (hgo : ∀ i H, i < items.length → Same H1 H → J.go i H)
    (hyld : ∀ i it x H H', items[i]? = some it → Same H1 H → J.yld i H x H' → Same H H' ∧ ∀ k : L2.St → Hp → Prop, k (setσ it (val it)) H' → g x (capS cap σ) H' k) (hstop : ∀ H, Same H1 H → J.stop items.length H)
    (hset : ∀ it H, it ∈ items → Same H1 H → Rep K G ⟨H1, O⟩ (capS cap σ) H (capR cap ρ) (hide D O) → Rep K G ⟨H1, O⟩ (setσ it (val it)) H (setr it) (hide D O)) (hext : ∀ it, ExtS (capS cap σ) (setσ it (val it))) (hC : ∀ it ∈ items, C (setr it))
    (hQ : ∀ H' ys, Same H1 H' → H' D = some (.lst ys) → AtL K G (mn H' (hide D O)) (items.map fun it => gb (setr it)) ys → Q (.ref D) H') :
    ∃ W : Nat → Nat → List V → Hp → Prop, (∃ m, W 0 m [] (upd H1 D (.lst []))) ∧ lcW D J (capS cap σ) g noTest (tX K G C gb) Q W := by
  refine ⟨fun i m ys H => m = items.length - i ∧ i ≤ items.length ∧ Same H1 H ∧ H D = some (.lst ys) ∧ AtL K G (mn H (hide D O)) ((items.take i).map fun it => gb (setr it)) ys, ⟨items.length, by simp, Nat.zero_le _, same_new hD _, upd_same, rfl⟩, ?_⟩
  rintro i m ys H ⟨rfl, hi, hs, hd, al⟩
  have hl : ys.length = i := by rw [← al.length, List.length_map, List.length_take]; omega
  refine ⟨hd, small1000 (by omega), ?_⟩
  by_cases hlt : i < items.length
  · refine .inr ⟨hgo i H hlt hs, ?_⟩
    intro x H' hy
    have en : items[i]? = some items[i] := List.getElem?_eq_getElem hlt
    obtain ⟨s1, kk⟩ := hyld i _ x H H' en hs hy
    refine kk _ ⟨hext _, ?_⟩
    refine iteT ?_
    have hd' := s1 _ _ hd
    have R2 := hset items[i] H' (List.getElem_mem hlt) (hs.trans s1) (rep_block R hD (hs.trans s1) (by rw [hd']; exact fun z => by cases z))
    refine ⟨_, _, _, R2, hC _ (List.getElem_mem hlt), fun v H2 s2 a2 => ⟨s2 _ _ hd', items.length - (i + 1), by omega, rfl, hlt, ?_, upd_same, ?_⟩⟩
    · intro b o z
      rw [upd_ne (ne_of_none z hD)]
      exact s2 _ _ (s1 _ _ (hs b o z))
    · rw [mn_upd hide_self, take_at en, List.map_append]
      exact AtL.snoc (AtL.mono (mn_same (s1.trans s2)) _ _ al) a2
  · have e : i = items.length := by omega
    subst e
    refine .inl ⟨hstop H hs, hQ H ys hs hd ?_⟩
    rw [List.take_length] at al
    exact al
theorem atL_ints {gi : α → Int} : ∀ {l : List α} {ys : List V}, AtL K G H (l.map fun x => .int (gi x)) ys → ys = (l.map gi).map V.int
  | [], _, h => h
  | x :: r, _, h => by
    obtain ⟨v, t, rfl, e, q⟩ := h
    have e : v = .int (gi x) := e
    rw [e, atL_ints q]
    rfl
end
section
variable {K : PySem.W.Frag} {G : Gx} {σ : L2.St} {H : Hp} {Q : VK} {Cs Cb : En → Prop} {gs : En → List Int} {gi : En → Int} {gp : En → PV} {cap : List (Option Nat)}
/-- over a list of numbers -/
theorem lc_L (h : tXp K G (fun ρ => Cs ρ ∧ (gs ρ).length ≤ 1000 ∧ ∀ n ∈ gs ρ, Cb ((capR (none :: cap) ρ).set 0 (.fr (.int n)))) (fun ρ => (gs ρ).map fun n => gp ((capR (none :: cap) ρ).set 0 (.fr (.int n)))) σ H Q) :
    tLC (none :: cap) (iList K (tXL K G Cs gs)) (gName 0) noTest (tX K G Cb gp) σ H Q := by
  obtain ⟨B, ρ, O, R, ⟨c1, c2, c3⟩, q⟩ := h
  refine ⟨B, ρ, O, R, c1, fun v H1 s1 a1 => ?_⟩
  obtain ⟨a, rfl, hq⟩ := a1
  have hq1 : SqL K H1 a ((gs ρ).map V.int) := .inl (same_rd mn_le hq)
  refine ⟨a, rfl, ⟨_, hq1⟩, fun D hD => ?_⟩
  refine lc_main (gs ρ) (fun _ v => (capS (none :: cap) σ).set 0 (some v)) (fun n => (capR (none :: cap) ρ).set 0 (.fr (.int n))) V.int (R.grow s1) hD c2 (fun i H hi s => ⟨_, .int (gs ρ)[i], s.seq hq1, by simp [hi]⟩) ?_ (fun H s => ⟨_, s.seq hq1, by simp⟩) (fun n H _ s R' => R'.set (p := .int n) rfl) ?_ c3 ?_
  · rintro i n x H H' en s ⟨rfl, hx⟩
    obtain ⟨n', rfl, hn⟩ := int_at (hx _ (s.seq hq1))
    rw [hn] at en
    cases en
    exact ⟨Same.refl _, fun k hk => hk⟩
  · intro n
    show ExtS (none :: capS cap σ) (some (.int n) :: capS cap σ)
    exact ext_refl _
  · intro H' ys s hd al
    exact q D ys H' (s1.trans s) (s1.free hD) hd al
/-- over enumerate -/
theorem lc_E (h : tXp K G (fun ρ => Cs ρ ∧ (gs ρ).length ≤ 1000 ∧ ∀ k : Nat, ∀ n, (gs ρ)[k]? = some n → Cb (((capR (none :: none :: cap) ρ).set 0 (.fr (.int k))).set 1 (.fr (.int n)))) (fun ρ => (gs ρ).mapIdx fun k n => gp (((capR (none :: none :: cap) ρ).set 0 (.fr (.int k))).set 1 (.fr (.int n)))) σ H Q) :
    tLC (none :: none :: cap) (iEnum K (tCons (tXL K G Cs gs) tNil)) (gTup K 2 (gCons (gName 0) (gCons (gName 1) gNil))) noTest (tX K G Cb gp) σ H Q := by
  obtain ⟨B, ρ, O, R, ⟨c1, c2, c3⟩, q⟩ := h
  refine ⟨B, ρ, O, R, c1, fun v H1 s1 a1 => ?_⟩
  obtain ⟨a, rfl, hq⟩ := a1
  have hq1 : SqL K H1 a ((gs ρ).map V.int) := .inl (same_rd mn_le hq)
  refine ⟨a, rfl, ⟨_, hq1⟩, fun D hD => ?_⟩
  have hz : ((gs ρ).zipIdx).length = (gs ρ).length := List.length_zipIdx
  refine lc_main ((gs ρ).zipIdx) (fun p _ => ((capS (none :: none :: cap) σ).set 0 (some (.int p.2))).set 1 (some (.int p.1))) (fun p => ((capR (none :: none :: cap) ρ).set 0 (.fr (.int p.2))).set 1 (.fr (.int p.1))) (fun p => .int p.1) (R.grow s1) hD (by rw [hz]; exact c2)
    (fun i H hi s => ⟨_, .int ((gs ρ)[i]'(by rw [hz] at hi; exact hi)), s.seq hq1, by rw [hz] at hi; simp [hi]⟩) ?_ (fun H s => ⟨_, s.seq hq1, by simp⟩) (fun p H _ s R' => (R'.set (p := .int p.2) rfl).set (p := .int p.1) rfl) ?_ ?_ ?_
  · rintro i ⟨n, k⟩ x H H' en s ⟨T, y, rfl, hT, rfl, hx⟩
    obtain ⟨n', rfl, hn⟩ := int_at (hx _ (s.seq hq1))
    rw [List.getElem?_zipIdx, hn] at en
    have en : (n', 0 + i) = (n, k) := Option.some.inj en
    cases en
    refine ⟨same_new hT _, fun kk hk => ⟨T, _, rfl, SqT.of upd_same, rfl, _, _, rfl, _, _, rfl, rfl, ?_⟩⟩
    rw [Nat.zero_add] at hk
    exact hk
  · rintro ⟨n, k⟩
    show ExtS (none :: none :: capS cap σ) (some (.int k) :: some (.int n) :: capS cap σ)
    exact ext_refl _
  · rintro ⟨n, k⟩ hm
    have := List.mem_zipIdx_iff_getElem?.mp hm
    exact c3 k n this
  · intro H' ys s hd al
    refine q D ys H' (s1.trans s) (s1.free hD) hd ?_
    have e : ((gs ρ).mapIdx fun k n => gp (((capR (none :: none :: cap) ρ).set 0 (.fr (.int k))).set 1 (.fr (.int n)))) = (gs ρ).zipIdx.map fun p => gp (((capR (none :: none :: cap) ρ).set 0 (.fr (.int p.2))).set 1 (.fr (.int p.1))) := by
      rw [List.mapIdx_eq_zipIdx_map]
    dsimp only
    rw [e]
    exact al
/-- over range -/
theorem lc_R {gn : En → Int} (h : tXp K G (fun ρ => Cs ρ ∧ (0 ≤ gn ρ ∧ gn ρ ≤ 1000) ∧ ∀ k : Nat, k < (gn ρ).toNat → Cb ((capR (none :: cap) ρ).set 0 (.fr (.int k)))) (fun ρ => (List.range (gn ρ).toNat).map fun (k : Nat) => gp ((capR (none :: cap) ρ).set 0 (.fr (.int k)))) σ H Q) :
    tLC (none :: cap) (iRng1 (tCons (tXI K G Cs gn) tNil)) (gName 0) noTest (tX K G Cb gp) σ H Q := by
  obtain ⟨B, ρ, O, R, ⟨c1, c2, c3⟩, q⟩ := h
  refine ⟨B, ρ, O, R, c1, fun v H1 s1 a1 => ?_⟩
  have a1 : v = .int (gn ρ) := a1
  subst a1
  have hz : (List.range (gn ρ).toNat).length = (gn ρ).toNat := List.length_range
  refine ⟨gn ρ, rfl, by omega, by omega, fun D hD => ?_⟩
  refine lc_main (List.range (gn ρ).toNat) (fun _ v => (capS (none :: cap) σ).set 0 (some v)) (fun (k : Nat) => (capR (none :: cap) ρ).set 0 (.fr (.int k))) (fun (k : Nat) => .int k) (R.grow s1) hD (by rw [hz]; omega) (fun i H hi s => by rw [hz] at hi; exact hi) ?_ (fun H s => by rw [hz]; exact Nat.le_refl _) (fun k H _ s R' => R'.set (p := .int k) rfl) ?_ ?_ ?_
  · rintro i k x H H' en s ⟨rfl, rfl⟩
    have hlt : i < (gn ρ).toNat := by
      have := (List.getElem?_eq_some_iff.mp en).1
      rw [hz] at this
      exact this
    rw [List.getElem?_range hlt] at en
    cases en
    refine ⟨Same.refl _, fun kk hk => ?_⟩
    have e : (0 : Int) + (i : Nat) = i := by omega
    show kk ((capS (none :: cap) σ).set 0 (some (.int (0 + (i : Nat))))) H'
    rw [e]
    exact hk
  · intro k
    show ExtS (none :: capS cap σ) (some (.int k) :: capS cap σ)
    exact ext_refl _
  · intro k hk
    exact c3 k (List.mem_range.mp hk)
  · intro H' ys s hd al
    exact q D ys H' (s1.trans s) (s1.free hD) hd al
/-- a list of numbers comes -/
theorem p_of_l {C : En → Prop} {α : Type} {src : En → List α} {gi : En → α → Int} (h : tXl K G C (fun ρ => (src ρ).map (gi ρ)) σ H Q) : tXp K G C (fun ρ => (src ρ).map fun x => .int (gi ρ x)) σ H Q := by
  obtain ⟨B, ρ, O, R, c, q⟩ := h
  refine ⟨B, ρ, O, R, c, fun a vs H' s n e al => q a H' s n ?_⟩
  rw [e, atL_ints al]
theorem p_of_li {C : En → Prop} {src : En → List Int} {gi : En → Nat → Int → Int} (h : tXl K G C (fun ρ => (src ρ).mapIdx (gi ρ)) σ H Q) : tXp K G C (fun ρ => (src ρ).mapIdx fun k x => .int (gi ρ k x)) σ H Q := by
  obtain ⟨B, ρ, O, R, c, q⟩ := h
  refine ⟨B, ρ, O, R, c, fun a vs H' s n e al => q a H' s n ?_⟩
  dsimp only at al ⊢
  rw [List.mapIdx_eq_zipIdx_map] at al
  rw [e, atL_ints (gi := fun p : Int × Nat => gi ρ p.2 p.1) al, List.mapIdx_eq_zipIdx_map]
end
section
variable {X : Cx} {G : Gx} {Er : ER} {N' : List Str} {sc : Scope} {cl : List (Str × Addr)} {cap : List (Option Nat)} {el tg src : Expr} {at' spos px : Pos} {Cs Cb : En → Prop} {gs : En → List Int} {gn gi : En → Int} {gp : En → PV} {i : Nat} {x : Str}
theorem xl_lcE {p pos' : Pos} {els : List Expr} {kk : Nat} {tp : Pos} (L : LcOk X N' sc cl (none :: none :: cap)) (hc : X.calm = true) (hgl : Gl X "enumerate") (hm : X.mg "enumerate" = none) (hi : PE X src (tXL X.K G Cs gs))
    (hg : ∀ s H fp, PG (cxComp X N' sc cl s H fp) (.Tuple els kk tp) (gTup X.K 2 (gCons (gName 0) (gCons (gName 1) gNil)))) (he : ∀ s H fp, PE (cxComp X N' sc cl s H fp) el (tXI X.K G Cb gi)) (hst : starEach [src] X.env = [(false, eval src X.env)] := by rfl)
    (hs : ∀ x, foldedSetIterable (.Call (.Name "enumerate" p) [src] [] pos') X.env x = pure x := by intro _; rfl) :
    PE X (.ListComp el [⟨.Tuple els kk tp, .Call (.Name "enumerate" p) [src] [] pos', [], 0⟩] sc at') (tXl X.K G (fun ρ => Cs ρ ∧ (gs ρ).length ≤ 1000 ∧ ∀ k : Nat, ∀ n, (gs ρ)[k]? = some n → Cb (((capR (none :: none :: cap) ρ).set 0 (.fr (.int k))).set 1 (.fr (.int n))))
      fun ρ => (gs ρ).mapIdx fun k n => gi (((capR (none :: none :: cap) ρ).set 0 (.fr (.int k))).set 1 (.fr (.int n)))) :=
  fun pins s σ H Q I h => pe_lc L hc (pi_enum hgl hm (pa_cons hi pa_nil hst) hst) hg (fun _ _ _ => pts_nil) he hs pins s σ H Q I (lc_E (p_of_li h))
theorem xl_lcR {p pos' : Pos} (L : LcOk X N' sc cl (none :: cap)) (hc : X.calm = true) (hgl : Gl X "range") (hm : X.mg "range" = none) (hi : PE X src (tXI X.K G Cs gn)) (hg : ∀ s H fp, PG (cxComp X N' sc cl s H fp) tg (gName 0)) (he : ∀ s H fp, PE (cxComp X N' sc cl s H fp) el (tXI X.K G Cb gi))
    (hst : starEach [src] X.env = [(false, eval src X.env)] := by rfl) (hs : ∀ x, foldedSetIterable (.Call (.Name "range" p) [src] [] pos') X.env x = pure x := by intro _; rfl) :
    PE X (.ListComp el [⟨tg, .Call (.Name "range" p) [src] [] pos', [], 0⟩] sc at') (tXl X.K G (fun ρ => Cs ρ ∧ (0 ≤ gn ρ ∧ gn ρ ≤ 1000) ∧ ∀ k : Nat, k < (gn ρ).toNat → Cb ((capR (none :: cap) ρ).set 0 (.fr (.int k)))) fun ρ => (List.range (gn ρ).toNat).map fun (k : Nat) => gi ((capR (none :: cap) ρ).set 0 (.fr (.int k)))) :=
  fun pins s σ H Q I h => pe_lc L hc (pi_range1 hgl hm (pa_cons hi pa_nil hst) hst) hg (fun _ _ _ => pts_nil) he hs pins s σ H Q I (lc_R (p_of_l h))
/-- x = [..], the machine's own way: a list of one's own -/
theorem own_of {t : TE} {st : Stmt} {C : En → Prop} {g : En → List Int} (h : PS X st (tAsg t (gName i))) (k : ∀ σ H Q, tXl X.K G C g σ H Q → t σ H Q) : PS X st (ts X.K G Er fun P ρ => C ρ ∧ ∀ ns, ns = g ρ → P.nx (ρ.set i (.ow (.ints ns)))) :=
  toS h fun B σ H ρ O P D R c w => k σ H _ ⟨B, ρ, O, R, c.1, fun a H1 s1 n1 e1 => w.nx _ H1 _ ⟨hide a O, R.new (p := .ints (g ρ)) s1 n1 e1 rfl⟩ (c.2 _ rfl)⟩
theorem fr_of {t : TE} {st : Stmt} {C : En → Prop} {g : En → List Int} (h : PS X st (tAsg t (gName i))) (k : ∀ σ H Q, tXl X.K G C g σ H Q → t σ H Q) : PS X st (ts X.K G Er fun P ρ => C ρ ∧ ∀ ns, ns = g ρ → P.nx (ρ.set i (.fr (.ints ns)))) :=
  toS h fun B σ H ρ O P D R c w => k σ H _ ⟨B, ρ, O, R, c.1, fun a H1 s1 n1 e1 => w.nx _ H1 _ ⟨O, (R.grow s1).set (p := .ints _) ⟨a, rfl, .inl (by
    rw [mn_of]
    · exact e1
    · cases z : O a with
      | false => rfl
      | true => exact absurd n1 (R.dom a z))⟩⟩ (c.2 _ rfl)⟩
theorem xst_lcL (hN : X.N.Nodup) (hi' : X.N[i]? = some x) (hx : X.env.scope.names.lookup x = some .local) (L : LcOk X N' sc cl (none :: cap)) (hc : X.calm = true) (hi : PE X src (tXL X.K G Cs gs)) (hg : ∀ s H fp, PG (cxComp X N' sc cl s H fp) tg (gName 0)) (he : ∀ s H fp, PE (cxComp X N' sc cl s H fp) el (tXI X.K G Cb gi))
    (hsw : swapsWith (.ListComp el [⟨tg, src, [], 0⟩] sc at') (some (.Name x px)) spos.line X.env = pure true) (hs : ∀ x, foldedSetIterable src X.env x = pure x := by intro _; rfl) :
    PS X (.Assign [.Name x px] (.ListComp el [⟨tg, src, [], 0⟩] sc at') spos) (ts X.K G Er fun P ρ => (Cs ρ ∧ (gs ρ).length ≤ 1000 ∧ ∀ n ∈ gs ρ, Cb ((capR (none :: cap) ρ).set 0 (.fr (.int n)))) ∧ ∀ ns, ns = ((gs ρ).map fun n => gi ((capR (none :: cap) ρ).set 0 (.fr (.int n)))) → P.nx (ρ.set i (.ow (.ints ns)))) :=
  own_of (ps_lc hN hi' hx L hc (pi_list hi) hg (fun _ _ _ => pts_nil) he hsw hs) fun σ H Q h => lc_L (p_of_l h)
theorem xst_lcEf {p pos' : Pos} {els : List Expr} {kk : Nat} {tp : Pos} (hN : X.N.Nodup) (hi' : X.N[i]? = some x) (hx : X.env.scope.names.lookup x = some .local) (L : LcOk X N' sc cl (none :: none :: cap)) (hc : X.calm = true) (hgl : Gl X "enumerate") (hm : X.mg "enumerate" = none) (hi : PE X src (tXL X.K G Cs gs))
    (hg : ∀ s H fp, PG (cxComp X N' sc cl s H fp) (.Tuple els kk tp) (gTup X.K 2 (gCons (gName 0) (gCons (gName 1) gNil)))) (he : ∀ s H fp, PE (cxComp X N' sc cl s H fp) el (tXI X.K G Cb gi))
    (hsw : swapsWith (.ListComp el [⟨.Tuple els kk tp, .Call (.Name "enumerate" p) [src] [] pos', [], 0⟩] sc at') (some (.Name x px)) spos.line X.env = pure true) (hst : starEach [src] X.env = [(false, eval src X.env)] := by rfl)
    (hs : ∀ x, foldedSetIterable (.Call (.Name "enumerate" p) [src] [] pos') X.env x = pure x := by intro _; rfl) :
    PS X (.Assign [.Name x px] (.ListComp el [⟨.Tuple els kk tp, .Call (.Name "enumerate" p) [src] [] pos', [], 0⟩] sc at') spos) (ts X.K G Er fun P ρ => (Cs ρ ∧ (gs ρ).length ≤ 1000 ∧ ∀ k : Nat, ∀ n, (gs ρ)[k]? = some n → Cb (((capR (none :: none :: cap) ρ).set 0 (.fr (.int k))).set 1 (.fr (.int n)))) ∧
      ∀ ns, ns = ((gs ρ).mapIdx fun k n => gi (((capR (none :: none :: cap) ρ).set 0 (.fr (.int k))).set 1 (.fr (.int n)))) → P.nx (ρ.set i (.fr (.ints ns)))) :=
  fr_of (ps_lc hN hi' hx L hc (pi_enum hgl hm (pa_cons hi pa_nil hst) hst) hg (fun _ _ _ => pts_nil) he hsw hs) fun σ H Q h => lc_E (p_of_li h)
end
/-- the slots, written out -/
theorem to_lit {k : En → Prop} {ρ ρ' : En} (h : ρ = ρ') (q : k ρ') : k ρ := by rw [h]; exact q
end L3

/-! ### isinstance, small built-ins, kinds over pure values -/
namespace L3
open PySem PySem.Spec PyProof.Rows L2
noncomputable def tyP : PV → Option Value
  | .int _ => some (.type "int")
  | .bl _ => some (.type "bool")
  | .non => some (.type "NoneType")
  | .str _ => some (.type "str")
  | .ints _ => some (.type "list")
  | .lst _ => some (.type "list")
  | .tup _ => some (.type "tuple")
  | _ => none
noncomputable def clsP : PV → Option Value
  | .ty n => some (.type n)
  | .cls a => some (.ref a)
  | _ => none
theorem At.ty {K : PySem.W.Frag} {G : Gx} {H : Hp} {p : PV} {v : V} {t : Value} (h : At K G H p v) (e : tyP p = some t) : TyOf K H v t := by
  cases p <;> first | cases e | skip
  · cases (show v = _ from h); exact .int _
  · cases (show v = _ from h); exact .bl _
  · cases (show v = _ from h); exact .non
  · cases (show v = _ from h); exact .str _
  · obtain ⟨a, rfl, r | ⟨o, r⟩⟩ := h
    · exact .lst r
    · exact .frz r
  · obtain ⟨a, vs, rfl, r | ⟨o, r⟩, _⟩ := h
    · exact .lst r
    · exact .frz r
  · obtain ⟨a, vs, rfl, r, _⟩ := h
    exact .tup r
theorem At.cls {K : PySem.W.Frag} {G : Gx} {H : Hp} {p : PV} {v : V} {t : Value} (h : At K G H p v) (e : clsP p = some t) : clsV v = some t := by
  cases p <;> first | cases e | skip
  · cases (show v = _ from h); rfl
  · cases (show v = _ from h); rfl
/-- isinstance(p, c) -/
noncomputable def instP (K : PySem.W.Frag) (p c : PV) : Bool := match tyP p, clsP c with
  | some t, some cv => PySem.W.kitOne K t cv == some true
  | _, _ => false
noncomputable def instOk (K : PySem.W.Frag) (p c : PV) : Prop := ∃ t cv b, tyP p = some t ∧ clsP c = some cv ∧ PySem.W.kitOne K t cv = some b
theorem instP_of {K : PySem.W.Frag} {p c : PV} {t cv : Value} {b : Bool} (h1 : tyP p = some t) (h2 : clsP c = some cv) (h : PySem.W.kitOne K t cv = some b) : instP K p c = b := by
  unfold instP
  rw [h1, h2]
  show (PySem.W.kitOne K t cv == some true) = b
  rw [h]
  cases b <;> rfl
theorem TyOf.up {K : PySem.W.Frag} {H H' : Hp} {v : V} {t : Value} (s : Same H H') (h : TyOf K H v t) : TyOf K H' v t := by
  cases h with
  | non => exact .non
  | bl x => exact .bl x
  | int x => exact .int x
  | str x => exact .str x
  | flt x => exact .flt x
  | lst e => exact .lst (s _ _ e)
  | frz e => exact .frz (s _ _ e)
  | tup e => exact .tup (s _ _ e)
  | dK e => exact .dK (s _ _ e)
  | dT e => exact .dT (s _ _ e)
  | ins e a b c d f => exact .ins (s _ _ e) a b c d f
section
variable {X : Cx} {G : Gx} {a b c e : Expr} {es : List Expr} {pos p px apos : Pos} {C Ca Cb Cc : En → Prop} {ga gc : En → PV} {gi gj : En → Int} {i j k n : Nat} {x m : Str}
theorem xe_isinst (hm : X.mg "isinstance" = none) (ha : PE X a (tX X.K G Ca ga)) (hc : PE X c (tX X.K G Cc gc)) (hg : Gl X "isinstance" := by rfl) (he : starEach [a, c] X.env = (false, eval a X.env) :: starEach [c] X.env := by rfl) (he2 : starEach [c] X.env = [(false, eval c X.env)] := by rfl) (hpl : (backTo pos (starEach [c] X.env)).any (·.1) = false := by rfl) :
    PE X (.Call (.Name "isinstance" p) [a, c] [] pos) (tXB X.K G (fun ρ => Ca ρ ∧ Cc ρ ∧ instOk X.K (ga ρ) (gc ρ)) fun ρ => instP X.K (ga ρ) (gc ρ) = true) :=
  toX (pe_callB call_isinst hg hm bt_isinstance (pa_cons ha (pa_cons hc pa_nil he2) he) (by decide) (by decide) he hpl) fun B σ H ρ O Q R cc q => ⟨B, ρ, O, R, cc.1, fun v H1 s1 a1 => ⟨B, ρ, O, R.grow s1, cc.2.1, fun u H2 s2 a2 => by
    obtain ⟨t, cv, b, e1, e2, e3⟩ := cc.2.2
    refine ⟨v, u, t, cv, b, rfl, a2.cls e2, TyOf.up (mn_le.trans s2) (a1.ty e1), e3, q _ H2 (s1.trans s2) ?_⟩
    have z : instP X.K (ga ρ) (gc ρ) = b := instP_of e1 e2 e3
    show V.bl b = V.bl (decide (instP X.K (ga ρ) (gc ρ) = true))
    rw [z, Bool.decide_eq_true]⟩⟩
theorem xn_max (hcm : X.calm = true) (hm : X.mg "max" = none) (ha : PE X a (tXI X.K G Ca gi)) (hb : PE X b (tXI X.K G Cb gj)) (hg : Gl X "max" := by rfl) (he : starEach [a, b] X.env = (false, eval a X.env) :: starEach [b] X.env := by rfl) (he2 : starEach [b] X.env = [(false, eval b X.env)] := by rfl) (hpl : (backTo pos (starEach [b] X.env)).any (·.1) = false := by rfl) :
    PE X (.Call (.Name "max" p) [a, b] [] pos) (tXI X.K G (fun ρ => Ca ρ ∧ Cb ρ) fun ρ => if gj ρ > gi ρ then gj ρ else gi ρ) :=
  toX (pe_callB (call_max2 hcm) hg hm bt_max (pa_cons ha (pa_cons hb pa_nil he2) he) (by decide) (by decide) he hpl) fun B σ H ρ O Q R c q => ⟨B, ρ, O, R, c.1, fun v H1 s1 a1 => ⟨B, ρ, O, R.grow s1, c.2, fun u H2 s2 a2 => by
    have a1 : v = .int (gi ρ) := a1
    have a2 : u = .int (gj ρ) := a2
    subst a1 a2
    exact ⟨_, _, rfl, q _ H2 (s1.trans s2) rfl⟩⟩⟩
/-! calls that tell a number, a truth -/
noncomputable abbrev spFI (K : PySem.W.Frag) (G : Gx) (pre : List PV → Prop) (F : List PV → Int) : Sp := spF K G pre fun as => .int (F as)
noncomputable abbrev spFB (K : PySem.W.Frag) (G : Gx) (pre : List PV → Prop) (F : List PV → Bool) : Sp := spF K G pre fun as => .bl (F as)
noncomputable abbrev spFL (K : PySem.W.Frag) (G : Gx) (pre : List PV → Prop) (F : List PV → List Int) : Sp := spF K G pre fun as => .ints (F as)
variable {ps : List Str} {pre : List PV → Prop} {gs : En → List PV}
theorem xcL {F : List PV → List Int} (o : Ok X.prog X.w X.K X.mg X.base j x ps (spFL X.K G pre F)) (hr : Room k X.A) (ha : PA X (e :: es) (tXs X.K G C gs)) (hj : j ≤ k := by decide) (hg : Gl X x := by rfl) (hdb : (x == ("__debug__" : Str)) = false := by decide)
    (he : starEach (e :: es) X.env = (false, eval e X.env) :: starEach es X.env := by rfl) (hpl : (backTo pos (starEach es X.env)).any (·.1) = false := by rfl) :
    PE X (.Call (.Name x p) (e :: es) [] pos) (tXL X.K G (fun ρ => C ρ ∧ pre (gs ρ)) fun ρ => F (gs ρ)) := xc o hr ha hj hg hdb he hpl
theorem xci {F : List PV → Int} (o : Ok X.prog X.w X.K X.mg X.base j x ps (spFI X.K G pre F)) (hr : Room k X.A) (ha : PA X (e :: es) (tXs X.K G C gs)) (hj : j ≤ k := by decide) (hg : Gl X x := by rfl) (hdb : (x == ("__debug__" : Str)) = false := by decide)
    (he : starEach (e :: es) X.env = (false, eval e X.env) :: starEach es X.env := by rfl) (hpl : (backTo pos (starEach es X.env)).any (·.1) = false := by rfl) :
    PE X (.Call (.Name x p) (e :: es) [] pos) (tXI X.K G (fun ρ => C ρ ∧ pre (gs ρ)) fun ρ => F (gs ρ)) := xc o hr ha hj hg hdb he hpl
theorem xcb {F : List PV → Bool} (o : Ok X.prog X.w X.K X.mg X.base j x ps (spFB X.K G pre F)) (hr : Room k X.A) (ha : PA X (e :: es) (tXs X.K G C gs)) (hj : j ≤ k := by decide) (hg : Gl X x := by rfl) (hdb : (x == ("__debug__" : Str)) = false := by decide)
    (he : starEach (e :: es) X.env = (false, eval e X.env) :: starEach es X.env := by rfl) (hpl : (backTo pos (starEach es X.env)).any (·.1) = false := by rfl) :
    PE X (.Call (.Name x p) (e :: es) [] pos) (tXB X.K G (fun ρ => C ρ ∧ pre (gs ρ)) fun ρ => F (gs ρ) = true) :=
  toX (xc o hr ha hj hg hdb he hpl) fun B σ H ρ O Q R c q => ⟨B, ρ, O, R, c, fun v H' s a => q v H' s (by dsimp only; rw [Bool.decide_eq_true]; exact a)⟩
/-! kinds: the sort 0 of own objects -/
noncomputable def getZ (ρ : En) (i : Nat) : Int := match ρ[i]? with
  | some (.fr (.ob 0 z)) => z
  | _ => 0
noncomputable def isK (ρ : En) (i : Nat) : Prop := ρ[i]? = some (.fr (.ob 0 (getZ ρ i)))
theorem xn_kmeth {KA : Hp → Addr → Int → Prop} {preK : Int → List Int → Prop} {F : Int → List Int → Int} {pl : Sem Bool} (i : Nat) (M : KM X.prog X.w X.K X.mg X.base j KA m n preK F) (hr : Room k X.A) (ha : PA X (e :: es) (tXs X.K G C gs)) (hn : ∀ ρ, (gs ρ).length = n := by intro _; rfl) (hG : ∀ H a z, G.ob 0 H a z → KA H a z := by first | exact fun _ _ _ h => h.2 | exact fun _ _ _ h => h.elim (fun z => z.2) fun z => absurd z.1 (by decide)) (hGm : ∀ {H H' : Hp} {a : Addr} {z : Int}, KA H a z → Same H H' → KA H' a z := by first | exact fun h s => KAt.same h s | exact fun h s => h.same s) (hj : j ≤ k := by decide)
    (hN : X.N[i]? = some x := by rfl) (hv : Vis X.env.scope x := by first | exact Or.inl rfl | exact Or.inr (Or.inl rfl) | exact Or.inr (Or.inr rfl)) (hd : (x == ("__debug__" : Str)) = false := by decide) (hcd : (x == ("__classdict__" : Str)) = false := by decide)
    (hst : starEach (e :: es) X.env = (false, eval e X.env) :: starEach es X.env := by rfl) (hpl : (backTo pos (starEach es X.env)).any (·.1) = false := by rfl)
    (ht : eval (.Call (.Attribute (.Name x px) m apos) (e :: es) [] pos) X.env = (do
      let ov ← eval (.Name x px) X.env
      standAt apos.atName
      let (f, first) ← holding [ov] (getMethod ov m pl)
      callWith pos f first (backTo pos (starEach (e :: es) X.env)) (backToKw pos (keywordEach [] X.env))) := by rfl) :
    PE X (.Call (.Attribute (.Name x px) m apos) (e :: es) [] pos) (tXI X.K G (fun ρ => isK ρ i ∧ C ρ ∧ areI (gs ρ) ∧ preK (getZ ρ i) (allI (gs ρ))) fun ρ => F (getZ ρ i) (allI (gs ρ))) := by
  intro pins s σ H Q I h
  obtain ⟨B, ρ, O, R, ⟨c0, c1, c2, c3⟩, q⟩ := h
  obtain ⟨v, e1, a, rfl, ka⟩ := R.fr i _ c0
  have ka1 : KA H a (getZ ρ i) := hGm (hG _ _ _ ka) mn_le
  obtain ⟨Cl, dx, fs, ps, f1, f2, M'⟩ := M.ex H a _ ka1
  obtain ⟨f, fd, FF, bb, mm, cc⟩ := M'.ex
  refine pe_meth (pe_var hN hv hd hcd) cc mm (FF.mono hj) hr bb .nil pass0 ha hst hpl ht pins s σ H Q I ⟨_, e1, a, dx, fs, rfl, f1, f2, B, ρ, O, R, c1, fun vs H1 s1 a1 => ?_⟩
  have ev := a1.ints c2
  have el : (allI (gs ρ)).length = n := by rw [← hn ρ, a1.length, ev, List.length_map]
  exact ⟨allI (gs ρ), el, by rw [List.append_nil, ev], hGm ka1 s1, c3, q _ H1 s1 rfl⟩
end
end L3

/-! ### promises of the hand layer, as promises over pure values -/
namespace L3
open PySem PySem.Spec PyProof.Rows L2
theorem areI_len : ∀ {as : List PV}, areI as → (allI as).length = as.length
  | [], _ => rfl
  | p :: r, h => by
    cases p <;> first | exact h.elim | skip
    show (allI r).length + 1 = r.length + 1
    rw [areI_len (as := r) h]
section
variable {P : Program} {w : World} {K : PySem.W.Frag} {mg : Str → Option Value} {base : Heap} {G : Gx} {k n : Nat} {x : Str} {ps : List Str}
theorem liftI {pre : List Int → Prop} {F : List Int → Int} (o : Ok P w K mg base k x ps (spI n pre F)) : Ok P w K mg base k x ps (spFI K G (fun as => areI as ∧ as.length = n ∧ pre (allI as)) fun as => F (allI as)) :=
  o.imp fun vs H Q E ⟨as, O, _, al, ⟨h1, h2, h3⟩, q⟩ => ⟨allI as, by rw [areI_len h1, h2], al.ints h1, h3, q _ H (Same.refl H) rfl⟩
theorem liftB {pre : List Int → Prop} {F : List Int → Bool} (o : Ok P w K mg base k x ps (spB n pre F)) : Ok P w K mg base k x ps (spFB K G (fun as => areI as ∧ as.length = n ∧ pre (allI as)) fun as => F (allI as)) :=
  o.imp fun vs H Q E ⟨as, O, _, al, ⟨h1, h2, h3⟩, q⟩ => ⟨allI as, by rw [areI_len h1, h2], al.ints h1, h3, q _ H (Same.refl H) rfl⟩
/-- the script, then numbers -/
noncomputable def scrI : List PV → List Int
  | .scr ns :: _ => ns
  | _ => []
noncomputable def preS (n : Nat) (pre : List Int → List Int → Prop) : List PV → Prop
  | .scr ns :: r => areI r ∧ r.length = n ∧ pre ns (allI r)
  | _ => False
theorem liftS {pre : List Int → List Int → Prop} {F : List Int → List Int → Int} (o : Ok P w K mg base k x ps (spS K n pre F)) : Ok P w K mg base k x ps (spFI K G (preS n pre) fun as => F (scrI as) (allI as.tail)) :=
  o.imp fun vs H Q E ⟨as, O, _, al, hp, q⟩ => by
    match as, hp, al, q with
    | .scr ns :: r, ⟨h1, h2, h3⟩, al, q =>
      obtain ⟨v, t, rfl, ⟨a, rfl, hs⟩, al2⟩ := al
      exact ⟨a, ns, allI r, by rw [areI_len h1, h2], by rw [al2.ints h1], mn_le.seq hs, h3, q _ H (Same.refl H) rfl⟩
/-- the law's own def: True comes of the script -/
theorem lawF {x : Str} {st : Stmt} {N : List Str} {f : Addr} {fd : FuncData} {y : Str} (F : Fun K x x st f fd) (S : FnScope N [y] (defScope st))
    (hbody : ∀ (cdv : Value) (A : Around) (outer : List Env) (s : Shared) (H : Hp) (E : XK), Room k (A.deeper (envOfC x (defScope st) s.heap.objs.size f cdv)) →
      ∃ fs, PSs (cxOf CX0 P w K mg base N x (defScope st) f cdv A outer s H E).nox (defBody st) (ts K G ER0 fs) ∧ ∀ ns : List Int, ns.length ≤ 63 → fs { nx := fun _ => False, rt := fun p => p = .bl true } (startR N [.scr ns])) : FnOk P w K mg base CX0 (k + 1) f fd [y] (spLaw K) := by
  refine F.ok S (fun vs H Q E h => ?_) fun cdv A outer s H vs Q E hr h => ?_
  · obtain ⟨a, ns, rfl, _⟩ := h
    rfl
  obtain ⟨a, ns, rfl, hS, hl, q⟩ := h
  obtain ⟨fs, b, c⟩ := hbody cdv A outer s H E hr
  have al : AtL K G (mn H fun _ => false) [.scr ns] [.ref a] := ⟨_, _, rfl, ⟨a, rfl, by
    have e : mn H (fun _ => false) = H := by funext b; exact mn_of rfl
    rw [e]; exact hS⟩, rfl⟩
  refine ⟨_, b, ⟨H, fun _ => false⟩, startR N [.scr ns], _, ⟨_, rep_start (fun _ z => by cases z) al⟩, c ns hl, ⟨fun _ _ _ _ h => h.elim, fun v H' p s' a' h => ?_, fun _ _ _ _ _ _ h => h.elim, fun _ _ _ _ _ h => h.elim, fun _ _ _ _ h => h, fun _ _ _ _ h => h, fun _ _ _ h => h⟩⟩
  have h : p = .bl true := h
  subst h
  have a' : v = .bl true := a'
  subst a'
  exact q H'
end
end L3

/-! ### x[k] op= e over a list of one's own -/
namespace L3
open PySem PySem.Spec PyProof.Rows L2
section
variable {X : Cx} {G : Gx} {Er : ER} {b e : Expr} {px ps pos : Pos} {C Cb : En → Prop} {g gb : En → Int}
end
end L3

/-! ### slices of lists of numbers; sizes of numbers -/
namespace L3
open PySem PyProof.Rows L2 FM
theorem cutI_len (xs : List Int) (lo hi : Option Int) : (cutI xs lo hi).length ≤ xs.length := by
  unfold cutI
  rw [List.length_take, List.length_drop]
  omega
theorem cutI_from (xs : List Int) (a : Nat) : cutI xs (some (a : Int)) none = xs.drop a := by
  unfold cutI
  rw [HT.sIx_nat, HT.sIx_none]
  by_cases h : a ≤ xs.length
  · rw [Nat.min_eq_left h, List.take_of_length_le (by rw [List.length_drop]; omega)]
  · rw [Nat.min_eq_right (by omega), List.drop_eq_nil_of_le (Nat.le_refl _), List.drop_eq_nil_of_le (by omega), List.take_nil]
theorem cutI_to (xs : List Int) (b : Nat) : cutI xs none (some (b : Int)) = xs.take b := by
  unfold cutI
  rw [HT.sIx_nat, HT.sIx_none, List.drop_zero, Nat.sub_zero]
  by_cases h : b ≤ xs.length
  · rw [Nat.min_eq_left h]
  · rw [Nat.min_eq_right (by omega), List.take_of_length_le (Nat.le_refl _), List.take_of_length_le (by omega)]
theorem cutI_mid (xs : List Int) (a b : Nat) : cutI xs (some (a : Int)) (some (b : Int)) = (xs.drop a).take (b - a) := by
  unfold cutI
  rw [HT.sIx_nat, HT.sIx_nat]
  by_cases h : a ≤ xs.length
  · rw [Nat.min_eq_left h]
    by_cases h2 : b ≤ xs.length
    · rw [Nat.min_eq_left h2]
    · rw [Nat.min_eq_right (by omega), List.take_of_length_le (by rw [List.length_drop]; omega), List.take_of_length_le (by rw [List.length_drop]; omega)]
  · rw [List.drop_eq_nil_of_le (show xs.length ≤ min a xs.length by omega), List.drop_eq_nil_of_le (show xs.length ≤ a by omega), List.take_nil, List.take_nil]
end L3

/-! ### slices with a step -/
namespace L2
open PySem PySem.Spec PyProof.Rows
section
variable {X : Cx} {e st : Expr} {te : TE} {lo hi : Option Expr} {tl th tt : TO} {pos p2 : Pos}
end
end L2
namespace L3
open PySem PySem.Spec PyProof.Rows L2
section
variable {X : Cx} {G : Gx} {a : Expr} {pos p2 : Pos} {C : En → Prop}
end
end L3

/-! ### polynomials by their numbers: sums, products -/
namespace FM
open L2
theorem getD_ge {xs : List Int} {n : Nat} (h : xs.length ≤ n) : xs.getD n 0 = 0 := by rw [List.getD_eq_getElem?_getD, List.getElem?_eq_none h]; rfl
theorem getD_lt {xs : List Int} {n : Nat} (h : n < xs.length) : xs.getD n 0 = xs[n] := by rw [List.getD_eq_getElem?_getD, List.getElem?_eq_getElem h]; rfl
theorem getD_at' {xs : List Int} {n : Nat} {x : Int} (h : xs[n]? = some x) : xs.getD n 0 = x := by rw [List.getD_eq_getElem?_getD, h]; rfl
theorem getD_mem {xs : List Int} {n : Nat} (h : n < xs.length) : xs.getD n 0 ∈ xs := by rw [getD_lt h]; exact List.getElem_mem h
theorem getD_map (f : Int → Int) (h0 : f 0 = 0) (xs : List Int) (n : Nat) : (xs.map f).getD n 0 = f (xs.getD n 0) := by
  by_cases h : n < xs.length
  · rw [getD_lt (by rw [List.length_map]; exact h), List.getElem_map, getD_lt h]
  · rw [getD_ge (by rw [List.length_map]; omega), getD_ge (by omega), h0]
theorem pl_0 (z : Int) : pl z 0 = 0 := by
  unfold pl
  split
  · rfl
  · exact Int.zero_emod z
theorem snoc_get (xs : List Int) (x : Int) (n : Nat) : (xs ++ [x]).getD n 0 = if n = xs.length then x else xs.getD n 0 := by
  by_cases h : n < xs.length
  · rw [getD_lt (by rw [List.length_append]; omega), List.getElem_append_left h, if_neg (by omega), getD_lt h]
  · by_cases h2 : n = xs.length
    · subst h2
      rw [if_pos rfl, getD_lt (by rw [List.length_append, List.length_singleton]; omega), List.getElem_append_right (Nat.le_refl _)]
      simp
    · rw [if_neg h2, getD_ge (by rw [List.length_append, List.length_singleton]; omega), getD_ge (by omega)]
theorem snoc_or (xs : List Int) : xs = [] ∨ ∃ ys x, xs = ys ++ [x] := by
  by_cases h : xs = []
  · exact .inl h
  · exact .inr ⟨_, _, (List.dropLast_concat_getLast h).symm⟩
theorem trimZ_get : ∀ (k : Nat) (xs : List Int), xs.length = k → ∀ n, (trimZ xs).getD n 0 = xs.getD n 0
  | 0, xs, h, n => by
    have : xs = [] := List.length_eq_zero_iff.mp h
    subst this
    rfl
  | k + 1, xs, h, n => by
    rcases snoc_or xs with rfl | ⟨ys, x, rfl⟩
    · rfl
    · by_cases hx : x = 0
      · subst hx
        have hl : ys.length = k := by rw [List.length_append, List.length_singleton] at h; omega
        rw [trimZ_zero, trimZ_get k ys hl n, snoc_get]
        by_cases h2 : n = ys.length
        · rw [if_pos h2, getD_ge (by omega)]
        · rw [if_neg h2]
      · rw [trimZ_ne _ hx]
theorem trim_get (xs : List Int) (n : Nat) : (trimZ xs).getD n 0 = xs.getD n 0 := trimZ_get _ xs rfl n
/-- in form: no nought at the end -/
noncomputable def InForm (xs : List Int) : Prop := xs ≠ [] → xs.getD (xs.length - 1) 0 ≠ 0
theorem trimZ_form : ∀ (k : Nat) (xs : List Int), xs.length = k → InForm (trimZ xs)
  | 0, xs, h => by
    have : xs = [] := List.length_eq_zero_iff.mp h
    subst this
    intro h; exact absurd rfl h
  | k + 1, xs, h => by
    rcases snoc_or xs with rfl | ⟨ys, x, rfl⟩
    · intro h; exact absurd rfl h
    · by_cases hx : x = 0
      · subst hx
        rw [trimZ_zero]
        exact trimZ_form k ys (by rw [List.length_append, List.length_singleton] at h; omega)
      · rw [trimZ_ne _ hx]
        intro _
        rw [snoc_get, if_pos (by rw [List.length_append, List.length_singleton]; omega)]
        exact hx
theorem trim_form (xs : List Int) : InForm (trimZ xs) := trimZ_form _ xs rfl
theorem form_ext {a b : List Int} (ha : InForm a) (hb : InForm b) (h : ∀ n, a.getD n 0 = b.getD n 0) : a = b := by
  have le : ∀ {a b : List Int}, InForm a → (∀ n, a.getD n 0 = b.getD n 0) → a.length ≤ b.length := fun {a b} ha h => by
    by_cases c : a.length ≤ b.length
    · exact c
    · have hne : a ≠ [] := fun z => by subst z; exact c (Nat.zero_le _)
      exact absurd (by rw [h, getD_ge (by omega)]) (ha hne)
  have hl : a.length = b.length := Nat.le_antisymm (le ha h) (le hb fun n => (h n).symm)
  refine List.ext_getElem hl fun i h1 h2 => ?_
  have := h i
  rw [getD_lt h1, getD_lt h2] at this
  exact this
theorem trim_ext {a b : List Int} (h : ∀ n, a.getD n 0 = b.getD n 0) : trimZ a = trimZ b :=
  form_ext (trim_form a) (trim_form b) fun n => by rw [trim_get, trim_get, h]
theorem trim_pl {z : Int} {a b : List Int} (h : ∀ n, pl z (a.getD n 0) = pl z (b.getD n 0)) : trimZ (a.map (pl z)) = trimZ (b.map (pl z)) :=
  trim_ext fun n => by rw [getD_map _ (pl_0 z), getD_map _ (pl_0 z), h]
/-- brought to the kind, noughts cut -/
noncomputable def Tz (z : Int) (f : List Int) : List Int := trimZ (f.map (pl z))
theorem Tz_get (z : Int) (f : List Int) (n : Nat) : (Tz z f).getD n 0 = pl z (f.getD n 0) := by unfold Tz; rw [trim_get, getD_map _ (pl_0 z)]
theorem Tz_len (z : Int) (f : List Int) : (Tz z f).length ≤ f.length := by
  unfold Tz
  refine Nat.le_trans (trimZ_len _) ?_
  rw [List.length_map]
  exact Nat.le_refl _
theorem mem_getD {xs : List Int} {m : Int} (h : m ∈ xs) : ∃ n, n < xs.length ∧ xs.getD n 0 = m := by
  obtain ⟨n, h1, h2⟩ := List.getElem_of_mem h
  exact ⟨n, h1, by rw [getD_lt h1, h2]⟩
theorem Tz_mem {z : Int} {f : List Int} {m : Int} (h : m ∈ Tz z f) : ∃ k ∈ f, m = pl z k := by
  obtain ⟨n, h1, h2⟩ := mem_getD h
  rw [Tz_get] at h2
  exact ⟨f.getD n 0, getD_mem (Nat.lt_of_lt_of_le h1 (Tz_len z f)), h2.symm⟩
/-! sums -/
noncomputable def sm : Nat → (Nat → Int) → Int
  | 0, _ => 0
  | n + 1, f => sm n f + f n
theorem sm_congr {f g : Nat → Int} : ∀ {n : Nat}, (∀ i, i < n → f i = g i) → sm n f = sm n g
  | 0, _ => rfl
  | n + 1, h => by
    show sm n f + f n = sm n g + g n
    rw [sm_congr fun i hi => h i (by omega), h n (by omega)]
theorem sm_zero {f : Nat → Int} : ∀ {n : Nat}, (∀ i, i < n → f i = 0) → sm n f = 0
  | 0, _ => rfl
  | n + 1, h => by
    show sm n f + f n = 0
    rw [sm_zero fun i hi => h i (by omega), h n (by omega)]
    rfl
theorem sm_more {f : Nat → Int} {n : Nat} : ∀ {m : Nat}, n ≤ m → (∀ i, n ≤ i → i < m → f i = 0) → sm m f = sm n f
  | 0, h, _ => by
    have : n = 0 := by omega
    subst this; rfl
  | m + 1, h, z => by
    by_cases c : n = m + 1
    · subst c; rfl
    · show sm m f + f m = sm n f
      rw [z m (by omega) (by omega), Int.add_zero]
      exact sm_more (by omega) fun i h1 h2 => z i h1 (by omega)
theorem sm_head (f : Nat → Int) : ∀ n, sm (n + 1) f = f 0 + sm n fun i => f (i + 1)
  | 0 => by show 0 + f 0 = f 0 + 0; omega
  | n + 1 => by
    show sm (n + 1) f + f (n + 1) = f 0 + (sm n (fun i => f (i + 1)) + f (n + 1))
    rw [sm_head f n]
    omega
theorem sm_rev (f : Nat → Int) : ∀ n, sm (n + 1) f = sm (n + 1) fun i => f (n - i)
  | 0 => rfl
  | n + 1 => by
    rw [sm_head (fun i => f (n + 1 - i)) (n + 1)]
    show sm (n + 1) f + f (n + 1) = f (n + 1 - 0) + sm (n + 1) fun i => f (n + 1 - (i + 1))
    rw [sm_rev f n, Nat.sub_zero]
    have : sm (n + 1) (fun i => f (n - i)) = sm (n + 1) fun i => f (n + 1 - (i + 1)) := sm_congr fun i _ => by rw [Nat.add_sub_add_right]
    omega
theorem sm_abs {f : Nat → Int} {M : Nat} : ∀ {n : Nat}, (∀ i, i < n → (f i).natAbs ≤ M) → (sm n f).natAbs ≤ n * M
  | 0, _ => by simp [sm]
  | n + 1, h => by
    have h1 := sm_abs (n := n) fun i hi => h i (by omega)
    have h2 := h n (by omega)
    have h3 := Int.natAbs_add_le (sm n f) (f n)
    show (sm n f + f n).natAbs ≤ (n + 1) * M
    rw [Nat.succ_mul]
    omega
theorem pl_sm {z : Int} {f g : Nat → Int} : ∀ {n : Nat}, (∀ i, i < n → pl z (f i) = pl z (g i)) → pl z (sm n f) = pl z (sm n g)
  | 0, _ => rfl
  | n + 1, h => by
    show pl z (sm n f + f n) = pl z (sm n g + g n)
    rw [← pl_add, ← pl_add', pl_sm fun i hi => h i (by omega), h n (by omega), pl_add, pl_add']
/-! products -/
/-- the number at x^n of the product -/
noncomputable def cm (f g : List Int) (n : Nat) : Int := sm (n + 1) fun i => f.getD i 0 * g.getD (n - i) 0
theorem cm_comm (f g : List Int) (n : Nat) : cm f g n = cm g f n := by
  unfold cm
  rw [sm_rev]
  refine sm_congr fun i hi => ?_
  rw [Int.mul_comm, show n - (n - i) = i by omega]
theorem cm_pl {z : Int} {f g f' g' : List Int} (hf : ∀ n, pl z (f.getD n 0) = pl z (f'.getD n 0)) (hg : ∀ n, pl z (g.getD n 0) = pl z (g'.getD n 0)) (n : Nat) : pl z (cm f g n) = pl z (cm f' g' n) :=
  pl_sm fun i _ => by rw [← pl_mul, ← pl_mul', hf, hg, pl_mul, pl_mul']
/-- the sum over the first numbers of f alone -/
noncomputable def cpart (f g : List Int) (n i : Nat) : Int := sm i fun j => if j ≤ n then f.getD j 0 * g.getD (n - j) 0 else 0
theorem cpart_all (f g : List Int) (n : Nat) {i : Nat} (h : f.length ≤ i) : cpart f g n i = cm f g n := by
  have e : cm f g n = cpart f g n (n + 1) := sm_congr fun j hj => by rw [if_pos (by omega)]
  rw [e]
  unfold cpart
  rcases Nat.le_total i (n + 1) with c | c
  · refine (sm_more c fun j h1 h2 => ?_).symm
    rw [getD_ge (show f.length ≤ j by omega), Int.zero_mul]
    split <;> rfl
  · refine sm_more c fun j h1 h2 => ?_
    rw [if_neg (by omega)]
theorem cm_abs {f g : List Int} {A B : Nat} (hf : ∀ m ∈ f, m.natAbs ≤ A) (hg : ∀ m ∈ g, m.natAbs ≤ B) (n : Nat) : (cm f g n).natAbs ≤ g.length * (B * A) := by
  rw [cm_comm, ← cpart_all g f n (Nat.le_refl _)]
  refine sm_abs fun i hi => ?_
  split
  · rw [Int.natAbs_mul]
    refine Nat.mul_le_mul (hg _ (getD_mem hi)) ?_
    by_cases c : n - i < f.length
    · exact hf _ (getD_mem c)
    · rw [getD_ge (by omega)]; exact Nat.zero_le _
  · exact Nat.zero_le _
theorem cm_ge {f g : List Int} {n : Nat} (h : f.length + g.length ≤ n + 1) : cm f g n = 0 := by
  unfold cm
  refine sm_zero fun i hi => ?_
  by_cases c : i < f.length
  · rw [getD_ge (show g.length ≤ n - i by omega), Int.mul_zero]
  · rw [getD_ge (show f.length ≤ i by omega), Int.zero_mul]
/-- the product as a list -/
noncomputable def convL (f g : List Int) : List Int := (List.range (f.length + g.length)).map (cm f g)
theorem convL_get (f g : List Int) (n : Nat) : (convL f g).getD n 0 = cm f g n := by
  unfold convL
  by_cases h : n < f.length + g.length
  · rw [getD_lt (by rw [List.length_map, List.length_range]; exact h), List.getElem_map, List.getElem_range]
  · rw [getD_ge (by rw [List.length_map, List.length_range]; omega), cm_ge (by omega)]
/-- a list by its numbers -/
theorem list_ext {a b : List Int} (hl : a.length = b.length) (h : ∀ n, a.getD n 0 = b.getD n 0) : a = b := by
  refine List.ext_getElem hl fun i h1 h2 => ?_
  have := h i
  rw [getD_lt h1, getD_lt h2] at this
  exact this
/-- a row while the product is reckoned: i rows done, k places of the next -/
noncomputable def RowAt (f g : List Int) (i k : Nat) (row : List Int) : Prop := row.length = f.length + g.length ∧ ∀ n, row.getD n 0 = cpart f g n i + if i ≤ n ∧ n - i < k then f.getD i 0 * g.getD (n - i) 0 else 0
theorem row_start (f g : List Int) : RowAt f g 0 0 (List.replicate (f.length + g.length) 0) := by
  refine ⟨List.length_replicate, fun n => ?_⟩
  rw [if_neg (by omega)]
  show _ = (0 : Int) + 0
  by_cases h : n < f.length + g.length
  · rw [getD_lt (by rw [List.length_replicate]; exact h), List.getElem_replicate]; rfl
  · rw [getD_ge (by rw [List.length_replicate]; omega)]; rfl
theorem set_get (row : List Int) (j : Nat) (x : Int) (n : Nat) (h : j < row.length) : (row.set j x).getD n 0 = if n = j then x else row.getD n 0 := by
  by_cases c : n = j
  · subst c
    rw [if_pos rfl, getD_lt (by rw [List.length_set]; exact h), List.getElem_set_self]
  · rw [if_neg c, List.getD_eq_getElem?_getD, List.getElem?_set_ne (by omega), ← List.getD_eq_getElem?_getD]
theorem row_step {f g row : List Int} {i k : Nat} (h : RowAt f g i k row) (hi : i < f.length) (hk : k < g.length) : RowAt f g i (k + 1) (row.set (i + k) (row.getD (i + k) 0 + f.getD i 0 * g.getD k 0)) := by
  obtain ⟨hl, hr⟩ := h
  refine ⟨by rw [List.length_set]; exact hl, fun n => ?_⟩
  rw [set_get _ _ _ _ (by omega)]
  by_cases c : n = i + k
  · subst c
    rw [if_pos rfl, hr, if_neg (by omega), if_pos (by omega), show i + k - i = k by omega]
    omega
  · rw [if_neg c, hr]
    by_cases d : i ≤ n ∧ n - i < k
    · rw [if_pos d, if_pos (by omega)]
    · rw [if_neg d, if_neg (by omega)]
theorem row_next {f g row : List Int} {i : Nat} (h : RowAt f g i g.length row) : RowAt f g (i + 1) 0 row := by
  obtain ⟨hl, hr⟩ := h
  refine ⟨hl, fun n => ?_⟩
  rw [hr, if_neg (show ¬ (i + 1 ≤ n ∧ n - (i + 1) < 0) by omega)]
  show _ = cpart f g n i + (if i ≤ n then f.getD i 0 * g.getD (n - i) 0 else 0) + 0
  by_cases c : i ≤ n
  · rw [if_pos c]
    by_cases d : n - i < g.length
    · rw [if_pos ⟨c, d⟩]; omega
    · rw [if_neg (by omega), getD_ge (show g.length ≤ n - i by omega), Int.mul_zero]; omega
  · rw [if_neg (by omega), if_neg c]; omega
theorem row_end {f g row : List Int} (h : RowAt f g f.length 0 row) : row = convL f g := by
  obtain ⟨hl, hr⟩ := h
  refine list_ext (by rw [hl]; unfold convL; rw [List.length_map, List.length_range]) fun n => ?_
  rw [hr, if_neg (by omega), convL_get, cpart_all f g n (Nat.le_refl _)]
  omega
end FM

/-! ### arguments that are only read; a list of two lists of one's own -/
namespace L3
open PySem PySem.Spec PyProof.Rows L2
theorem mn_no (H : Hp) : mn H (fun _ => false) = H := by funext b; exact mn_of rfl
noncomputable def tXr (K : PySem.W.Frag) (G : Gx) (C : En → Prop) (g : En → PV) : TE := fun σ H Q => ∃ B ρ O, Rep K G B σ H ρ O ∧ C ρ ∧ ∀ v H', Same H H' → At K G H' (g ρ) v → Q v H'
noncomputable def tXrs (K : PySem.W.Frag) (G : Gx) (C : En → Prop) (g : En → List PV) : TA := fun σ H Q => ∃ B ρ O, Rep K G B σ H ρ O ∧ C ρ ∧ ∀ vs H', Same H H' → AtL K G H' (g ρ) vs → Q vs H'
noncomputable def get2 (ρ : En) (i k : Nat) : List Int := match ρ[i]? with
  | some (.o2 xs ys) => if k = 0 then xs else ys
  | _ => []
noncomputable def is2 (ρ : En) (i : Nat) : Prop := ρ[i]? = some (.o2 (get2 ρ i 0) (get2 ρ i 1))
section
variable {X : Cx} {G : Gx} {Er : ER} {a b c e : Expr} {es : List Expr} {pos p px ps pa pc : Pos} {C Ca Cb : En → Prop} {g : En → PV} {gs : En → List PV} {gi : En → Int} {i j k : Nat} {x : Str} {pl : List Str} {pre : List PV → Prop}
theorem rdX (h : PE X e (tX X.K G C g)) : PE X e (tXr X.K G C g) := fun pins s σ H Q I ⟨B, ρ, O, R, c, q⟩ => h pins s σ H Q I ⟨B, ρ, O, R, c, fun v H' s a => q v H' s (At.mono mn_le _ _ a)⟩
theorem rd2 (i k : Nat) (hk : k = 0 ∨ k = 1) {x : Str} {n : Nat} (hN : X.N[i]? = some x := by rfl) (hv : Vis X.env.scope x := by first | exact Or.inl rfl | exact Or.inr (Or.inl rfl) | exact Or.inr (Or.inr rfl))
    (hd : (x == ("__debug__" : Str)) = false := by decide) (hcd : (x == ("__classdict__" : Str)) = false := by decide) (hs : PlainIx (.Constant (.int (k : Int)) n p) := by intro _ _; rfl) :
    PE X (.Subscript (.Name x px) (.Constant (.int (k : Int)) n p) pos) (tXr X.K G (fun ρ => is2 ρ i) fun ρ => .ints (get2 ρ i k)) :=
  fun pins s σ H Q I ⟨B, ρ, O, R, c, q⟩ => pe_ix ix_list (pe_var hN hv hd hcd) pe_int hs pins s σ H Q I (by
    obtain ⟨D, a, b, z⟩ := R.o2 i _ _ c
    rcases hk with rfl | rfl
    · exact ⟨_, z.at_, D, _, _, _, rfl, rfl, SqL.of z.hD, rfl, q _ H (Same.refl H) ⟨a, rfl, .inl z.ha⟩⟩
    · exact ⟨_, z.at_, D, _, _, _, rfl, rfl, SqL.of z.hD, rfl, q _ H (Same.refl H) ⟨b, rfl, .inl z.hb⟩⟩)
theorem ra_nil : PA X [] (tXrs X.K G (fun _ => True) fun _ => []) := fun pos pins s σ H Q I ⟨_, _, _, _, _, q⟩ => pa_nil pos pins s σ H Q I (q [] H (Same.refl H) rfl)
theorem ra_cons (ha : PE X e (tXr X.K G Ca g)) (hr : PA X es (tXrs X.K G Cb gs)) (hs : starEach (e :: es) X.env = (false, eval e X.env) :: starEach es X.env := by rfl) : PA X (e :: es) (tXrs X.K G (fun ρ => Ca ρ ∧ Cb ρ) fun ρ => g ρ :: gs ρ) :=
  fun pos pins s σ H Q I ⟨B, ρ, O, R, c, q⟩ => pa_cons ha hr hs pos pins s σ H Q I ⟨B, ρ, O, R, c.1, fun v H1 s1 a1 => ⟨B, ρ, O, R.grow s1, c.2, fun vs H2 s2 a2 => q _ H2 (s1.trans s2) ⟨v, vs, rfl, At.mono s2 _ _ a1, a2⟩⟩⟩
theorem rci {F : List PV → Int} (o : Ok X.prog X.w X.K X.mg X.base j x pl (spFI X.K G pre F)) (hr : Room k X.A) (ha : PA X (e :: es) (tXrs X.K G C gs)) (hj : j ≤ k := by decide) (hg : Gl X x := by rfl) (hdb : (x == ("__debug__" : Str)) = false := by decide)
    (he : starEach (e :: es) X.env = (false, eval e X.env) :: starEach es X.env := by rfl) (hpl : (backTo pos (starEach es X.env)).any (·.1) = false := by rfl) :
    PE X (.Call (.Name x p) (e :: es) [] pos) (tXI X.K G (fun ρ => C ρ ∧ pre (gs ρ)) fun ρ => F (gs ρ)) :=
  toX (pe_callO o hr ha hj hg hdb he hpl) fun B σ H ρ O Q R c q => ⟨B, ρ, O, R, c.1, fun vs H1 s1 a1 => by
    dsimp only
    rw [List.append_nil]
    exact ⟨gs ρ, fun _ => false, (fun _ z => by cases z), by rw [mn_no]; exact a1, c.2, fun v H2 s2 a2 => q v H2 (s1.trans s2) a2⟩⟩
theorem rcb {F : List PV → Bool} (o : Ok X.prog X.w X.K X.mg X.base j x pl (spFB X.K G pre F)) (hr : Room k X.A) (ha : PA X (e :: es) (tXrs X.K G C gs)) (hj : j ≤ k := by decide) (hg : Gl X x := by rfl) (hdb : (x == ("__debug__" : Str)) = false := by decide)
    (he : starEach (e :: es) X.env = (false, eval e X.env) :: starEach es X.env := by rfl) (hpl : (backTo pos (starEach es X.env)).any (·.1) = false := by rfl) :
    PE X (.Call (.Name x p) (e :: es) [] pos) (tXB X.K G (fun ρ => C ρ ∧ pre (gs ρ)) fun ρ => F (gs ρ) = true) :=
  toX (pe_callO o hr ha hj hg hdb he hpl) fun B σ H ρ O Q R c q => ⟨B, ρ, O, R, c.1, fun vs H1 s1 a1 => by
    dsimp only
    rw [List.append_nil]
    exact ⟨gs ρ, fun _ => false, (fun _ z => by cases z), by rw [mn_no]; exact a1, c.2, fun v H2 s2 a2 => q v H2 (s1.trans s2) (by dsimp only; rw [Bool.decide_eq_true]; exact a2)⟩⟩
theorem rcl {F : List PV → List Int} (o : Ok X.prog X.w X.K X.mg X.base j x pl (spL X.K G pre F)) (hr : Room k X.A) (ha : PA X (e :: es) (tXrs X.K G C gs)) (hj : j ≤ k := by decide) (hg : Gl X x := by rfl) (hdb : (x == ("__debug__" : Str)) = false := by decide)
    (he : starEach (e :: es) X.env = (false, eval e X.env) :: starEach es X.env := by rfl) (hpl : (backTo pos (starEach es X.env)).any (·.1) = false := by rfl) :
    PE X (.Call (.Name x p) (e :: es) [] pos) (tXl X.K G (fun ρ => C ρ ∧ pre (gs ρ)) fun ρ => F (gs ρ)) :=
  toXl (pe_callO o hr ha hj hg hdb he hpl) fun B σ H ρ O Q R c q => ⟨B, ρ, O, R, c.1, fun vs H1 s1 a1 => by
    dsimp only
    rw [List.append_nil]
    exact ⟨gs ρ, fun _ => false, (fun _ z => by cases z), by rw [mn_no]; exact a1, c.2, fun a H2 s2 n2 e2 => q a H2 (s1.trans s2) (s1.free n2) e2⟩⟩
end
section
variable {K : PySem.W.Frag} {G : Gx} {B : Bs} {σ : L2.St} {H : Hp} {ρ : En} {O : Addr → Bool} {i : Nat} {xs ys zs : List Int} {D a b : Addr}
theorem O2At.Da (q : O2At B σ H ρ O i xs ys D a b) : D ≠ a := fun z => by
  have h := q.hD
  rw [z, q.ha] at h
  cases xs <;> cases h
theorem O2At.Db (q : O2At B σ H ρ O i xs ys D a b) : D ≠ b := fun z => by
  have h := q.hD
  rw [z, q.hb] at h
  cases ys <;> cases h
theorem Rep.change2 (R : Rep K G B σ H ρ O) (e : ρ[i]? = some (.o2 xs ys)) {c : Addr} {us vs : List Int} (q : O2At B σ H ρ O i xs ys D a b) (hc : (c = a ∧ us = zs ∧ vs = ys) ∨ (c = b ∧ us = xs ∧ vs = zs)) : Rep K G B σ (upd H c (.lst (zs.map V.int))) (ρ.set i (.o2 us vs)) O := by
  have hl : i < ρ.length := (List.getElem?_eq_some_iff.mp e).1
  have oc : O c = true ∧ B.H0 c = none ∧ D ≠ c := by
    rcases hc with ⟨rfl, _⟩ | ⟨rfl, _⟩
    · exact ⟨q.oa, q.na, q.Da⟩
    · exact ⟨q.ob, q.nb, q.Db⟩
  have back : ∀ (m : Nat) r, (ρ.set i (.o2 us vs))[m]? = some (.ow r) → ρ[m]? = some (.ow r) := fun m r z => by
    rcases set_at z with ⟨_, z, _⟩ | ⟨_, z⟩
    · cases z
    · exact z
  refine ⟨fun d o z => ?_, R.cd, R.hid, fun d z y => ?_, R.vis, fun j r ej => ?_, fun j r ej => ?_, fun j k r t d j1 j2 j3 j4 => R.inj j k r t d (back j r j1) (back k t j2) j3 j4, by rw [List.length_set]; exact R.len, fun j xs' ys' ej => ?_⟩
  · rw [upd_ne (ne_of_none z oc.2.1)]; exact R.same d o z
  · by_cases w : d = c
    · subst w; rw [upd_same] at y; cases y
    · rw [upd_ne w] at y; exact R.dom d z y
  · rw [mn_upd oc.1]
    rcases set_at ej with ⟨_, e', _⟩ | ⟨_, e'⟩
    · cases e'
    · exact R.fr j r e'
  · rw [mn_upd oc.1]
    obtain ⟨d, ws, f1, f2, f3, f4, f5⟩ := R.ow j r (back j r ej)
    obtain ⟨u1, u2, u3⟩ := q.un j r d (back j r ej) f1
    refine ⟨d, ws, f1, f2, f3, ?_, f5⟩
    rw [upd_ne]
    · exact f4
    · rcases hc with ⟨rfl, _⟩ | ⟨rfl, _⟩
      · exact u2
      · exact u3
  · have ji : j = i := by
      rcases set_at ej with ⟨rfl, _, _⟩ | ⟨_, e'⟩
      · rfl
      · exact q.one j xs' ys' e'
    subst ji
    rw [set_eq hl] at ej
    cases ej
    refine ⟨D, a, b, q.at_, q.oD, q.oa, q.ob, q.nD, q.na, q.nb, by rw [upd_ne oc.2.2]; exact q.hD, ?_, ?_, q.ab, fun k r d e1 e2 => q.un k r d (back k r e1) e2, fun k xs'' ys'' e1 => ?_⟩
    · rcases hc with ⟨rfl, rfl, rfl⟩ | ⟨rfl, rfl, rfl⟩
      · exact upd_same
      · rw [upd_ne q.ab]; exact q.ha
    · rcases hc with ⟨rfl, rfl, rfl⟩ | ⟨rfl, rfl, rfl⟩
      · rw [upd_ne (Ne.symm q.ab)]; exact q.hb
      · exact upd_same
    · rcases set_at e1 with ⟨rfl, _, _⟩ | ⟨_, e'⟩
      · rfl
      · exact q.one k xs'' ys'' e'
noncomputable def no2 (ρ : En) : Bool := ρ.all fun s => match s with
  | .o2 _ _ => false
  | _ => true
theorem no2_at (h : no2 ρ = true) {j : Nat} (e : ρ[j]? = some (.o2 xs ys)) : False := by
  have := List.all_eq_true.mp h _ (List.mem_of_getElem? e)
  cases this
theorem Rep.new2 (R : Rep K G B σ H ρ O) (h2 : no2 ρ = true) {H1 H2 : Hp} (s1 : Same H H1) (na : H a = none) (ea : H1 a = some (.lst (xs.map V.int))) (s2 : Same H1 H2) (nb : H1 b = none) (eb : H2 b = some (.lst (ys.map V.int))) (nD : H2 D = none) :
    Rep K G B (σ.set i (some (.ref D))) (upd H2 D (.lst [.ref a, .ref b])) (ρ.set i (.o2 xs ys)) (hide D (hide b (hide a O))) := by
  have s3 : Same H (upd H2 D (.lst [.ref a, .ref b])) := (s1.trans s2).trans (same_new nD _)
  have hb : H b = none := s1.free nb
  have hD : H D = none := (s1.trans s2).free nD
  have ea2 : H2 a = some (.lst (xs.map V.int)) := s2 _ _ ea
  have neab : a ≠ b := ne_of_none ea nb
  have neaD : a ≠ D := ne_of_none ea2 nD
  have nebD : b ≠ D := ne_of_none eb nD
  have up : Same (mn H O) (mn (upd H2 D (.lst [.ref a, .ref b])) (hide D (hide b (hide a O)))) := fun c o z => by
    obtain ⟨c1, c2⟩ := mn_get z
    rw [mn_of (by rw [hide_ne (ne_of_none c2 hD), hide_ne (ne_of_none c2 hb), hide_ne (ne_of_none c2 na)]; exact c1)]
    exact s3 c o c2
  have hl3 : ∀ c, O c = true → hide D (hide b (hide a O)) c = true := fun c z => hide_le c (hide_le c (hide_le c z))
  have back : ∀ (m : Nat) r, (ρ.set i (.o2 xs ys))[m]? = some (.ow r) → i ≠ m ∧ ρ[m]? = some (.ow r) := fun m r z => by
    rcases set_at z with ⟨_, z, _⟩ | ⟨n, z⟩
    · cases z
    · exact ⟨n, z⟩
  refine ⟨R.same.trans s3, R.cd, fun c z => hl3 c (R.hid c z), fun c z y => ?_, fun c z => ?_, fun j r e => ?_, fun j r e => ?_, fun j k r t c e1 e2 e3 e4 => ?_, by rw [List.length_set, List.length_set]; exact R.len, fun j xs' ys' e => ?_⟩
  · by_cases c1 : c = D
    · subst c1; rw [upd_same] at y; cases y
    · rw [upd_ne c1] at y
      by_cases c2 : c = b
      · subst c2; rw [eb] at y; cases y
      · by_cases c3 : c = a
        · subst c3; rw [ea2] at y; cases y
        · rw [hide_ne c1, hide_ne c2, hide_ne c3] at z
          exact R.dom c z ((s1.trans s2).free y)
  · by_cases c1 : c = D
    · subst c1; exact .inr (R.same.free hD)
    · by_cases c2 : c = b
      · subst c2; exact .inr (R.same.free hb)
      · by_cases c3 : c = a
        · subst c3; exact .inr (R.same.free na)
        · rw [hide_ne c1, hide_ne c2, hide_ne c3] at z
          exact R.vis c z
  · rcases set_at e with ⟨_, e', _⟩ | ⟨n, e'⟩
    · cases e'
    · obtain ⟨v, f1, f2⟩ := R.fr j r e'
      exact ⟨v, by rw [set_ne n]; exact f1, At.mono up _ _ f2⟩
  · obtain ⟨n, e'⟩ := back j r e
    obtain ⟨c, ws, f1, f2, f3, f4, f5⟩ := R.ow j r e'
    exact ⟨c, ws, by rw [set_ne n]; exact f1, hl3 c f2, f3, s3 _ _ f4, f5.mono up⟩
  · obtain ⟨n1, y1⟩ := back j r e1
    obtain ⟨n2, y2⟩ := back k t e2
    rw [set_ne n1] at e3
    rw [set_ne n2] at e4
    exact R.inj j k r t c y1 y2 e3 e4
  · rcases set_at e with ⟨rfl, e', l⟩ | ⟨n, e'⟩
    · cases e'
      refine ⟨D, a, b, set_eq (by rw [R.len]; exact l), hide_self, by rw [hide_ne neaD, hide_ne neab]; exact hide_self, by rw [hide_ne nebD]; exact hide_self, R.same.free hD, R.same.free na, R.same.free hb, upd_same, by rw [upd_ne neaD]; exact ea2, by rw [upd_ne nebD]; exact eb, neab, fun j r c e1 e2 => ?_, fun j xs' ys' e1 => ?_⟩
      · obtain ⟨n, y⟩ := back j r e1
        rw [set_ne n] at e2
        obtain ⟨c', ws, f1, f2, f3, f4, f5⟩ := R.ow j r y
        rw [e2] at f1
        cases f1
        exact ⟨ne_of_none f4 hD, ne_of_none f4 na, ne_of_none f4 hb⟩
      · rcases set_at e1 with ⟨rfl, _, _⟩ | ⟨_, e'⟩
        · rfl
        · exact (no2_at h2 e').elim
    · exact (no2_at h2 e').elim
end
section
variable {X : Cx} {G : Gx} {Er : ER} {a b e : Expr} {pos px pl ps pk pa pc : Pos} {i n : Nat} {x : Str} {C Ca Cb : En → Prop} {ga gb : En → List Int} {g : En → Int}
/-- x = [a new list, a new list], both one's own -/
theorem xst_two {pos' : Pos} (hN : X.N.Nodup) (hi : X.N[i]? = some x) (hx : Loc X.env.scope x) (ha : PE X a (tXl X.K G Ca ga)) (hb : PE X b (tXl X.K G Cb gb)) (he1 : starEach [a, b] X.env = (false, eval a X.env) :: starEach [b] X.env := by rfl) (he2 : starEach [b] X.env = (false, eval b X.env) :: starEach [] X.env := by rfl)
    (hs : swapsWith (.List [a, b] pl) (some (.Name x pos')) pos.line X.env = pure false := by rfl) (hf : X.fn x = true ∨ X.env.scope.names.lookup x = some .local := by first | exact .inl rfl | exact .inr rfl | assumption) :
    PS X (.Assign [.Name x pos'] (.List [a, b] pl) pos) (ts X.K G Er fun P ρ => no2 ρ = true ∧ Ca ρ ∧ Cb ρ ∧ P.nx (ρ.set i (.o2 (ga ρ) (gb ρ)))) :=
  toS (ps_set hN hi hx (pe_lst (pa_cons ha (pa_cons hb pa_nil he2) he1)) hs hf) fun B σ H ρ O P D R c w => ⟨B, ρ, O, R, c.2.1, fun a H1 s1 n1 e1 => ⟨B, ρ, O, R.grow s1, c.2.2.1, fun b H2 s2 n2 e2 => ⟨by show 2 ≤ sizeLine; decide, fun d nd =>
    w.nx _ _ _ ⟨_, R.new2 c.1 s1 n1 e1 s2 n2 e2 nd⟩ c.2.2.2⟩⟩⟩
/-- x[k].append(e), x such a list of two -/
theorem xst_app2 (i k : Nat) (hk : k = 0 ∨ k = 1) {x : Str} (he : PE X e (tXI X.K G C g)) (hN : X.N[i]? = some x := by rfl) (hv : Vis X.env.scope x := by first | exact Or.inl rfl | exact Or.inr (Or.inl rfl) | exact Or.inr (Or.inr rfl))
    (hd : (x == ("__debug__" : Str)) = false := by decide) (hcd : (x == ("__classdict__" : Str)) = false := by decide) (hsx : PlainIx (.Constant (.int (k : Int)) n pk) := by intro _ _; rfl)
    (hbase : attributeBase (.Subscript (.Name x px) (.Constant (.int (k : Int)) n pk) ps) "append" X.env (eval (.Subscript (.Name x px) (.Constant (.int (k : Int)) n pk) ps) X.env) = eval (.Subscript (.Name x px) (.Constant (.int (k : Int)) n pk) ps) X.env := by rfl)
    (hfew : ((backTo pc (starEach (e :: []) X.env)).all (fun x => !x.1) && (backToKw pc (keywordEach [] X.env)).all (fun x => x.1.isSome)
      && decide ((e :: []).length + ([] : List Keyword).length + (if ([] : List Keyword).isEmpty then 0 else 1) < 30)) = true := by rfl)
    (hline : (pa.endLine == pc.line) = true := by rfl) (hs : starEach (e :: []) X.env = (false, eval e X.env) :: starEach [] X.env := by rfl) (hplain : (backTo pc (starEach [] X.env)).any (·.1) = false := by rfl)
    (hsw : swapsWith (.Call (.Attribute (.Subscript (.Name x px) (.Constant (.int (k : Int)) n pk) ps) "append" pa) [e] [] pc) none pos.line X.env = pure false := by rfl) :
    PS X (.Expr (.Call (.Attribute (.Subscript (.Name x px) (.Constant (.int (k : Int)) n pk) ps) "append" pa) [e] [] pc) pos) (ts X.K G Er fun P ρ => is2 ρ i ∧ C ρ ∧ (get2 ρ i k).length < sizeLine ∧
      P.nx (ρ.set i (if k = 0 then .o2 (get2 ρ i 0 ++ [g ρ]) (get2 ρ i 1) else .o2 (get2 ρ i 0) (get2 ρ i 1 ++ [g ρ])))) :=
  toS (ps_expr (pe_bm PySem.F.plainAttrs_list PySem.F.slot_list_append PySem.F.type_list_append mt_append (pe_ix ix_list (pe_var hN hv hd hcd) pe_int hsx) (pa_cons he pa_nil hs) hbase hfew hline hs hplain) hsw) fun B σ H ρ O P D' R c w => by
    obtain ⟨c0, c1, c2, c3⟩ := c
    obtain ⟨D, a, b, z⟩ := R.o2 i _ _ c0
    rcases hk with rfl | rfl
    · refine ⟨_, z.at_, D, _, _, _, rfl, rfl, SqL.of z.hD, rfl, .inl ⟨rfl, _, SqL.of z.ha⟩, B, ρ, O, R, c1, fun v H1 s1 a1 => ?_⟩
      have a1 : v = .int (g ρ) := a1
      subst a1
      have z1 : O2At B σ H1 ρ O i (get2 ρ i 0) (get2 ρ i 1) D a b := ⟨z.at_, z.oD, z.oa, z.ob, z.nD, z.na, z.nb, s1 _ _ z.hD, s1 _ _ z.ha, s1 _ _ z.hb, z.ab, z.un, z.one⟩
      rw [if_pos rfl] at c3
      refine ⟨a, _, _, rfl, rfl, z1.ha, by rw [List.length_map]; exact c2, ?_⟩
      have e : (get2 ρ i 0).map V.int ++ [V.int (g ρ)] = (get2 ρ i 0 ++ [g ρ]).map V.int := by rw [List.map_append]; rfl
      rw [e]
      exact w.nx σ _ _ ⟨O, (R.grow s1).change2 c0 z1 (.inl ⟨rfl, rfl, rfl⟩)⟩ c3
    · refine ⟨_, z.at_, D, _, _, _, rfl, rfl, SqL.of z.hD, rfl, .inl ⟨rfl, _, SqL.of z.hb⟩, B, ρ, O, R, c1, fun v H1 s1 a1 => ?_⟩
      have a1 : v = .int (g ρ) := a1
      subst a1
      have z1 : O2At B σ H1 ρ O i (get2 ρ i 0) (get2 ρ i 1) D a b := ⟨z.at_, z.oD, z.oa, z.ob, z.nD, z.na, z.nb, s1 _ _ z.hD, s1 _ _ z.ha, s1 _ _ z.hb, z.ab, z.un, z.one⟩
      rw [if_neg (by decide)] at c3
      refine ⟨b, _, _, rfl, rfl, z1.hb, by rw [List.length_map]; exact c2, ?_⟩
      have e : (get2 ρ i 1).map V.int ++ [V.int (g ρ)] = (get2 ρ i 1 ++ [g ρ]).map V.int := by rw [List.map_append]; rfl
      rw [e]
      exact w.nx σ _ _ ⟨O, (R.grow s1).change2 c0 z1 (.inr ⟨rfl, rfl, rfl⟩)⟩ c3
end
end L3

/-! ### Euclid's steps, turned numbers, primes -/
namespace FM
open L2
/-- where turned stands: before, rest and their shares -/
structure Eu (n z b r sb s : Int) : Prop where
  r0 : 0 ≤ r
  rb : r < b
  bz : b ≤ z
  db : z ∣ b - sb * n
  dr : z ∣ r - s * n
  gc : Int.gcd b r = Int.gcd n z
  sg : (sb ≤ 0 ∧ 0 ≤ s) ∨ (0 ≤ sb ∧ s ≤ 0)
  id : (s.natAbs : Int) * b + (sb.natAbs : Int) * r = z
theorem gcd_mod (n z : Int) : Int.gcd z (n % z) = Int.gcd n z := by
  rw [Int.emod_def, Int.gcd_sub_mul_left_right, Int.gcd_comm]
theorem Eu.start {n z : Int} (hz : 2 ≤ z) : Eu n z z (n % z) 0 1 := by
  refine ⟨Int.emod_nonneg _ (by omega), Int.emod_lt_of_pos _ (by omega), Int.le_refl _, ?_, ?_, gcd_mod n z, .inl ⟨by omega, by omega⟩, ?_⟩
  · rw [Int.zero_mul, Int.sub_zero]; exact Int.dvd_refl z
  · rw [Int.one_mul, Int.emod_def]
    exact ⟨-(n / z), by rw [Int.mul_neg]; omega⟩
  · show (1 : Int) * z + ((0 : Int).natAbs : Int) * (n % z) = z
    rw [Int.one_mul]
    show z + (0 : Int) * (n % z) = z
    rw [Int.zero_mul]; omega
theorem Eu.rest {b r : Int} (h : 0 < r) : b - b / r * r = b % r := by rw [Int.emod_def, Int.mul_comm]
theorem Eu.step {n z b r sb s : Int} (h : Eu n z b r sb s) (hr : r ≠ 0) : Eu n z r (b - b / r * r) s (sb - b / r * s) := by
  have r0 : 0 < r := by have := h.r0; omega
  have q0 : 0 ≤ b / r := Int.ediv_nonneg (by have := h.rb; omega) (by omega)
  have er := Eu.rest (b := b) r0
  have abs : ((sb - b / r * s).natAbs : Int) = (sb.natAbs : Int) + b / r * (s.natAbs : Int) := by
    rcases h.sg with ⟨h1, h2⟩ | ⟨h1, h2⟩
    · have e1 : 0 ≤ b / r * s := Int.mul_nonneg q0 h2
      have e2 : (s.natAbs : Int) = s := by omega
      rw [e2]
      omega
    · have e1 : b / r * s ≤ 0 := Int.mul_nonpos_of_nonneg_of_nonpos q0 h2
      have e2 : (s.natAbs : Int) = -s := by omega
      rw [e2, Int.mul_neg]
      omega
  refine ⟨?_, ?_, by have := h.rb; have := h.bz; omega, h.dr, ?_, ?_, ?_, ?_⟩
  · rw [er]; exact Int.emod_nonneg _ (by omega)
  · rw [er]; exact Int.emod_lt_of_pos _ r0
  · obtain ⟨u, hu⟩ := h.db
    obtain ⟨v, hv⟩ := h.dr
    refine ⟨u - b / r * v, ?_⟩
    have e : b - b / r * r - (sb - b / r * s) * n = (b - sb * n) - b / r * (r - s * n) := by
      rw [Int.sub_mul, Int.mul_sub, Int.mul_assoc]; omega
    rw [e, hu, hv, Int.mul_sub, Int.mul_left_comm]
  · rw [er, ← h.gc, gcd_mod]
  · rcases h.sg with ⟨h1, h2⟩ | ⟨h1, h2⟩
    · exact .inr ⟨h2, by have := Int.mul_nonneg q0 h2; omega⟩
    · exact .inl ⟨h2, by have := Int.mul_nonpos_of_nonneg_of_nonpos q0 h2; omega⟩
  · rw [abs, ← h.id, Int.add_mul, Int.mul_sub, Int.mul_assoc, Int.mul_comm (b / r) ((s.natAbs : Int) * r), Int.mul_assoc, Int.mul_comm r (b / r)]
    omega
/-- the shares stay below the size -/
theorem Eu.small {n z b r sb s : Int} (h : Eu n z b r sb s) : (s.natAbs : Int) ≤ z ∧ (sb.natAbs : Int) ≤ z ∨ r = 0 ∧ (s.natAbs : Int) ≤ z := by
  have h0 := h.r0
  have h1 := h.rb
  have hid := h.id
  have a1 : (s.natAbs : Int) * 1 ≤ (s.natAbs : Int) * b := Int.mul_le_mul_of_nonneg_left (by omega) (by omega)
  have a2 : 0 ≤ (sb.natAbs : Int) * r := Int.mul_nonneg (by omega) h0
  by_cases c : r = 0
  · exact .inr ⟨c, by omega⟩
  · have a3 : (sb.natAbs : Int) * 1 ≤ (sb.natAbs : Int) * r := Int.mul_le_mul_of_nonneg_left (by omega) (by omega)
    have a4 : 0 ≤ (s.natAbs : Int) * b := Int.mul_nonneg (by omega) (by omega)
    exact .inl ⟨by omega, by omega⟩
theorem Eu.end {n z b sb s : Int} (h : Eu n z b 0 sb s) : b = (Int.gcd n z : Int) := by
  have := h.gc
  rw [Int.gcd_zero_right] at this
  have := h.rb
  omega
theorem Eu.one {n z b sb s : Int} (hz : 2 ≤ z) (h : Eu n z b 0 sb s) (h1 : b = 1) : (sb % z * n) % z = 1 := by
  have hd := h.db
  rw [h1] at hd
  have e : (sb % z * n) % z = (sb * n) % z := by rw [Int.mul_emod, Int.emod_emod_of_dvd _ (Int.dvd_refl z), ← Int.mul_emod]
  rw [e]
  have e2 : (1 - sb * n) % z = 0 := Int.emod_eq_zero_of_dvd hd
  have e3 := (Int.emod_eq_emod_iff_emod_sub_eq_zero (m := 1) (n := z) (k := sb * n)).mpr e2
  rw [← e3]
  exact Int.emod_eq_of_lt (by omega) (by omega)
/-! primes -/
end FM

/-! ### a try around a call, an except with a name -/
namespace L2
open PySem PySem.Spec PyProof.Rows
section
variable {X : Cx} {pins : List (Addr × Obj)} {σ : St} {H : Hp} {s : Shared} {h' : Heap} {ch : List Addr}
/-- records that the entry did not know have changed, the frames up to their slots -/
theorem Inv.noted {t' : Nat} (I : Inv X pins σ H s) (hl : X.env.locals ∈ frs X.stack)
    (hch : ∀ b ∈ ch, X.s₀.heap.get? b = none ∧ H b = none ∧ b ∉ frs X.stack ∧ (∀ x c, X.env.cells.lookup x = some c → c ≠ b) ∧ ∀ p ∈ X.pn ++ pins, p.1 ≠ b)
    (keep : ∀ b o, b ∉ ch → b ∉ frs X.stack → s.heap.get? b = some o → h'.get? b = some o) (slot : ∀ b o, b ∈ frs X.stack → s.heap.get? b = some o → ∃ sl, h'.get? b = some { o with slots := sl }) : Inv X pins σ H { s with heap := h', toks := t' } := by
  have any : ∀ b o, b ∉ ch → s.heap.get? b = some o → ∃ sl, h'.get? b = some { o with slots := sl } := fun b o hb e => by
    by_cases c : b ∈ frs X.stack
    · exact slot b o c e
    · exact ⟨o.slots, keep b o hb c e⟩
  have noC : ∀ b o, X.s₀.heap.get? b = some o → b ∉ ch := fun b o e z => by rw [(hch b z).1] at e; cases e
  have neL : ∀ b o, X.s₀.heap.get? b = some o → b ≠ X.env.locals := fun b o e => Nat.ne_of_lt (Nat.lt_of_lt_of_le (Heap.lt_size e) I.ok.above)
  have cellK : ∀ x c, X.env.cells.lookup x = some c → ∀ v, s.heap.IsCell c v → h'.IsCell c v := fun x c e v ⟨o, ho, hd⟩ => by
    obtain ⟨sl, q⟩ := any c o (fun z => (hch c z).2.2.2.1 x c e rfl) ho
    exact ⟨_, q, hd⟩
  refine ⟨I.ok, I.os, I.bare, ⟨fun b o e n hbf hx => ?_, fun b o e n hbf hx => ?_, I.base.free, fun b o e hx => ?_, I.base.tups, I.base.frzs, I.base.tbls⟩, ?_, fun x c e => ?_, I.free, I.freeC, fun p hp => ?_, fun b o e => ?_, I.len⟩
  · refine keep b o (noC b o e) (fun z => ?_) (I.base.keep b o e n hbf hx)
    rcases List.mem_cons.mp (I.stkSub b z) with q | q
    · exact neL b o e q
    · exact hbf q
  · obtain ⟨sl, e1⟩ := I.base.slot b o e n hbf hx
    obtain ⟨sl2, e2⟩ := any b _ (noC b o e) e1
    exact ⟨sl2, e2⟩
  · obtain ⟨o', e1⟩ := I.base.there b o e hx
    obtain ⟨sl2, e2⟩ := any b o' (noC b o e) e1
    exact ⟨_, e2⟩
  · obtain ⟨m, ⟨o, es, ep, ho, r⟩, hloc⟩ := I.loc
    obtain ⟨sl, e⟩ := slot _ o hl ho
    refine ⟨m, ⟨_, es, ep, e, r⟩, fun i x v h1 h2 h3 => ?_⟩
    obtain ⟨u, ru, l⟩ := hloc i x v h1 h2 h3
    refine ⟨u, ru, ?_⟩
    rcases l with l | ⟨k, c, hc, ic⟩
    · exact .inl l
    · exact .inr ⟨k, c, hc, cellK x c hc _ ic⟩
  · obtain ⟨v, ic⟩ := I.cell x c e
    exact ⟨v, cellK x c e v ic⟩
  · obtain ⟨a1, a2, a3, a4, a5⟩ := I.pin p hp
    refine ⟨keep p.1 p.2 (fun z => (hch _ z).2.2.2.2 p hp rfl) (fun z => ?_) a1, a2, a3, a4, a5⟩
    rcases List.mem_cons.mp (I.stkSub _ z) with q | q
    · exact a3 q
    · exact a4 q
  · refine (I.hok b o e).stay (fun c u hc q => keep c u (fun z => ?_) (fun z => ?_) q) (fun _ q => q) fun _ _ q => q
    · have hn := (hch c z).2.1
      rcases hc with rfl | hc
      · rw [hn] at e; cases e
      · rw [hn] at hc; cases hc
    · have hn := I.stkFree c z
      rcases hc with rfl | hc
      · rw [hn] at e; cases e
      · rw [hn] at hc; cases hc
/-- what is new since a state of this body is not the body's own -/
theorem Inv.newAt (I : Inv X pins σ H s) (hex : X.ex = []) {b : Addr} (hb : s.heap.get? b = none) : X.s₀.heap.get? b = none ∧ b ∉ frs X.stack ∧ (∀ x c, X.env.cells.lookup x = some c → c ≠ b) ∧ ∀ p ∈ X.pn ++ pins, p.1 ≠ b := by
  refine ⟨?_, fun z => ?_, fun x c e z => ?_, fun p hp z => ?_⟩
  · cases q : X.s₀.heap.get? b with
    | none => rfl
    | some o =>
      obtain ⟨o', e⟩ := I.base.there b o q (by rw [hex]; simp)
      rw [hb] at e; cases e
  · obtain ⟨_, o, e, _⟩ := I.stack.mem z
    rw [hb] at e; cases e
  · obtain ⟨v, o, e', _⟩ := I.cell x c e
    rw [z, hb] at e'; cases e'
  · have e := (I.pin p hp).1
    rw [z, hb] at e; cases e
end
section
variable {X : Cx} {pins : List (Addr × Obj)} {σ : St} {H1 H' : Hp} {s1 s' : Shared} {a : Addr} {cls : Value}
/-- the error is looked at in this frame: noted, landed -/
theorem catch_in {M : Model} {Q : Shared → Prop} {E' : Value → Shared → Prop} (I : Inv X pins σ H1 s1) (hst : X.stack = X.env :: X.outer) (hfr : X.env.frame = some X.env.locals) (hex : X.ex = []) (ho : s'.os = s1.os) (hb : AllBare s'.gens)
    (u : Un (frs X.stack) [] H1 H' s1.heap s'.heap) (hok : HOk X.prog X.w H' s'.heap) (F : Fly s1.heap H' s'.heap a cls)
    (hQ : ∀ h', Inv X pins σ H' { s' with heap := h' } → Fly s1.heap H' h' a cls → Q { s' with heap := h' }) :
    wpAny M X.A (noteFrame (.ref a) X.env) (fun _ s2 => wpAny M X.A (setFlight (.ref a) none) (fun _ s3 => Q s3) E' s2) E' s' := by
  have J : Inv X pins σ H' s' := I.call' (ch := []) ho u hok hb (fun b z => absurd z (by simp))
  obtain ⟨oe, vs, T, oT, ts, he, hcls, hdi, hd, h1, hTe, hT, hdT, h3, hHT, hsT⟩ := F.ex
  subst hcls
  have hA : X.A.frames = some (X.env :: X.outer) := by rw [← hst]; exact I.ok.frames
  have FF := J.stack
  have na := I.newAt hex F.new
  have nT := I.newAt hex hsT
  have hl : X.env.locals ∈ frs X.stack := by rw [hst]; unfold frs; rw [List.filterMap_cons, hfr]; exact List.mem_cons_self
  refine note_next (as := a :: T :: frs X.stack) (Q := fun _ s3 => Q s3) hA (by rw [← hst]; exact FF) hfr he hdi hd h1 hTe hT hdT h3 List.mem_cons_self (List.mem_cons_of_mem _ List.mem_cons_self) (fun b z => List.mem_cons_of_mem _ (List.mem_cons_of_mem _ (by rw [hst]; exact z))) fun h3' L => ?_
  rw [← hst] at L
  obtain ⟨oe', vs', T', oT', ts', he', hc', hdi', hd', h1', hnT', hTe', hT', hdT', h3''⟩ := L.ex
  have J3 : Inv X pins σ H' { s' with heap := h3' } := J.noted (t' := s'.toks) (ch := [a, T]) hl (fun b z => by
      rcases List.mem_cons.mp z with rfl | z
      · exact ⟨na.1, F.un, na.2.1, na.2.2.1, na.2.2.2⟩
      · have e : b = T := by simpa using z
        subst e
        exact ⟨nT.1, hHT, nT.2.1, nT.2.2.1, nT.2.2.2⟩)
    (fun b o hb hf e => L.keep b o e (by
      intro z
      rcases List.mem_cons.mp z with q | z
      · exact hb (by simp [q])
      · rcases List.mem_cons.mp z with q | z
        · exact hb (by simp [q])
        · exact hf z)) L.slot
  have tn : H' T' = none ∧ s1.heap.get? T' = none := by
    refine ⟨J.untracked hnT', ?_⟩
    cases q : s1.heap.get? T' with
    | none => rfl
    | some o => obtain ⟨o', e'⟩ := u.there T' o q (by simp); rw [hnT'] at e'; cases e'
  exact hQ h3' J3 ⟨⟨oe', vs', T', oT', ts', he', hc', hdi', hd', h1', hTe', hT', hdT', h3'', tn.1, tn.2⟩, F.un, F.new⟩
end

section
variable {X : Cx} {pins : List (Addr × Obj)} {σ : St} {H H' : Hp} {s : Shared} {h0 : Heap} {a : Addr} {cls : Value}
/-- landed once more: nothing new -/
theorem land_again {M : Model} {A : Around} {Q : Unit → Shared → Prop} {E' : Value → Shared → Prop} (J : Inv X pins σ H' s) (hst : X.stack = X.env :: X.outer) (hfr : X.env.frame = some X.env.locals) (F : Fly h0 H' s.heap a cls)
    (nw : ∀ b, h0.get? b = none → X.s₀.heap.get? b = none ∧ b ∉ frs X.stack ∧ (∀ x c, X.env.cells.lookup x = some c → c ≠ b) ∧ ∀ p ∈ X.pn ++ pins, p.1 ≠ b)
    (hQ : ∀ h', Inv X pins σ H' { s with heap := h' } → Fly h0 H' h' a cls → Q () { s with heap := h' }) : wpAny M A (setFlight (.ref a) none) Q E' s := by
  obtain ⟨oe, vs, T, oT, ts, he, hcls, hdi, hd, h1, hTe, hT, hdT, h3, hHT, hsT⟩ := F.ex
  have FF := J.stack
  have hsz3 : 3 < ts.size := (Array.getElem?_eq_some_iff.mp h3).1
  have other : ∀ b, b ≠ T → (s.heap.update T (Obj.mapFields (·.setIfInBounds 3 .none))).get? b = s.heap.get? b := fun b hb => Heap.get?_update_other _ _ (Ne.symm hb)
  have nT := nw T hsT
  have hl : X.env.locals ∈ frs X.stack := by rw [hst]; unfold frs; rw [List.filterMap_cons, hfr]; exact List.mem_cons_self
  refine wpAny_setFlight_none he hd h1 hT hdT hsz3 (hQ _ ?_ ?_)
  · exact J.noted (t' := s.toks) (ch := [T]) hl (fun b z => by
      have e : b = T := by simpa using z
      subst e
      exact ⟨nT.1, hHT, nT.2.1, nT.2.2.1, nT.2.2.2⟩) (fun b o hb hf e => (other b (fun z => hb (by simp [z]))).trans e)
      (fun b o z e => ⟨o.slots, (other b (fun q => nT.2.1 (by rw [← q]; exact z))).trans e⟩)
  · refine ⟨⟨oe, vs, T, _, _, (other a (Ne.symm hTe)).trans he, hcls, hdi, hd, h1, hTe, Heap.get?_update_self _ hT (Obj.isFreed_of_fields (Obj.data_mapFields hdT _)), Obj.data_mapFields hdT _, by simp [hsz3], hHT, hsT⟩, F.un, F.new⟩
/-- one name alone is kept, another has gone -/
theorem Inv.gone {n y : Str} {j : Nat} {v : Option Value} {m : Str → Option Value} {h' : Heap} {t' : Nat} (I : Inv X pins σ H s) (hN : X.N.Nodup) (hj : X.N[j]? = some y) (hny : y ≠ n) (hl : ∀ (i : Nat) (x : Str) (v : V), X.N[i]? = some x → σ[i]? = some (some v) → Vis X.env.scope x → ∃ u, RelV v u ∧ Look X.env s.heap m x u)
    (hn : h'.Ns X.env.locals (fun x => if x = n then v else m x)) (hs : Heap.SameBut X.env.locals s.heap h') {w : V} (hw : σ[j]? = some (some w)) : Inv X pins ((List.replicate X.N.length none).set j (some w)) H { s with heap := h', toks := t' } := by
  have neL : ∀ b o, X.s₀.heap.get? b = some o → b ≠ X.env.locals := fun b o e => Nat.ne_of_lt (Nat.lt_of_lt_of_le (Heap.lt_size e) I.ok.above)
  refine ⟨I.ok, I.os, I.bare, ⟨fun b o e q hb hx => (hs.2 b (neL b o e)).trans (I.base.keep b o e q hb hx), fun b o e q hb hx => ?_, I.base.free, fun b o e hx => ?_, I.base.tups, I.base.frzs, I.base.tbls⟩, ⟨_, hn, fun k x u e1 e2 e3 => ?_⟩, fun x c e => ?_, I.free, I.freeC, fun p hp => ?_, fun b o e => ?_, by rw [List.length_set, List.length_replicate]⟩
  · obtain ⟨sl, e1⟩ := I.base.slot b o e q hb hx
    exact ⟨sl, (hs.2 b (neL b o e)).trans e1⟩
  · obtain ⟨o', e1⟩ := I.base.there b o e hx
    exact ⟨o', (hs.2 b (neL b o e)).trans e1⟩
  · have kj : k = j ∧ u = w := by
      rw [List.getElem?_set] at e2
      split at e2
      · rename_i z
        split at e2
        · cases e2; exact ⟨z.symm, rfl⟩
        · cases e2
      · rw [List.getElem?_replicate] at e2
        split at e2 <;> cases e2
    obtain ⟨rfl, rfl⟩ := kj
    rw [hj] at e1
    cases e1
    obtain ⟨u', r', q⟩ := hl k y u hj hw e3
    refine ⟨u', r', ?_⟩
    rcases q with ⟨kk, e⟩ | ⟨kk, c, e, z⟩
    · exact .inl ⟨kk, by dsimp only; rw [if_neg hny]; exact e⟩
    · exact .inr ⟨kk, c, e, z.sameBut hs (I.cne y c e)⟩
  · obtain ⟨w', z⟩ := I.cell x c e
    exact ⟨w', z.sameBut hs (I.cne x c e)⟩
  · obtain ⟨e, q, ne, nf, d⟩ := I.pin p hp
    exact ⟨(hs.2 p.1 ne).trans e, q, ne, nf, d⟩
  · refine (I.hok b o e).stay (fun c u hc q => (hs.2 c (fun z => ?_)).trans q) (fun _ q => q) fun _ _ q => q
    subst z
    rcases hc with rfl | hc
    · rw [I.free] at e; cases e
    · rw [I.free] at hc; cases hc
/-- a caught error, by its class -/
noncomputable def excO (a : Addr) (cls : Value) : HO := .ext fun h => ∃ o vs, h.get? a = some o ∧ o.cls = cls ∧ o.dict = none ∧ o.data = .fields vs
theorem Inv.trackN {T : Addr} {o : HO} (I : Inv X pins σ H s) (f0 : H T = none) (f1 : T ≠ X.env.locals) (f3 : X.s₀.heap.get? T = none) (f4 : ∀ x c, X.env.cells.lookup x = some c → c ≠ T) (f5 : ∀ p ∈ X.pn ++ pins, p.1 ≠ T)
    (new : ObjOk X.prog X.w (upd H T o) s.heap T o) : Inv X pins σ (upd H T o) s := by
  have ne : ∀ {b : Addr} {u : HO}, H b = some u → b ≠ T := fun e => ne_of_none e f0
  refine ⟨I.ok, I.os, I.bare, ⟨I.base.keep, I.base.slot, fun b ob e n x => ?_, I.base.there, fun b xs e => ?_, fun b ob u e => ?_, fun b ps e => ?_⟩, I.loc, I.cell, by rw [upd_ne (Ne.symm f1)]; exact I.free, fun x c e => ?_, fun p hp => ?_, fun b u e => ?_, I.len⟩
  · have hb : b ≠ T := fun z => by rw [z, f3] at e; cases e
    rw [upd_ne hb]; exact I.base.free b ob e n x
  · have q := I.base.tups b xs e
    rw [upd_ne (ne q)]; exact q
  · have q := I.base.frzs b ob u e
    rw [upd_ne (ne q)]; exact q
  · obtain ⟨m, q⟩ := I.base.tbls b ps e
    exact ⟨m, by rw [upd_ne (ne q)]; exact q⟩
  · rw [upd_ne (f4 x c e)]; exact I.freeC x c e
  · obtain ⟨a1, a2, a3⟩ := I.pin p hp
    exact ⟨a1, by rw [upd_ne (f5 p hp)]; exact a2, a3⟩
  · by_cases c : b = T
    · subst c; rw [upd_same] at e; cases e; exact new
    · rw [upd_ne c] at e
      exact (I.hok b u e).stay (fun _ _ _ q => q) (fun d q => by rw [upd_ne (ne q)]; exact q) fun d xs q => by rw [upd_ne (ne q)]; exact q
theorem Inv.toPn (I : Inv X pins σ H s) (E : Value → Shared → Prop) : Inv { X with pn := X.pn ++ pins, xe := E } [] σ H s :=
  ⟨⟨I.ok.mod, I.ok.kind, I.ok.glob, I.ok.blt, I.ok.above, I.ok.inj, I.ok.has, I.ok.cab, I.ok.hd, I.ok.frames, I.ok.stk, I.ok.exf, I.ok.bs, I.ok.bsz, I.ok.noex, I.ok.exfs, I.ok.funs, I.ok.frf⟩, I.os, I.bare, I.base, I.loc, I.cell, I.free, I.freeC, fun p hp => I.pin p (by simpa using hp), I.hok, I.len⟩
theorem Inv.ofPn {E : Value → Shared → Prop} {ps : List (Addr × Obj)} (I : Inv { X with pn := X.pn ++ pins, xe := E } ps σ H s) : Inv X pins σ H s :=
  ⟨⟨I.ok.mod, I.ok.kind, I.ok.glob, I.ok.blt, I.ok.above, I.ok.inj, I.ok.has, I.ok.cab, I.ok.hd, I.ok.frames, I.ok.stk, I.ok.exf, I.ok.bs, I.ok.bsz, I.ok.noex, I.ok.exfs, I.ok.funs, I.ok.frf⟩, I.os, I.bare, I.base, I.loc, I.cell, I.free, I.freeC, fun p hp => I.pin p (List.mem_append_left _ hp), I.hok, I.len⟩
/-- within the except suite -/
theorem Inv.mark (I : Inv X pins σ H s) (v : Value) (E : Value → Shared → Prop) : Inv { X with A := X.A.mark (some v), calm := false, xe := E } pins σ H s :=
  ⟨⟨I.ok.mod, I.ok.kind, I.ok.glob, I.ok.blt, I.ok.above, I.ok.inj, I.ok.has, I.ok.cab, (fun z => by cases z), I.ok.frames, I.ok.stk, I.ok.exf, I.ok.bs, I.ok.bsz, I.ok.noex, I.ok.exfs, I.ok.funs, I.ok.frf⟩, I.os, I.bare, I.base, I.loc, I.cell, I.free, I.freeC, I.pin, I.hok, I.len⟩
theorem Inv.unmark {v : Value} {E : Value → Shared → Prop} (hd : X.calm = true → X.A.handled = none) (I : Inv { X with A := X.A.mark (some v), calm := false, xe := E } pins σ H s) : Inv X pins σ H s :=
  ⟨⟨I.ok.mod, I.ok.kind, I.ok.glob, I.ok.blt, I.ok.above, I.ok.inj, I.ok.has, I.ok.cab, hd, I.ok.frames, I.ok.stk, I.ok.exf, I.ok.bs, I.ok.bsz, I.ok.noex, I.ok.exfs, I.ok.funs, I.ok.frf⟩, I.os, I.bare, I.base, I.loc, I.cell, I.free, I.freeC, I.pin, I.hok, I.len⟩
end

/-- try: f(..) / except C as n: y = n. Behind an error all names but y are forgotten -/
noncomputable def tTry (K : PySem.W.Frag) (N : Nat) (C : Addr) (j : Nat) (te : XK → TE) : TS := fun D σ H =>
  te (fun cls _ H' => PySem.W.exmOne K cls (.ref C) = some true ∧ ∀ a, H' a = none → D.nx ((List.replicate N none).set j (some (.ref a))) (upd H' a (excO a cls))) σ H fun _ H1 => D.nx σ H1
section
variable {X : Cx} {call : Expr} {te : XK → TE} {x n y : Str} {C : Addr} {i j : Nat} {px py pn hp p1 p2 pos : Pos}
theorem ps_try (hc : X.calm = true) (hst : X.stack = X.env :: X.outer) (hfr : X.env.frame = some X.env.locals) (hex : X.ex = []) (hg : Gl X x) (hm : X.mg x = some (.ref C)) (hN : X.N.Nodup) (hi : X.N[i]? = some n) (hj : X.N[j]? = some y) (hln : X.env.scope.names.lookup n = some .local) (hly : X.env.scope.names.lookup y = some .local)
    (hkn : X.env.kindOf n = some .local) (hny : y ≠ n) (hij : i ≠ j)
    (he : ∀ (pn : List (Addr × Obj)) (E' : Value → Shared → Prop) (Ec : XK), Passes (CXe X.prog X.w) { X with pn := pn, xe := E' } Ec → PE { X with pn := pn, xe := E' } call (te Ec))
    (hs : swapsWith call none p1.line X.env = pure false := by rfl) (hs2 : swapsWith (.Name n pn) (some (.Name y py)) p2.line X.env = pure false := by rfl) (hdx : (x == ("__debug__" : Str)) = false := by decide) (hdn : (n == ("__debug__" : Str)) = false := by decide) (hdc : (n == ("__classdict__" : Str)) = false := by decide) :
    PS X (.Try [.Expr call p1] [.ExceptHandler (some (.Name x px)) (some n) [.Assign [.Name y py] (.Name n pn) p2] hp] [] [] pos) (tTry X.K X.N.length C j te) := by
  intro pins s σ H D I h
  have hx : Passes (CXe X.prog X.w) { X with pn := X.pn ++ pins, xe := fun e s' => ∃ σ1 H1 s1, Inv X pins σ1 H1 s1 ∧ CXe X.prog X.w X.stack H1 s1 (fun cls _ H' => PySem.W.exmOne X.K cls (.ref C) = some true ∧ ∀ a, H' a = none → D.nx ((List.replicate X.N.length none).set j (some (.ref a))) (upd H' a (excO a cls))) e s' } (fun cls _ H' => PySem.W.exmOne X.K cls (.ref C) = some true ∧ ∀ a, H' a = none → D.nx ((List.replicate X.N.length none).set j (some (.ref a))) (upd H' a (excO a cls))) :=
    fun _ σ1 H1 s1 e s' I1 q => ⟨σ1, H1, s1, I1.ofPn, q⟩
  have body := pss_one (ps_expr (pos := p1) (he _ _ _ hx) hs) [] s σ H { nx := D.nx, rt := fun _ _ => False } (I.toPn _) h
  refine wpAny_Try_except (wpAny_mono body (fun f s1 q => ?_) fun e s' q => ?_)
  · cases f with
    | next =>
      obtain ⟨σ', H', I', q⟩ := q
      exact wpAny_execs_nil ⟨σ', H', I'.ofPn, q⟩
    | ret v => obtain ⟨_, _, _, _, _, q⟩ := q; exact q.elim
    | brk => obtain ⟨_, _, _, q⟩ := q; exact q.elim
    | cont => obtain ⟨_, _, _, q⟩ := q; exact q.elim
  · obtain ⟨σ1, H1, s1, I1, a, cls, H', rfl, ho, hb, u, hok, F, hx1, hE⟩ := q
    have nw := fun b (hb : s1.heap.get? b = none) => I1.newAt hex hb
    refine catch_in I1 hst hfr hex ho hb u hok F fun h3 J F3 => ?_
    refine wpAny_handleBy_cons (codeAny_handlers_test ?_) (by intro q; cases q)
    have J2 := J.mark (.ref a) X.xe
    refine ld_glob (X := { X with A := X.A.mark (some (.ref a)), calm := false, xe := X.xe }) J2 hg hm ?_ hdx
    obtain ⟨oe, vs, T, oT, ts, hae, hcls, hrest⟩ := F3.ex
    have LT : PySem.W.Looks (model X.prog X.w) h3 (typeOf (.ref a)) cls := by
      rw [← hcls]
      exact (PySem.W.Looks.ld hae).andThen .now
    have KI : X.K.In h3 := J.kIn
    refine (PySem.W.exm_one KI LT hx1).here (s := { s' with heap := h3 }) ?_
    refine codeAny_handlers_suite_as ?_
    refine land_again J hst hfr F3 nw fun h4 J4 F4 => ?_
    obtain ⟨oe4, vs4, T4, oT4, ts4, hae4, hcls4, hdi4, hd4, _⟩ := F4.ex
    have na := nw a F.new
    have hl : X.env.locals ∈ frs X.stack := by rw [hst]; unfold frs; rw [List.filterMap_cons, hfr]; exact List.mem_cons_self
    have aL : a ≠ X.env.locals := fun z => na.2.1 (by rw [z]; exact hl)
    have aF : a ∉ X.fs := fun z => na.2.1 (by rw [hst]; unfold frs; rw [List.filterMap_cons, hfr]; exact List.mem_cons_of_mem _ z)
    have Jp : Inv X (pins ++ [(a, oe4)]) σ1 H' { s' with heap := h4 } := J4.pins_of fun p hp => by
      rcases List.mem_append.mp hp with z | z
      · exact J4.pin p (List.mem_append_right _ z)
      · have e : p = (a, oe4) := by simpa using z
        subst e
        exact ⟨hae4, F.un, aL, aF, fun v z => by rw [hd4] at z; cases z⟩
    have J5 := Jp.mark (.ref a) X.xe
    refine store_ok (X := { X with A := X.A.mark (some (.ref a)), calm := false, xe := X.xe }) J5 hN hi (.inl hln) (v := .ref a) rfl (fun s5 J6 => ?_) (.inr hln)
    have il : i < σ1.length := by rw [J4.len]; exact (List.getElem?_eq_some_iff.mp hi).1
    have jl : j < σ1.length := by rw [J4.len]; exact (List.getElem?_eq_some_iff.mp hj).1
    have suite : ∀ Err : Value → Shared → Prop, PSs { X with A := X.A.mark (some (.ref a)), calm := false, xe := Err } [.Assign [.Name y py] (.Name n pn) p2] (tAsg (tVar i) (gName j)) := fun Err =>
      pss_one (ps_set (X := { X with A := X.A.mark (some (.ref a)), calm := false, xe := Err }) (i := j) hN hj (.inl hly) (pe_var (X := { X with A := X.A.mark (some (.ref a)), calm := false, xe := Err }) hi (.inl hln) hdn hdc) hs2 (.inr hly))
    have J6' : ∀ Err : Value → Shared → Prop, Inv { X with A := X.A.mark (some (.ref a)), calm := false, xe := Err } (pins ++ [(a, oe4)]) (σ1.set i (some (.ref a))) H' s5 := fun Err => (J6.unmark I.ok.hd).mark _ Err
    refine wpAny_mono (suite _ _ s5 _ H' { nx := fun σ2 H2 => σ2[j]? = some (some (.ref a)) ∧ H2 = H', rt := fun _ _ => False } (J6' _) ⟨_, by rw [List.getElem?_set, if_pos rfl, if_pos il], by
      show ((σ1.set i (some (.ref a))).set j (some (.ref a)))[j]? = some (some (.ref a)) ∧ H' = H'
      exact ⟨by rw [List.getElem?_set, if_pos rfl, if_pos (by rw [List.length_set]; exact jl)], rfl⟩⟩) (fun f s6 q => ?_) fun _ _ q => q
    cases f with
    | ret v => obtain ⟨_, _, _, _, _, q⟩ := q; exact q.elim
    | brk => obtain ⟨_, _, _, q⟩ := q; exact q.elim
    | cont => obtain ⟨_, _, _, q⟩ := q; exact q.elim
    | next =>
      obtain ⟨σ2, H2, J7, hw, rfl⟩ := q
      have J7 := J7.unmark I.ok.hd
      obtain ⟨m, hm', hloc⟩ := J7.loc
      refine wpAny_nameGoes_keeps hkn hm' (by rw [I.ok.kind]; rfl) fun h7 v hn7 hs7 => ?_
      have J8 := J7.gone (t' := s6.toks + 1) hN hj hny hloc hn7 hs7 hw
      have e8 := (J8.pin (a, oe4) (List.mem_append_right _ (List.mem_append_right _ (by simp)))).1
      have J9 : Inv X pins ((List.replicate X.N.length none).set j (some (.ref a))) H2 { s6 with heap := h7, toks := s6.toks + 1 } := J8.pins_of fun p hp => J8.pin p (List.mem_append_right _ (List.mem_append_left _ hp))
      refine ⟨_, _, J9.trackN (o := excO a cls) F.un aL na.1 na.2.2.1 na.2.2.2 ?_, hE a F.un⟩
      exact ⟨⟨oe4, vs4, e8, hcls4, hdi4, hd4⟩, ⟨oe4, e8⟩, fun g1 g2 ⟨o, vs, q1, q2⟩ k => ⟨o, vs, k o q1, q2⟩⟩
end
end L2

/-! ### defs that may refuse, read over pure values -/
namespace L3
open PySem PySem.Spec PyProof.Rows L2
/-- what a call comes to: a value, or an error of a class -/
inductive Rs where
  | val (p : PV) | err (C : Addr)
noncomputable def spE (K : PySem.W.Frag) (G : Gx) (pre : List PV → Prop) (F : List PV → Rs) : Sp := fun vs H Q E => ∃ as O, (∀ a, O a = true → H a ≠ none) ∧ AtL K G (mn H O) as vs ∧ pre as ∧ (∀ p, F as = .val p → ∀ v H', Same H H' → At K G (mn H' O) p v → Q v H') ∧ ∀ C, F as = .err C → ∀ H', Same H H' → E (.ref C) none H'
structure OkE (P : Program) (w : World) (K : PySem.W.Frag) (mg : Str → Option Value) (base : Heap) (k : Nat) (x : Str) (ps : List Str) (sp : Sp) : Prop where
  ex : ∃ f fd, FnOk P w K mg base (CXe P w) k f fd ps sp ∧ Binds K fd ps [] ∧ PySem.W.keepIn K (.ref f) = true ∧ mg x = some (.ref f)
noncomputable abbrev erE (E : XK) : ER := fun C H => E (.ref C) none H
section
variable {P : Program} {w : World} {K : PySem.W.Frag} {mg : Str → Option Value} {base : Heap} {G : Gx}
/-- a def that tells a value or refuses -/
theorem okE {x : Str} {st : Stmt} {N ps : List Str} {k : Nat} {pre : List PV → Prop} {F : List PV → Rs} (d : Def K mg x st ps) (S : FnScope N ps (defScope st)) (len : ∀ as, pre as → as.length = ps.length)
    (hbody : ∀ (f : Addr) (cdv : Value) (A : Around) (outer : List Env) (s : Shared) (H : Hp) (E : XK), Room k (A.deeper (envOfC x (defScope st) s.heap.objs.size f cdv)) →
      ∃ fs, PSs (cxOf (CXe P w) P w K mg base N x (defScope st) f cdv A outer s H E) (defBody st) (ts K G (erE E) fs) ∧ ∀ as, pre as → fs { nx := fun _ => F as = .val .non, rt := fun p => F as = .val p, rl := fun ns => F as = .val (.ints ns), er := fun C => F as = .err C } (startR N as)) : OkE P w K mg base (k + 1) x ps (spE K G pre F) := by
  obtain ⟨f, fd, Fu, b, m⟩ := d.ex
  refine ⟨f, fd, ?_, b, Fu.kp, m⟩
  obtain ⟨oc, od, kV, doc, pm, an, cdv, ct, osl, rfl, lk, hcd⟩ := Fu.ex
  refine fn_of lk hcd S (fun vs H Q E h => ?_) fun A outer s H vs Q E hr h => ?_
  · obtain ⟨as, O, _, al, hp, _⟩ := h
    rw [← al.length]; exact len as hp
  obtain ⟨as, O, hd, al, hp, q, qe⟩ := h
  obtain ⟨fs, b, c⟩ := hbody f cdv A outer s H E hr
  refine ⟨_, b, ⟨H, O⟩, startR N as, _, ⟨O, rep_start hd al⟩, c as hp, ⟨fun σ' H' ρ' R' h => ?_, fun v H' p s' a' h => q p h v H' s' a', fun a H' ns s' n e h => ?_, fun _ _ _ _ _ h => h.elim, fun _ _ _ _ h => h, fun _ _ _ _ h => h, fun H' C s' h => qe C h H' s'⟩⟩
  · obtain ⟨O', R'⟩ := R'
    exact q _ h .non H' R'.same rfl
  · refine q _ h _ H' s' ⟨a, rfl, .inl ?_⟩
    rw [mn_of]
    · exact e
    · cases z : O a with
      | false => rfl
      | true => exact absurd n (hd a z)
end
section
variable {X : Cx} {G : Gx} {E : XK} {e : Expr} {es : List Expr} {pos p cpos np pos' : Pos} {i j k : Nat} {x y : Str} {ps : List Str} {pre : List PV → Prop} {C : En → Prop} {gs : En → List PV} {F : List PV → Rs} {Cc : Addr}
theorem pe_callE {sp : Sp} {t : TA} (o : OkE X.prog X.w X.K X.mg X.base j x ps sp) (hx : Passes (CXe X.prog X.w) X E) (hr : Room k X.A) (ha : PA X (e :: es) t) (hj : j ≤ k := by decide) (hg : Gl X x := by rfl) (hdb : (x == ("__debug__" : Str)) = false := by decide)
    (he : starEach (e :: es) X.env = (false, eval e X.env) :: starEach es X.env := by rfl) (hpl : (backTo pos (starEach es X.env)).any (·.1) = false := by rfl) : PE X (.Call (.Name x p) (e :: es) [] pos) (tCall sp [] E t) := by
  obtain ⟨f, fd, F, b, kp, m⟩ := o.ex
  exact pe_call (F.mono hj) hr hg m kp b .nil hx ha hdb he hpl
theorem passE0 : Passes (CXe X.prog X.w) X E0 := fun _ _ _ _ _ _ _ h => by obtain ⟨_, _, _, _, _, _, _, _, _, q⟩ := h; exact q.elim
/-- a call that does not refuse here -/
noncomputable def Rs.get : Rs → PV
  | .val p => p
  | .err _ => .non
noncomputable def Rs.isV : Rs → Prop
  | .val _ => True
  | .err _ => False
/-- raise C(..) -/
theorem xst_raise (hn : NewTo X E) (hc : X.calm = true) (q : ExcC X.K Cc) (hg : Gl X x) (hm : X.mg x = some (.ref Cc)) (ha : PA X (e :: es) (tXs X.K G C gs)) (hlen : ∀ ρ, (gs ρ).length = (e :: es).length := by intro _; rfl) (hz : (e :: es).length ≤ 1000 := by decide)
    (hdb : (x == ("__debug__" : Str)) = false := by decide) (he : starEach (e :: es) X.env = (false, eval e X.env) :: starEach es X.env := by rfl) (hpl : (backTo cpos (starEach (e :: es) X.env)).any (·.1) = false := by rfl) :
    PS X (.Raise (some (.Call (.Name x np) (e :: es) [] cpos)) none pos) (ts X.K G (erE E) fun P ρ => C ρ ∧ P.er Cc) :=
  toS (ps_raise hn hc q hg hm ha hz hdb he hpl fun σ H Q ⟨B, ρ, O, R, c, q⟩ => ⟨B, ρ, O, R, c, fun vs H1 s1 a1 => ⟨by rw [← a1.length]; exact hlen ρ, q vs H1 s1 a1⟩⟩) fun B σ H ρ O P D R c w => ⟨B, ρ, O, R, c.1, fun _ H1 s1 _ => w.er H1 Cc (R.same.trans s1) c.2⟩
end
end L3

/-! ### isinstance of a caught error; a try read over pure values -/
namespace L2
open PySem PySem.Spec PyProof.Rows
theorem err_class {prog : Program} {w : World} {A : Around} {E : Value → Shared → Prop} {s : Shared} {K : PySem.W.Frag} {x C : Addr} {o : Obj} {Q : Option Value → Shared → Prop} (X : K.In s.heap) (I : PySem.W.InstAt s.heap x o C none)
    (hga : PySem.W.findIn K (.ref C) "__getattribute__" = some (some (.builtin "BaseException.__getattribute__"))) (hk : PySem.W.findIn K (.ref C) "__getattr__" = some none) (hb : PySem.W.mroIn K C (.type "BaseException") = some true)
    (hf : PySem.W.findObj K C none "__class__" = some (.bind (.builtin "getset_descriptor.__get__") (.builtin "object.__class__"))) (hm : PySem.W.mroIn K C (.type "object") = some true)
    (k : Q (some (.ref C)) { s with toks := s.toks + 1 }) : wpAny (model prog w) A (getAttr? (.ref x) "__class__") Q E s := by
  obtain ⟨hh, g, d, t, os⟩ := s
  have L0 := I.type (M := model prog w)
  have L1 := PySem.W.looks_findIn (M := model prog w) X hga
  have Lk := PySem.W.looks_findIn (M := model prog w) X hk
  have Lb := PySem.W.looks_mroIn (M := model prog w) X hb
  have Lf := PySem.W.looks_find (M := model prog w) X I hf
  have bnd := (PySem.F.attr_ValueError.ga).bind (.ref x)
  unfold getAttr? getAttrBy? getAttrBy
  refine wpAny_bind (wpAny_mkText (wpAny_bind (wpAny_attempt (wpAny_holding (wpAny_bind (L0.at (wpAny_bind (L1.at ?_))))))))
  show wpAny _ _ (getAttrByItsOwn _ _ _ _ _ _) _ _ _
  unfold getAttrByItsOwn hookBefore
  rw [if_pos (show onTheHeap (.ref C) = true from rfl)]
  refine wpAny_bind (Lk.at ?_)
  refine wpAny_bind (wpAny_attempt (wpAny_holding ?_))
  show wpAny _ _ (boundAndCalled _ _ _) _ _ _
  unfold boundAndCalled
  rw [bnd]
  refine wpAny_bind (wpAny_pure ?_)
  refine wpAny_call (codeAny_call_builtin PySem.F.attr_ValueError.ga.plain PySem.F.entry_bexc_ga ?_)
  have hkk : builtinKind "BaseException.__getattribute__" = some .slot := by decide +kernel
  have hsplit : splitId "BaseException.__getattribute__" = some ("BaseException", "__getattribute__") := by decide +kernel
  have haa := PySem.F.args_bexc_ga (.ref x) (.str "__class__" t)
  simp only [checkBuiltinCall, hkk, hsplit]
  have LI : PySem.W.Looks (model prog w) hh (isInstance (.ref x) (.type "BaseException")) true := L0.andThen Lb
  refine wpAny_bind (LI.at ?_)
  rw [if_neg (by decide)]
  refine wpAny_of_eq (a := ()) haa ?_
  show wpAny _ _ (Builtin.«object.__getattribute__» ⟨[.ref x, .str "__class__" t], []⟩) _ _ _
  unfold Builtin.«object.__getattribute__»
  refine wpAny_bind (wpAny_of_eq (a := (.ref x, [.str "__class__" t])) rfl ?_)
  refine wpAny_bind (wpAny_pure (wpAny_bind (L0.at (wpAny_bind (Lf.at ?_)))))
  refine wpAny_bind (wpAny_holding (wpAny_call ?_))
  refine PySem.W.class_get (s := ⟨hh, g, d, t + 1, os⟩) (ox := o) (od := none) X I hm ?_
  exact wpAny_pure (PySem.W.handed_on rfl (wpAny_pure k))
/-- what isinstance asks of an error's own class -/
structure ErrK (K : PySem.W.Frag) (C : Addr) : Prop where
  hg : PySem.W.findIn K (.ref C) "__getattribute__" = some (some (.builtin "BaseException.__getattribute__"))
  hk : PySem.W.findIn K (.ref C) "__getattr__" = some none
  hb : PySem.W.mroIn K C (.type "BaseException") = some true
  hd : PySem.W.hasDictIn K C = true
  ha : PySem.W.findIn K (.ref C) "__class__" = some (some (.builtin "object.__class__"))
  hn : PySem.W.specialIn K (.builtin "object.__class__") "__get__" = some (some (.builtin "getset_descriptor.__get__"))
  htk : PySem.W.takesIn K (.builtin "object.__class__") = some true
  hm : PySem.W.mroIn K C (.type "object") = some true
noncomputable abbrev excP (a : Addr) (cls : Value) : Heap → Prop := fun h => ∃ o vs, h.get? a = some o ∧ o.cls = cls ∧ o.dict = none ∧ o.data = .fields vs
theorem ErrK.lk {K : PySem.W.Frag} {C : Addr} (F : ErrK K C) : ∃ c d cd sl, K.lookup C = some ⟨c, d, .cls cd, sl⟩ := by
  obtain ⟨cd, hc, _⟩ := PySem.W.any_some F.hd
  unfold PySem.W.clsIn at hc
  split at hc
  · rename_i c' d' cd' sl' ho
    exact ⟨c', d', cd', sl', ho⟩
  · cases hc
theorem kitx_err {K : PySem.W.Frag} {x C : Addr} (F : ErrK K C) : PySem.W.KitX K (.ref x) (.ref C) (excP x (.ref C)) where
  ty := fun _ _ _ ⟨_, _, e, hc, _⟩ => by
    rw [← hc]
    exact (PySem.W.Looks.ld e).andThen .now
  it := fun _ _ X _ => by
    obtain ⟨c, d, cd, sl, ho⟩ := F.lk
    intro A Q E s k q
    unfold isType loadHead
    exact wpAny_bind (wpAny_loadPart (k _ _ (X _ _ ho)) (wpAny_pure q))
  ne := fun h tp dd its n sl X htp => by
    obtain ⟨c, d, cd, sl', ho⟩ := F.lk
    refine Bool.eq_false_iff.mpr fun q => ?_
    obtain rfl : C = tp := Value.ref.inj (beq_iff_eq.mp q)
    have z := (X _ _ ho).symm.trans htp
    cases z
  ca := fun {_ _ _ _ _ s} X ⟨o, vs, e, hc, hdi, hd⟩ k => by
    have I : PySem.W.InstAt s.heap x o C none := ⟨e, hc, by unfold PySem.W.notCls; rw [hd], by rw [hdi]; exact True.intro⟩
    have hf : PySem.W.findObj K C none "__class__" = some (.bind (.builtin "getset_descriptor.__get__") (.builtin "object.__class__")) := by
      obtain ⟨cd, hc', _⟩ := PySem.W.any_some F.hd
      unfold PySem.W.findObj
      rw [hc', Option.bind_some, F.ha, Option.bind_some]
      simp [F.hn, F.htk]
    exact err_class X I F.hg F.hk F.hb hf F.hm k
noncomputable def rIsx (K : PySem.W.Frag) : List V → Hp → VK → Prop := fun xs H Q => (∃ x c t cv b, xs = [x, c] ∧ clsV c = some cv ∧ TyOf K H x t ∧ PySem.W.kitOne K t cv = some b ∧ Q (.bl b) H) ∨
  ∃ a c C cv b, xs = [.ref a, c] ∧ clsV c = some cv ∧ H a = some (excO a (.ref C)) ∧ ErrK K C ∧ PySem.W.kitOne K (.ref C) cv = some b ∧ Q (.bl b) H
theorem call_isx {X : Cx} : CallR X (.builtin "isinstance") (rIsx X.K) := by
  intro pins s σ H xs us Q I r h
  rcases h with h | ⟨a, c, C, cv, b, rfl, hc, ha, F, e, q⟩
  · exact call_isinst pins s σ H xs us Q I r h
  · obtain ⟨u, w', rfl, r1, r2⟩ := vals2 r
    obtain rfl := clsV_rel hc r2
    obtain rfl : u = .ref a := r1
    exact PySem.W.kia_one (kitx_err F) I.kIn (I.hok a _ ha).1 e (fun z => nomatch z) fun tk => ⟨.bl b, H, I.tok tk, rfl, q⟩
end L2
namespace L3
open PySem PySem.Spec PyProof.Rows L2
/-- objects of sort 1 are caught errors, numbered by their class -/
structure GErr (G : Gx) : Prop where
  into : ∀ (H : Hp) (a C : Addr), H a = some (excO a (.ref C)) → G.ob 1 H a (C : Nat)
  get : ∀ (H : Hp) (a : Addr) (z : Int), G.ob 1 H a z → ∃ C : Addr, z = (C : Nat) ∧ H a = some (excO a (.ref C))
noncomputable def instOkX (K : PySem.W.Frag) (p c : PV) : Prop := instOk K p c ∨ ∃ C cv b, p = .ob 1 ((C : Nat) : Int) ∧ ErrK K C ∧ clsP c = some cv ∧ PySem.W.kitOne K (.ref C) cv = some b
noncomputable def instPX (K : PySem.W.Frag) : PV → PV → Bool
  | .ob _ z, c => match clsP c with
    | some cv => PySem.W.kitOne K (.ref z.toNat) cv == some true
    | none => false
  | p, c => instP K p c
theorem instPX_err {K : PySem.W.Frag} {c : PV} {k C : Nat} {cv : Value} {b : Bool} (h2 : clsP c = some cv) (h : PySem.W.kitOne K (.ref C) cv = some b) : instPX K (.ob k ((C : Nat) : Int)) c = b := by
  show (match clsP c with | some cv => PySem.W.kitOne K (.ref ((C : Nat) : Int).toNat) cv == some true | none => false) = b
  rw [h2]
  show (PySem.W.kitOne K (.ref ((C : Nat) : Int).toNat) cv == some true) = b
  rw [Int.toNat_natCast, h]
  cases b <;> rfl
theorem instPX_of {K : PySem.W.Frag} {p c : PV} {t : Value} (h1 : tyP p = some t) : instPX K p c = instP K p c := by
  cases p <;> first | rfl | cases h1
section
variable {X : Cx} {G : Gx} {a c e : Expr} {es : List Expr} {pos p : Pos} {Ca Cc C : En → Prop} {ga gc : En → PV}
theorem xe_isx (hG : GErr G) (hm : X.mg "isinstance" = none) (ha : PE X a (tX X.K G Ca ga)) (hc : PE X c (tX X.K G Cc gc)) (hg : Gl X "isinstance" := by rfl) (he : starEach [a, c] X.env = (false, eval a X.env) :: starEach [c] X.env := by rfl) (he2 : starEach [c] X.env = [(false, eval c X.env)] := by rfl)
    (hpl : (backTo pos (starEach [c] X.env)).any (·.1) = false := by rfl) :
    PE X (.Call (.Name "isinstance" p) [a, c] [] pos) (tXB X.K G (fun ρ => Ca ρ ∧ Cc ρ ∧ instOkX X.K (ga ρ) (gc ρ)) fun ρ => instPX X.K (ga ρ) (gc ρ) = true) :=
  toX (pe_callB call_isx hg hm bt_isinstance (pa_cons ha (pa_cons hc pa_nil he2) he) (by decide) (by decide) he hpl) fun B σ H ρ O Q R cc q => ⟨B, ρ, O, R, cc.1, fun v H1 s1 a1 => ⟨B, ρ, O, R.grow s1, cc.2.1, fun u H2 s2 a2 => by
    rcases cc.2.2 with ⟨t, cv, b, h1, h2, h3⟩ | ⟨C, cv, b, h1, F, h2, h3⟩
    · refine .inl ⟨v, u, t, cv, b, rfl, At.cls a2 h2, TyOf.up (mn_le.trans s2) (a1.ty h1), h3, q _ H2 (s1.trans s2) ?_⟩
      show V.bl b = V.bl (decide (instPX X.K (ga ρ) (gc ρ) = true))
      rw [instPX_of h1, instP_of h1 h2 h3, Bool.decide_eq_true]
    · have a1' := At.mono (mn_same s2) _ _ a1
      rw [h1] at a1'
      obtain ⟨ad, rfl, ob⟩ := a1'
      obtain ⟨C', ez, hx⟩ := hG.get _ _ _ ob
      obtain rfl : C = C' := Int.ofNat.inj ez
      refine .inr ⟨ad, u, C, cv, b, rfl, At.cls a2 h2, mn_le _ _ hx, F, h3, q _ H2 (s1.trans s2) ?_⟩
      show V.bl b = V.bl (decide (instPX X.K (ga ρ) (gc ρ) = true))
      rw [h1, instPX_err h2 h3, Bool.decide_eq_true]⟩⟩
end
section
variable {X : Cx} {G : Gx} {Er : ER} {e : Expr} {es : List Expr} {C : En → Prop} {gs : En → List PV} {pre : List PV → Prop} {F : List PV → Rs} {f x n y : Str} {Cc : Addr} {i j k l : Nat} {ps : List Str} {px py pn hp p1 p2 pos p cpos : Pos}
/-- behind a caught error: y alone, the error -/
noncomputable abbrev onlyE (N : Nat) (j : Nat) (C : Addr) : En := (List.replicate N Sl.un).set j (.fr (.ob 1 ((C : Nat) : Int)))
theorem rep_only {B : Bs} {σ : L2.St} {H H' : Hp} {ρ : En} {O : Addr → Bool} {a : Addr} {N : Nat} (hG : GErr G) {K : PySem.W.Frag} (R : Rep K G B σ H ρ O) (s : Same H H') (ha : H' a = none) : Rep K G B ((List.replicate N none).set j (some (.ref a))) (upd H' a (excO a (.ref Cc))) (onlyE N j Cc) O := by
  have R1 := (R.grow s).grow (same_new ha (excO a (.ref Cc)))
  have oa : O a = false := by
    cases z : O a with
    | false => rfl
    | true => exact absurd ha ((R.grow s).dom a z)
  have un : ∀ (m : Nat) (q : Sl), (List.replicate N Sl.un)[m]? = some q → q = .un := fun m q e => by
    rw [List.getElem?_replicate] at e
    split at e
    · cases e; rfl
    · cases e
  refine ⟨R1.same, R1.cd, R1.hid, R1.dom, R1.vis, fun m q e => ?_, fun m q e => ?_, fun m m' q q' b e => ?_, by simp, fun m xs ys e => ?_⟩
  · rcases set_at e with ⟨rfl, e, l⟩ | ⟨_, e⟩
    · cases e
      rw [List.length_replicate] at l
      refine ⟨.ref a, set_eq (by rw [List.length_replicate]; exact l), a, rfl, hG.into _ _ _ ?_⟩
      rw [mn_of oa]; exact upd_same
    · cases un m _ e
  · rcases set_at e with ⟨_, e, _⟩ | ⟨_, e⟩
    · cases e
    · cases un m _ e
  · rcases set_at e with ⟨_, e, _⟩ | ⟨_, e⟩
    · cases e
    · cases un m _ e
  · rcases set_at e with ⟨_, e, _⟩ | ⟨_, e⟩
    · cases e
    · cases un m _ e
end
end L3

/-! ### lists compared, sums, kinds made, comprehensions with a test, zip, a tuple taken apart -/
namespace L2
open PySem PySem.Spec PyProof.Rows
section
variable {X : Cx}
end
end L2
namespace L3
open PySem PySem.Spec PyProof.Rows L2
section
variable {X : Cx} {G : Gx} {Er : ER} {a b e : Expr} {pos p px apos : Pos} {C Ca Cb : En → Prop} {gl hl : En → List Int} {i j k : Nat} {x : Str}
/-! values that are new: told by a def whose caller goes on changing what it handed in -/
noncomputable def tXns (K : PySem.W.Frag) (G : Gx) (C : En → Prop) (g : En → List PV) (B : Bs) (ρ : En) : TA := fun σ H Q => ∃ O, Rep K G B σ H ρ O ∧ C ρ ∧ ∀ vs H', Same H H' → AtL K G (mn H' fun a => (B.H0 a).isSome) (g ρ) vs → Q vs H'
/-- the same, with what is known named -/
noncomputable def tXnB (K : PySem.W.Frag) (G : Gx) (C : En → Prop) (g : En → PV) (B : Bs) (ρ : En) : TE := fun σ H Q => ∃ O, Rep K G B σ H ρ O ∧ C ρ ∧ ∀ v H', Same H H' → At K G (mn H' fun a => (B.H0 a).isSome) (g ρ) v → Q v H'
noncomputable abbrev PN (X : Cx) (G : Gx) (e : Expr) (C : En → Prop) (g : En → PV) : Prop := ∀ B ρ, PE X e (tXnB X.K G C g B ρ)
noncomputable abbrev PNs (X : Cx) (G : Gx) (es : List Expr) (C : En → Prop) (g : En → List PV) : Prop := ∀ B ρ, PA X es (tXns X.K G C g B ρ)
theorem new_seen {B : Bs} {H H' : Hp} {a : Addr} (s : Same B.H0 H) (n : H a = none) : mn H' (fun a => (B.H0 a).isSome) a = H' a := mn_of (by rw [s.free n]; rfl)
theorem nO (i : Nat) {x : Str} (hN : X.N[i]? = some x := by rfl) (hv : Vis X.env.scope x := by first | exact Or.inl rfl | exact Or.inr (Or.inl rfl) | exact Or.inr (Or.inr rfl))
    (hd : (x == ("__debug__" : Str)) = false := by decide) (hcd : (x == ("__classdict__" : Str)) = false := by decide) : PN X G (.Name x pos) (fun ρ => isO ρ i) fun ρ => .ints (getL ρ i) :=
  fun B ρ pins s σ H Q I ⟨O, R, c, q⟩ => pe_var hN hv hd hcd pins s σ H Q I (by
    obtain ⟨a, vs, e1, e2, e3, e4, e5⟩ := R.ow i _ c
    have e5 : vs = (getL ρ i).map V.int := e5
    subst e5
    refine ⟨_, e1, q _ H (Same.refl H) ⟨a, rfl, .inl ?_⟩⟩
    rw [mn_of (by rw [e3]; rfl)]
    exact e4)
theorem na_nil : PNs X G [] (fun _ => True) fun _ => [] := fun B ρ pos pins s σ H Q I ⟨_, _, _, q⟩ => pa_nil pos pins s σ H Q I (q [] H (Same.refl H) rfl)
theorem na_cons {g : En → PV} {gs : En → List PV} {es : List Expr} (ha : PN X G e Ca g) (hr : PNs X G es Cb gs) (hs : starEach (e :: es) X.env = (false, eval e X.env) :: starEach es X.env := by rfl) : PNs X G (e :: es) (fun ρ => Ca ρ ∧ Cb ρ) fun ρ => g ρ :: gs ρ :=
  fun B ρ pos pins s σ H Q I ⟨O, R, c, q⟩ => pa_cons (ha B ρ) (hr B ρ) hs pos pins s σ H Q I ⟨O, R, c.1, fun v H1 s1 a1 => ⟨O, R.grow s1, c.2, fun vs H2 s2 a2 => q _ H2 (s1.trans s2) ⟨v, vs, rfl, At.mono (mn_same s2) _ _ a1, a2⟩⟩⟩
theorem n_tup {gs : En → List PV} {es : List Expr} {x1} (h : PNs X G es C gs) (hz : ∀ ρ, (gs ρ).length ≤ 1000 := by intro _; exact Nat.le_of_ble_eq_true rfl) : PN X G (.Tuple es x1 pos) C fun ρ => .tup (gs ρ) :=
  fun B ρ pins s σ H Q I ⟨O, R, c, q⟩ => pe_tup (h B ρ) pins s σ H Q I ⟨O, R, c, fun vs H1 s1 a1 => ⟨by rw [← a1.length]; exact Nat.le_of_lt (small1000 (hz ρ)), fun a ha => by
    refine q (.ref a) _ (s1.trans (same_new ha _)) ⟨a, vs, rfl, by rw [new_seen (R.same.trans s1) ha]; exact upd_same, AtL.mono (mn_same (same_new ha _)) _ _ a1⟩⟩⟩
theorem xst_retn {g : En → PV} (h : PN X G e C g) : PS X (.Return (some e) pos) (ts X.K G Er fun P ρ => C ρ ∧ P.rn (g ρ)) :=
  fun pins s σ H D I ⟨B, ρ, P, ⟨O, R⟩, c, w⟩ => ps_ret (h B ρ) pins s σ H D I ⟨O, R, c.1, fun v H1 s1 a1 => w.rn v H1 _ (R.same.trans s1) a1 c.2⟩
noncomputable def pvL : PV → List Int
  | .ints ns => ns
  | _ => []
theorem xl_of {g : En → PV} (h : PE X e (tX X.K G C g)) : PE X e (tXL X.K G (fun ρ => C ρ ∧ g ρ = .ints (pvL (g ρ))) fun ρ => pvL (g ρ)) :=
  toX h fun B σ H ρ O Q R c q => ⟨B, ρ, O, R, c.1, fun v H' s a => q v H' s (by rw [← c.2]; exact a)⟩
end
section
variable {P : Program} {w : World} {K : PySem.W.Frag} {mg : Str → Option Value} {base : Heap} {G : Gx}
end
/-! kinds that are made where they are used -/
noncomputable def spNewW (C : Addr) : Sp := fun vs H Q _ => ∃ x dx : Addr, vs = [.ref x] ∧ H x = some (.ins C dx []) ∧ Q .non (upd H x (.ins C dx [("size", .int 0)]))
/-- Wholes alone -/
noncomputable def KW (cW : Addr) (H : Hp) (a : Addr) (z : Int) : Prop := z = 0 ∧ ∃ dx fs, H a = some (.ins cW dx fs) ∧ fs.lookup ("size" : Str) = some (.int 0) ∧ ∀ m ∈ kMeths, fs.lookup m = none
theorem KW.same {cW : Addr} {H H' : Hp} {a : Addr} {z : Int} (k : KW cW H a z) (s : Same H H') : KW cW H' a z := by
  obtain ⟨e0, dx, fs, e, r⟩ := k
  exact ⟨e0, dx, fs, s _ _ e, r⟩
section
variable {X : Cx} {G : Gx} {pos p : Pos} {j k : Nat} {x : Str} {C : Addr}
end
/-! comprehensions with a test -/
section
variable {K : PySem.W.Frag} {G : Gx} {B : Bs} {σ : L2.St} {H H1 : Hp} {ρ : En} {O : Addr → Bool} {D : Addr} {cap : List (Option Nat)}
variable {α : Type} {J : It} {g : TG} {C Ct : En → Prop} {pt : En → Prop} [∀ ρ, Decidable (pt ρ)] {gb : En → PV} {Q : VK}
end
section
variable {K : PySem.W.Frag} {G : Gx} {σ : L2.St} {H : Hp} {Q : VK} {Cs Ct Cb : En → Prop} {pt : En → Prop} [∀ ρ, Decidable (pt ρ)] {gs hs : En → List Int} {gi : En → Int} {gp : En → PV} {cap : List (Option Nat)}
end
section
variable {X : Cx} {G : Gx} {Er : ER} {N' : List Str} {sc : Scope} {cl : List (Str × Addr)} {cap : List (Option Nat)} {el tg src tst l l2 : Expr} {at' spos px p pos' : Pos} {Cs Cs' Ct Cb : En → Prop} {pt : En → Prop} [∀ ρ, Decidable (pt ρ)] {gs hs : En → List Int} {gi : En → Int} {gp : En → PV} {i : Nat} {x : Str}
end
end L3
/-! the law's promise, with the size of the script's numbers -/
namespace L2
open PySem PySem.Spec PyProof.Rows PySem.W PySem.Calls
end L2
namespace L3
open PySem PySem.Spec PyProof.Rows L2
end L3

/-! ### expressions that may refuse: calls, makers; a try around any of them; fields of kinds -/
namespace L3
open PySem PySem.Spec PyProof.Rows L2
/-- an expression that may refuse -/
noncomputable def tR (K : PySem.W.Frag) (G : Gx) (C : En → Prop) (F : En → Rs) (E : XK) : TE := fun σ H Q => ∃ B ρ O, Rep K G B σ H ρ O ∧ C ρ ∧ (∀ p, F ρ = .val p → ∀ v H', Same H H' → At K G (mn H' O) p v → Q v H') ∧ ∀ c, F ρ = .err c → ∀ H', Same H H' → E (.ref c) none H'
noncomputable abbrev PR (X : Cx) (G : Gx) (e : Expr) (C : En → Prop) (F : En → Rs) : Prop := ∀ E, Passes (CXe X.prog X.w) X E → PE X e (tR X.K G C F E)
section
variable {X : Cx} {G : Gx} {Er : ER} {E : XK} {e : Expr} {es : List Expr} {pos p pos' : Pos} {i j k l : Nat} {x y n : Str} {ps : List Str} {pre : List PV → Prop} {C : En → Prop} {gs : En → List PV} {g : En → PV} {F : List PV → Rs} {FE : En → Rs} {Cc Cl : Addr} {px py pn hp p1 p2 : Pos}
theorem xst_setR (h : PR X G e C FE) (hx : Passes (CXe X.prog X.w) X E) (hN : X.N.Nodup) (hi : X.N[i]? = some y) (hy : Loc X.env.scope y) (hs : swapsWith e (some (.Name y py)) pos.line X.env = pure false := by rfl)
    (hf : X.fn y = true ∨ X.env.scope.names.lookup y = some .local := by first | exact .inl rfl | exact .inr rfl | assumption) : PS X (.Assign [.Name y py] e pos) (ts X.K G (erE E) fun P ρ => C ρ ∧ (∀ p, FE ρ = .val p → P.nx (ρ.set i (.fr p))) ∧ ∀ c, FE ρ = .err c → P.er c) :=
  toS (ps_set hN hi hy (h E hx) hs hf) fun B σ H ρ O P D R c w => ⟨B, ρ, O, R, c.1, fun p hp v H2 s2 a2 => w.nx _ H2 _ ⟨O, (R.grow s2).set a2⟩ (c.2.1 p hp), fun cc hcc H2 s2 => w.er H2 cc (R.same.trans s2) (c.2.2 cc hcc)⟩
/-- try: e / except C as n: y = n -/
theorem xst_tryR (hG : GErr G) (hc : X.calm = true) (hst : X.stack = X.env :: X.outer) (hfr : X.env.frame = some X.env.locals) (hex : X.ex = []) (hg : Gl X x) (hm : X.mg x = some (.ref Cc)) (hN : X.N.Nodup) (hi : X.N[i]? = some n) (hj : X.N[j]? = some y) (hln : X.env.scope.names.lookup n = some .local) (hly : X.env.scope.names.lookup y = some .local)
    (hkn : X.env.kindOf n = some .local) (hny : y ≠ n) (hij : i ≠ j) (he : ∀ (pn : List (Addr × Obj)) (E' : Value → Shared → Prop), PR { X with pn := pn, xe := E' } G e C FE)
    (hs : swapsWith e none p1.line X.env = pure false := by rfl) (hs2 : swapsWith (.Name n pn) (some (.Name y py)) p2.line X.env = pure false := by rfl) (hdx : (x == ("__debug__" : Str)) = false := by decide) (hdn : (n == ("__debug__" : Str)) = false := by decide) (hdc : (n == ("__classdict__" : Str)) = false := by decide) :
    PS X (.Try [.Expr e p1] [.ExceptHandler (some (.Name x px)) (some n) [.Assign [.Name y py] (.Name n pn) p2] hp] [] [] pos)
      (ts X.K G Er fun P ρ => C ρ ∧ (∀ p, FE ρ = .val p → P.nx ρ) ∧ ∀ c, FE ρ = .err c → PySem.W.exmOne X.K (.ref c) (.ref Cc) = some true ∧ P.nx (onlyE X.N.length j c)) :=
  toS (ps_try (te := fun Ec => tR X.K G C FE Ec) hc hst hfr hex hg hm hN hi hj hln hly hkn hny hij (fun pn E' Ec hx => he pn E' Ec hx) hs hs2 hdx hdn hdc) fun B σ H ρ O P D R c w => ⟨B, ρ, O, R, c.1, fun p hp v H2 s2 _ => w.nx σ H2 ρ ⟨O, R.grow s2⟩ (c.2.1 p hp), fun c' hc' H2 s2 => ⟨(c.2.2 c' hc').1, fun a ha => w.nx _ _ _ ⟨O, rep_only hG R s2 ha⟩ (c.2.2 c' hc').2⟩⟩
/-! fields of kinds -/
end
/-- kinds and caught errors -/
noncomputable def GkE (KA : Hp → Addr → Int → Prop) (mono : ∀ {H H' : Hp} {a : Addr} {z : Int}, KA H a z → Same H H' → KA H' a z) : Gx :=
  ⟨fun k H a z => (k = 0 ∧ KA H a z) ∨ (k = 1 ∧ ∃ C : Addr, z = ((C : Nat) : Int) ∧ H a = some (excO a (.ref C))), fun _ _ _ _ _ s h => h.elim (fun z => .inl ⟨z.1, mono z.2 s⟩) fun z => .inr ⟨z.1, let ⟨C, e, q⟩ := z.2; ⟨C, e, s _ _ q⟩⟩⟩
theorem gkE_err {KA : Hp → Addr → Int → Prop} {mono : ∀ {H H' : Hp} {a : Addr} {z : Int}, KA H a z → Same H H' → KA H' a z} : GErr (GkE KA mono) := by
  refine ⟨fun H a C h => .inr ⟨rfl, C, rfl, h⟩, fun H a z h => ?_⟩
  rcases h with ⟨h, _⟩ | ⟨_, h⟩
  · exact absurd h (by decide)
  · exact h
end L3

/-! ### methods that may refuse; isinstance of kinds -/
namespace L2
open PySem PySem.Spec PyProof.Rows
/-- numbers handed to a method of the object at a, a number or an error out -/
noncomputable def spKME (KA : Hp → Addr → Int → Prop) (a : Addr) (z : Int) (n : Nat) (pre : Int → List Int → Prop) (F : Int → List Int → Int ⊕ Addr) : Sp := fun vs H Q E => ∃ ns : List Int, ns.length = n ∧ vs = .ref a :: ns.map V.int ∧ KA H a z ∧ pre z ns ∧ (∀ c, F z ns = .inl c → ∀ H', Same H H' → Q (.int c) H') ∧ ∀ e, F z ns = .inr e → ∀ H', Same H H' → E (.ref e) none H'
structure KME (P : Program) (w : World) (K : PySem.W.Frag) (mg : Str → Option Value) (base : Heap) (k : Nat) (KA : Hp → Addr → Int → Prop) (m : Str) (n : Nat) (pre : Int → List Int → Prop) (F : Int → List Int → Int ⊕ Addr) : Prop where
  ex : ∀ H a z, KA H a z → ∃ C dx fs ps, H a = some (.ins C dx fs) ∧ fs.lookup m = none ∧ OkM P w K mg base (CXe P w) k C m ps (spKME KA a z n pre F)
noncomputable def CDivL (_ j : Int) : Prop := j ≠ 0 ∧ j.natAbs.log2 < 9000
theorem op_fdivL {X : Cx} : OpR X (binaryOp .FloorDiv) (rI CDivL fun i j => .int (i.fdiv j)) := opI fun i j _ _ _ _ _ hc q => floordiv_int hc.1 q (.inl (PyProof.noPylong_of_log2 hc.2))
end L2
namespace L3
open PySem PySem.Spec PyProof.Rows L2
noncomputable def toRs : Int ⊕ Addr → Rs
  | .inl c => .val (.int c)
  | .inr e => .err e
section
variable {X : Cx} {G : Gx} {a b c e : Expr} {es : List Expr} {pos p px apos : Pos} {C Ca Cb Cc : En → Prop} {ga gc : En → PV} {gs : En → List PV} {i j k n : Nat} {x m : Str}
theorem xR_meth {KA : Hp → Addr → Int → Prop} {preK : Int → List Int → Prop} {F : Int → List Int → Int ⊕ Addr} {pl : Sem Bool} (i : Nat) (M : KME X.prog X.w X.K X.mg X.base j KA m n preK F) (hr : Room k X.A) (ha : PA X (e :: es) (tXs X.K G C gs)) (hn : ∀ ρ, (gs ρ).length = n := by intro _; rfl) (hG : ∀ H a z, G.ob 0 H a z → KA H a z := by first | exact fun _ _ _ h => h.2 | exact fun _ _ _ h => h.elim (fun z => z.2) fun z => absurd z.1 (by decide)) (hGm : ∀ {H H' : Hp} {a : Addr} {z : Int}, KA H a z → Same H H' → KA H' a z := by first | exact fun h s => KAt.same h s | exact fun h s => h.same s) (hj : j ≤ k := by decide)
    (hN : X.N[i]? = some x := by rfl) (hv : Vis X.env.scope x := by first | exact Or.inl rfl | exact Or.inr (Or.inl rfl) | exact Or.inr (Or.inr rfl)) (hd : (x == ("__debug__" : Str)) = false := by decide) (hcd : (x == ("__classdict__" : Str)) = false := by decide)
    (hst : starEach (e :: es) X.env = (false, eval e X.env) :: starEach es X.env := by rfl) (hpl : (backTo pos (starEach es X.env)).any (·.1) = false := by rfl)
    (ht : eval (.Call (.Attribute (.Name x px) m apos) (e :: es) [] pos) X.env = (do
      let ov ← eval (.Name x px) X.env
      standAt apos.atName
      let (f, first) ← holding [ov] (getMethod ov m pl)
      callWith pos f first (backTo pos (starEach (e :: es) X.env)) (backToKw pos (keywordEach [] X.env))) := by rfl) :
    PR X G (.Call (.Attribute (.Name x px) m apos) (e :: es) [] pos) (fun ρ => isK ρ i ∧ C ρ ∧ areI (gs ρ) ∧ preK (getZ ρ i) (allI (gs ρ))) fun ρ => toRs (F (getZ ρ i) (allI (gs ρ))) := by
  intro E hx pins s σ H Q I h
  obtain ⟨B, ρ, O, R, ⟨c0, c1, c2, c3⟩, q, qe⟩ := h
  obtain ⟨v, e1, a, rfl, ka⟩ := R.fr i _ c0
  have ka1 : KA H a (getZ ρ i) := hGm (hG _ _ _ ka) mn_le
  obtain ⟨Cl, dx, fs, ps, f1, f2, M'⟩ := M.ex H a _ ka1
  obtain ⟨f, fd, FF, bb, mm, cc⟩ := M'.ex
  refine pe_meth (pe_var hN hv hd hcd) cc mm (FF.mono hj) hr bb .nil hx ha hst hpl ht pins s σ H Q I ⟨_, e1, a, dx, fs, rfl, f1, f2, B, ρ, O, R, c1, fun vs H1 s1 a1 => ?_⟩
  have ev := a1.ints c2
  have el : (allI (gs ρ)).length = n := by rw [← hn ρ, a1.length, ev, List.length_map]
  exact ⟨allI (gs ρ), el, by rw [List.append_nil, ev], hGm ka1 s1, c3, fun c hc H' s' => q (.int c) (by dsimp only; rw [hc]; rfl) _ H' (s1.trans s') rfl, fun er her H' s' => qe er (by dsimp only; rw [her]; rfl) H' (s1.trans s')⟩
end
end L3

/-! defs that refuse or tell a new value -/
namespace L3
open PySem PySem.Spec PyProof.Rows L2
noncomputable def spEN (K : PySem.W.Frag) (G : Gx) (pre : List PV → Prop) (F : List PV → Rs) : Sp := fun vs H Q E => ∃ as, AtL K G H as vs ∧ pre as ∧ (∀ p, F as = .val p → ∀ v H', Same H H' → At K G (mn H' fun a => (H a).isSome) p v → Q v H') ∧ ∀ C, F as = .err C → ∀ H', Same H H' → E (.ref C) none H'
section
variable {P : Program} {w : World} {K : PySem.W.Frag} {mg : Str → Option Value} {base : Heap} {G : Gx}
theorem okEN {x : Str} {st : Stmt} {N ps : List Str} {k : Nat} {pre : List PV → Prop} {F : List PV → Rs} (d : Def K mg x st ps) (S : FnScope N ps (defScope st)) (len : ∀ as, pre as → as.length = ps.length)
    (hbody : ∀ (f : Addr) (cdv : Value) (A : Around) (outer : List Env) (s : Shared) (H : Hp) (E : XK), Room k (A.deeper (envOfC x (defScope st) s.heap.objs.size f cdv)) →
      ∃ fs, PSs (cxOf (CXe P w) P w K mg base N x (defScope st) f cdv A outer s H E) (defBody st) (ts K G (erE E) fs) ∧ ∀ as, pre as → fs { nx := fun _ => False, rt := fun _ => False, rn := fun p => F as = .val p, er := fun C => F as = .err C } (startR N as)) : OkE P w K mg base (k + 1) x ps (spEN K G pre F) := by
  obtain ⟨f, fd, Fu, b, m⟩ := d.ex
  refine ⟨f, fd, ?_, b, Fu.kp, m⟩
  obtain ⟨oc, od, kV, doc, pm, an, cdv, ct, osl, rfl, lk, hcd⟩ := Fu.ex
  refine fn_of lk hcd S (fun vs H Q E h => ?_) fun A outer s H vs Q E hr h => ?_
  · obtain ⟨as, al, hp, _⟩ := h
    rw [← al.length]; exact len as hp
  obtain ⟨as, al, hp, q, qe⟩ := h
  obtain ⟨fs, b, c⟩ := hbody f cdv A outer s H E hr
  exact ⟨_, b, ⟨H, fun _ => false⟩, startR N as, _, ⟨_, rep_start (fun _ z => by cases z) (by rw [mn_no]; exact al)⟩, c as hp, ⟨fun _ _ _ _ h => h.elim, fun _ _ _ _ _ h => h.elim, fun _ _ _ _ _ _ h => h.elim, fun v H' p s' a' h => q p h v H' s' a', fun _ _ _ _ h => h, fun _ _ _ _ h => h, fun H' C s' h => qe C h H' s'⟩⟩
end
section
variable {X : Cx} {G : Gx} {e : Expr} {es : List Expr} {pos p : Pos} {j k : Nat} {x : Str} {ps : List Str} {pre : List PV → Prop} {C : En → Prop} {gs : En → List PV} {F : List PV → Rs}
theorem new_old {B : Bs} {σ : L2.St} {H H1 H2 : Hp} {ρ : En} {O : Addr → Bool} (R : Rep X.K G B σ H ρ O) (s1 : Same H H1) : Same (mn H2 fun a => (H1 a).isSome) (mn H2 O) := mn_anti fun b z => by
  cases e : H1 b with
  | none => exact absurd (s1.free e) (R.dom b z)
  | some o => rfl
/-- a call that does not refuse here -/
theorem rcnV (o : OkE X.prog X.w X.K X.mg X.base j x ps (spEN X.K G pre F)) (hr : Room k X.A) (ha : PA X (e :: es) (tXrs X.K G C gs)) (hj : j ≤ k := by decide) (hg : Gl X x := by rfl) (hdb : (x == ("__debug__" : Str)) = false := by decide)
    (he : starEach (e :: es) X.env = (false, eval e X.env) :: starEach es X.env := by rfl) (hpl : (backTo pos (starEach es X.env)).any (·.1) = false := by rfl) :
    PE X (.Call (.Name x p) (e :: es) [] pos) (tX X.K G (fun ρ => C ρ ∧ pre (gs ρ) ∧ (F (gs ρ)).isV) fun ρ => (F (gs ρ)).get) :=
  toX (pe_callE (E := E0) o passE0 hr ha hj hg hdb he hpl) fun B σ H ρ O Q R c q => ⟨B, ρ, O, R, c.1, fun vs H1 s1 a1 => by
    dsimp only
    rw [List.append_nil]
    refine ⟨gs ρ, a1, c.2.1, fun p hp v H2 s2 a2 => q v H2 (s1.trans s2) ?_, fun Cc hc => ?_⟩
    · rw [hp]; exact At.mono (new_old R s1) _ _ a2
    · have z := c.2.2
      rw [hc] at z
      exact z.elim⟩
theorem xR_callN (o : OkE X.prog X.w X.K X.mg X.base j x ps (spEN X.K G pre F)) (hr : Room k X.A) (ha : PA X (e :: es) (tXs X.K G C gs)) (hj : j ≤ k := by decide) (hg : Gl X x := by rfl) (hdb : (x == ("__debug__" : Str)) = false := by decide)
    (he : starEach (e :: es) X.env = (false, eval e X.env) :: starEach es X.env := by rfl) (hpl : (backTo pos (starEach es X.env)).any (·.1) = false := by rfl) : PR X G (.Call (.Name x p) (e :: es) [] pos) (fun ρ => C ρ ∧ pre (gs ρ)) fun ρ => F (gs ρ) :=
  fun E hx pins s σ H Q I ⟨B, ρ, O, R, c, q, qe⟩ => pe_callE o hx hr ha hj hg hdb he hpl pins s σ H Q I ⟨B, ρ, O, R, c.1, fun vs H1 s1 a1 => by
    dsimp only
    rw [List.append_nil]
    exact ⟨gs ρ, AtL.mono mn_le _ _ a1, c.2, fun p hp v H2 s2 a2 => q p hp v H2 (s1.trans s2) (At.mono (new_old R s1) _ _ a2), fun cc hcc H2 s2 => qe cc hcc H2 (s1.trans s2)⟩⟩
end
end L3

namespace K13
open PySem L2 L3 PyProof.Rows FM
noncomputable abbrev s_cut_noughts : Stmt := top 7
theorem sc_cut_noughts : FnScope ["numbers"] ["numbers"] (defScope s_cut_noughts) := ⟨rfl, rfl, rfl, by decide +kernel, rfl, by decide +kernel, by decide +kernel⟩
noncomputable abbrev s_trimmed : Stmt := top 8
theorem sc_trimmed : FnScope ["kind", "f", "numbers"] ["kind", "f"] (defScope s_trimmed) := ⟨rfl, rfl, rfl, by decide +kernel, rfl, by decide +kernel, by decide +kernel⟩
noncomputable abbrev s_divided : Stmt := top 9
theorem sc_divided : FnScope ["kind", "f", "g", "rest", "divisor", "quotient", "gap", "often", "at", "number"] ["kind", "f", "g"] (defScope s_divided) := ⟨rfl, rfl, rfl, by decide +kernel, rfl, by decide +kernel, by decide +kernel⟩
noncomputable abbrev s_is_prime : Stmt := top 13
theorem sc_is_prime : FnScope ["number", "divisor"] ["number"] (defScope s_is_prime) := ⟨rfl, rfl, rfl, by decide +kernel, rfl, by decide +kernel, by decide +kernel⟩
noncomputable abbrev s_turned : Stmt := top 14
theorem sc_turned : FnScope ["number", "size", "before", "rest", "share_before", "share", "often", "rest_behind", "share_behind"] ["number", "size"] (defScope s_turned) := ⟨rfl, rfl, rfl, by decide +kernel, rfl, by decide +kernel, by decide +kernel⟩
noncomputable abbrev s_refuse_no_prime : Stmt := top 15
theorem sc_refuse_no_prime : FnScope ["number"] ["number"] (defScope s_refuse_no_prime) := ⟨rfl, rfl, rfl, by decide +kernel, rfl, by decide +kernel, by decide +kernel⟩
noncomputable abbrev s_taken_times : Stmt := top 16
theorem sc_taken_times : FnScope ["number", "many", "product", "step"] ["number", "many"] (defScope s_taken_times) := ⟨rfl, rfl, rfl, by decide +kernel, rfl, by decide +kernel, by decide +kernel⟩
noncomputable abbrev s_cell_at : Stmt := top 22
theorem sc_cell_at : FnScope ["_law_script", "_law_k"] ["_law_script", "_law_k"] (defScope s_cell_at) := ⟨rfl, rfl, rfl, by decide +kernel, rfl, by decide +kernel, by decide +kernel⟩
noncomputable abbrev s_head : Stmt := top 23
theorem sc_head : FnScope ["_law_script", "_law_number_here"] ["_law_script"] (defScope s_head) := ⟨rfl, rfl, rfl, by decide +kernel, rfl, by decide +kernel, by decide +kernel⟩
noncomputable abbrev s_law_is_prime : Stmt := top 24
theorem sc_law_is_prime : FnScope ["_law_number_here", "_law_at"] ["_law_number_here"] (defScope s_law_is_prime) := ⟨rfl, rfl, rfl, by decide +kernel, rfl, by decide +kernel, by decide +kernel⟩
noncomputable abbrev s_prime : Stmt := top 25
theorem sc_prime : FnScope ["_law_cell", "_law_number_here"] ["_law_cell"] (defScope s_prime) := ⟨rfl, rfl, rfl, by decide +kernel, rfl, by decide +kernel, by decide +kernel⟩
noncomputable abbrev s_size : Stmt := top 26
theorem sc_size : FnScope ["_law_way", "_law_prime_here", "_law_many", "_law_size_here", "_law_turn"] ["_law_way", "_law_prime_here", "_law_many"] (defScope s_size) := ⟨rfl, rfl, rfl, by decide +kernel, rfl, by decide +kernel, by decide +kernel⟩
noncomputable abbrev s_kind : Stmt := top 27
theorem sc_kind : FnScope ["_law_way", "_law_prime_here", "_law_many"] ["_law_way", "_law_prime_here", "_law_many"] (defScope s_kind) := ⟨rfl, rfl, rfl, by decide +kernel, rfl, by decide +kernel, by decide +kernel⟩
noncomputable abbrev s_plain : Stmt := top 28
theorem sc_plain : FnScope ["_law_number_here", "_law_size_here"] ["_law_number_here", "_law_size_here"] (defScope s_plain) := ⟨rfl, rfl, rfl, by decide +kernel, rfl, by decide +kernel, by decide +kernel⟩
noncomputable abbrev s_trim : Stmt := top 29
theorem sc_trim : FnScope ["_law_row", "_law_size_here"] ["_law_row", "_law_size_here"] (defScope s_trim) := ⟨rfl, rfl, rfl, by decide +kernel, rfl, by decide +kernel, by decide +kernel⟩
noncomputable abbrev s_whole : Stmt := top 30
theorem sc_whole : FnScope ["_law_found"] ["_law_found"] (defScope s_whole) := ⟨rfl, rfl, rfl, by decide +kernel, rfl, by decide +kernel, by decide +kernel⟩
noncomputable abbrev s_alike : Stmt := top 31
theorem sc_alike : FnScope ["_law_found", "_law_due", "_law_k"] ["_law_found", "_law_due"] (defScope s_alike) := ⟨rfl, rfl, rfl, by decide +kernel, rfl, by decide +kernel, by decide +kernel⟩
noncomputable abbrev s_number : Stmt := top 32
theorem sc_number : FnScope ["_law_cell", "_law_place", "_law_number_here"] ["_law_cell", "_law_place"] (defScope s_number) := ⟨rfl, rfl, rfl, by decide +kernel, rfl, by decide +kernel, by decide +kernel⟩
noncomputable abbrev s_times : Stmt := top 33
theorem sc_times : FnScope ["_law_f", "_law_g", "_law_size_here", "_law_row", "_law_i", "_law_k"] ["_law_f", "_law_g", "_law_size_here"] (defScope s_times) := ⟨rfl, rfl, rfl, by decide +kernel, rfl, by decide +kernel, by decide +kernel⟩
noncomputable abbrev s_sum : Stmt := top 34
theorem sc_sum : FnScope ["_law_f", "_law_g", "_law_size_here", "_law_many", "_law_fs", "_law_gs"] ["_law_f", "_law_g", "_law_size_here"] (defScope s_sum) := ⟨rfl, rfl, rfl, by decide +kernel, rfl, by decide +kernel, by decide +kernel⟩
noncomputable abbrev s_refused : Stmt := top 35
theorem sc_refused : FnScope ["_law_kind_here", "_law_f", "_law_g", "_law_caught", "e"] ["_law_kind_here", "_law_f", "_law_g"] (defScope s_refused) := ⟨rfl, rfl, rfl, by decide +kernel, rfl, by decide +kernel, by decide +kernel⟩
noncomputable abbrev s_pair : Stmt := top 36
theorem sc_pair : FnScope ["_law_found", "_law_quotient", "_law_rest"] ["_law_found", "_law_quotient", "_law_rest"] (defScope s_pair) := ⟨rfl, rfl, rfl, by decide +kernel, rfl, by decide +kernel, by decide +kernel⟩
noncomputable abbrev s_amiss : Stmt := top 37
theorem sc_amiss : FnScope ["_law_quotient", "_law_g", "_law_number_here", "_law_f", "_law_at"] ["_law_quotient", "_law_g", "_law_number_here"] (defScope s_amiss) := ⟨rfl, rfl, rfl, by decide +kernel, rfl, by decide +kernel, by decide +kernel⟩
noncomputable abbrev s_led : Stmt := top 38
theorem sc_led : FnScope ["_law_row", "_law_size_here", "_law_prime_here"] ["_law_row", "_law_size_here", "_law_prime_here"] (defScope s_led) := ⟨rfl, rfl, rfl, by decide +kernel, rfl, by decide +kernel, by decide +kernel⟩
noncomputable abbrev s_law : Stmt := top 39
theorem sc_law : FnScope ["_law_script", "_law_head_here", "_law_prime_here", "_law_many", "_law_size_here", "_law_kind_here", "_law_row", "_law_cut", "_law_rested", "_law_g", "_law_way", "_law_f", "_law_quotient", "_law_rest", "_law_handed", "_law_found"] ["_law_script"] (defScope s_law) := ⟨rfl, rfl, rfl, by decide +kernel, rfl, by decide +kernel, by decide +kernel⟩
noncomputable abbrev s_Kind_init : Stmt := inClass (top 17) 0
theorem sc_Kind_init : FnScope ["self", "size"] ["self", "size"] (defScope s_Kind_init) := ⟨rfl, rfl, rfl, by decide +kernel, rfl, by decide +kernel, by decide +kernel⟩
noncomputable abbrev s_Kind_plain : Stmt := inClass (top 17) 1
theorem sc_Kind_plain : FnScope ["self", "number"] ["self", "number"] (defScope s_Kind_plain) := ⟨rfl, rfl, rfl, by decide +kernel, rfl, by decide +kernel, by decide +kernel⟩
noncomputable abbrev s_Kind_over : Stmt := inClass (top 17) 5
theorem sc_Kind_over : FnScope ["self", "a", "b"] ["self", "a", "b"] (defScope s_Kind_over) := ⟨rfl, rfl, rfl, by decide +kernel, rfl, by decide +kernel, by decide +kernel⟩
noncomputable abbrev s_Wholes_init : Stmt := inClass (top 18) 0
theorem sc_Wholes_init : FnScope ["self"] ["self"] (defScope s_Wholes_init) := ⟨rfl, rfl, rfl, by decide +kernel, rfl, by decide +kernel, by decide +kernel⟩
noncomputable abbrev s_Wholes_plain : Stmt := inClass (top 18) 1
theorem sc_Wholes_plain : FnScope ["self", "number"] ["self", "number"] (defScope s_Wholes_plain) := ⟨rfl, rfl, rfl, by decide +kernel, rfl, by decide +kernel, by decide +kernel⟩
noncomputable abbrev s_Wholes_over : Stmt := inClass (top 18) 2
theorem sc_Wholes_over : FnScope ["self", "a", "b"] ["self", "a", "b"] (defScope s_Wholes_over) := ⟨rfl, rfl, rfl, by decide +kernel, rfl, by decide +kernel, by decide +kernel⟩
noncomputable abbrev s_Rests_init : Stmt := inClass (top 19) 0
theorem sc_Rests_init : FnScope ["self", "prime"] ["self", "prime"] (defScope s_Rests_init) := ⟨rfl, rfl, rfl, by decide +kernel, rfl, by decide +kernel, by decide +kernel⟩
noncomputable abbrev s_Powers_init : Stmt := inClass (top 20) 0
theorem sc_Powers_init : FnScope ["self", "prime", "many"] ["self", "prime", "many"] (defScope s_Powers_init) := ⟨rfl, rfl, rfl, by decide +kernel, rfl, by decide +kernel, by decide +kernel⟩
/-- what the law asks of the text as its top has made it -/
structure Top (K : PySem.W.Frag) (mg : Str → Option Value) (cFE : Addr) (cNO : Addr) (cK : Addr) (cW : Addr) (cR : Addr) (cP : Addr) : Prop where
  d_cut_noughts : Def K mg "cut_noughts" s_cut_noughts ["numbers"]
  d_trimmed : Def K mg "trimmed" s_trimmed ["kind", "f"]
  d_divided : Def K mg "divided" s_divided ["kind", "f", "g"]
  d_is_prime : Def K mg "is_prime" s_is_prime ["number"]
  d_turned : Def K mg "turned" s_turned ["number", "size"]
  d_refuse_no_prime : Def K mg "refuse_no_prime" s_refuse_no_prime ["number"]
  d_taken_times : Def K mg "taken_times" s_taken_times ["number", "many"]
  d_cell_at : Def K mg "_law_cell_at" s_cell_at ["_law_script", "_law_k"]
  d_head : Def K mg "_law_head" s_head ["_law_script"]
  d_law_is_prime : Def K mg "_law_is_prime" s_law_is_prime ["_law_number_here"]
  d_prime : Def K mg "_law_prime" s_prime ["_law_cell"]
  d_size : Def K mg "_law_size" s_size ["_law_way", "_law_prime_here", "_law_many"]
  d_kind : Def K mg "_law_kind" s_kind ["_law_way", "_law_prime_here", "_law_many"]
  d_plain : Def K mg "_law_plain" s_plain ["_law_number_here", "_law_size_here"]
  d_trim : Def K mg "_law_trim" s_trim ["_law_row", "_law_size_here"]
  d_whole : Def K mg "_law_whole" s_whole ["_law_found"]
  d_alike : Def K mg "_law_alike" s_alike ["_law_found", "_law_due"]
  d_number : Def K mg "_law_number" s_number ["_law_cell", "_law_place"]
  d_times : Def K mg "_law_times" s_times ["_law_f", "_law_g", "_law_size_here"]
  d_sum : Def K mg "_law_sum" s_sum ["_law_f", "_law_g", "_law_size_here"]
  d_refused : Def K mg "_law_refused" s_refused ["_law_kind_here", "_law_f", "_law_g"]
  d_pair : Def K mg "_law_pair" s_pair ["_law_found", "_law_quotient", "_law_rest"]
  d_amiss : Def K mg "_law_amiss" s_amiss ["_law_quotient", "_law_g", "_law_number_here"]
  d_led : Def K mg "_law_led" s_led ["_law_row", "_law_size_here", "_law_prime_here"]
  b_len : mg "len" = none
  b_range : mg "range" = none
  b_isinstance : mg "isinstance" = none
  b_bool : mg "bool" = none
  b_int : mg "int" = none
  b_list : mg "list" = none
  b_enumerate : mg "enumerate" = none
  b_max : mg "max" = none
  b_tuple : mg "tuple" = none
  b_ValueError : mg "ValueError" = none
  g_LARGEST_PRIME : ∃ tk, mg "LARGEST_PRIME" = some (.int 9973 tk)
  g_LARGEST_MANY : ∃ tk, mg "LARGEST_MANY" = some (.int 400 tk)
  i_int_int : PySem.W.kitOne K (.type "int") (.type "int") = some true
  i_int_bool : PySem.W.kitOne K (.type "int") (.type "bool") = some false
  i_list_list : PySem.W.kitOne K (.type "list") (.type "list") = some true
  i_tuple_tuple : PySem.W.kitOne K (.type "tuple") (.type "tuple") = some true
  i_no_fe : PySem.W.kitOne K (.ref cNO) (.ref cFE) = some true
  i_no_ve : PySem.W.kitOne K (.ref cNO) (.type "ValueError") = some true
  m_ForgeError : mg "ForgeError" = some (.ref cFE)
  m_NoOver : mg "NoOver" = some (.ref cNO)
  x_NoOver : ExcC K cNO
  k_NoOver : ErrK K cNO
  m_Kind : mg "Kind" = some (.ref cK)
  m_Wholes : mg "Wholes" = some (.ref cW)
  cl_Wholes : Cls K cW
  na_Wholes_size : NoAttr K cW "size"
  m_Rests : mg "Rests" = some (.ref cR)
  cl_Rests : Cls K cR
  na_Rests_size : NoAttr K cR "size"
  m_Powers : mg "Powers" = some (.ref cP)
  cl_Powers : Cls K cP
  na_Powers_size : NoAttr K cP "size"
  na_Powers_prime : NoAttr K cP "prime"
  y_no : PySem.W.exmOne K (.ref cNO) (.ref cNO) = some true
  f_Kind_init : ∃ f fd, Fun K "__init__" "Kind.__init__" s_Kind_init f fd ∧ Binds K fd ["self", "size"] [] ∧ ClsFn K cK "__init__" f
  f_Kind_plain : ∃ f fd, Fun K "plain" "Kind.plain" s_Kind_plain f fd ∧ Binds K fd ["self", "number"] [] ∧ Meth K cR "plain" f ∧ Meth K cP "plain" f
  f_Kind_over : ∃ f fd, Fun K "over" "Kind.over" s_Kind_over f fd ∧ Binds K fd ["self", "a", "b"] [] ∧ Meth K cR "over" f ∧ Meth K cP "over" f
  f_Wholes_init : ∃ f fd, Fun K "__init__" "Wholes.__init__" s_Wholes_init f fd ∧ Binds K fd ["self"] [] ∧ Mk K cW f
  f_Wholes_plain : ∃ f fd, Fun K "plain" "Wholes.plain" s_Wholes_plain f fd ∧ Binds K fd ["self", "number"] [] ∧ Meth K cW "plain" f
  f_Wholes_over : ∃ f fd, Fun K "over" "Wholes.over" s_Wholes_over f fd ∧ Binds K fd ["self", "a", "b"] [] ∧ Meth K cW "over" f
  f_Rests_init : ∃ f fd, Fun K "__init__" "Rests.__init__" s_Rests_init f fd ∧ Binds K fd ["self", "prime"] [] ∧ Mk K cR f
  f_Powers_init : ∃ f fd, Fun K "__init__" "Powers.__init__" s_Powers_init f fd ∧ Binds K fd ["self", "prime", "many"] [] ∧ Mk K cP f
local macro_rules | `(tactic| walk_at "pn0") => `(tactic| first | omega | (dsimp only; omega) | (dsimp only [List.length_cons, List.length_nil]; omega) | (simp [L2.gI, L2.start] <;> omega))
local macro_rules | `(tactic| walk_at "pn1") => `(tactic| first | exact True.intro | rfl | assumption | decide | decide +kernel | exact L2.mul_okR (by decide) | exact L2.mul_okL (by decide) | exact ⟨by decide, by decide +kernel⟩ | exact ⟨by decide, by decide, by decide⟩ | walk_at "pn0" | exact L2.mul_okR ⟨by walk_at "pn0", by walk_at "pn0"⟩ | exact L2.mul_okL ⟨by walk_at "pn0", by walk_at "pn0"⟩)
local macro_rules | `(tactic| walk_at "pn") => `(tactic| first | (refine ⟨?_, ?_⟩ <;> walk_at "pn") | walk_at "pn1" | (intro _; walk_at "pn"))
local macro_rules | `(tactic| walk_at "xs1") => `(tactic| first | exact True.intro | exact (rfl : _ = some _) | exact (rfl : L3.isI _ _) | exact (rfl : L3.isL _ _) | exact (rfl : L3.isF _ _) | exact (rfl : L3.isK _ _) | exact (rfl : L3.isO _ _) | exact (Or.inl rfl : L3.isLO _ _) | exact (Or.inr (Or.inl rfl) : L3.isLO _ _) | exact (Or.inr (Or.inr rfl) : L3.isLO _ _) | walk_at "pn1")
local macro_rules | `(tactic| walk_at "xs") => `(tactic| first | (refine And.intro ?_ ?_ <;> walk_at "xs") | walk_at "xs1")

section
variable {P : Program} {w : World} {K : PySem.W.Frag} {mg : Str → Option Value} {base : Heap} {cFE cNO cK cW cR cP : Addr}
theorem ok_is_prime (T : Top K mg cFE cNO cK cW cR cP) : Ok P w K mg base 1 "is_prime" ["number"] (spB 1 yes F_P) := by
  refine Def.ok T.d_is_prime sc_is_prime (fun vs H Q E h => ?_) (fun f cdv A outer s H vs Q E hr h => ?_)
  · obtain ⟨ns, hl, rfl, _⟩ := h
    rw [List.length_map, hl]; rfl
  obtain ⟨ns, hl, rfl, hp, k⟩ := h
  obtain ⟨n, rfl⟩ := len1 hl
  refine ⟨_, (pss_cons (ps_ifP (pw_orP (ptn_lt (pn_var 0) pn_int) (pw_or1P (ptn_gt (pn_var 0) (pn_glob (by rfl) T.g_LARGEST_PRIME)))).pt
 (pss_one (ps_ret pe_bl))
 pss_nil)
 (pss_cons (ps_setN (i := 1) sc_is_prime.nd rfl (Or.inl rfl) pn_int)
 (pss_cons (ps_whileP PassesOwn.never (ptn_le (pn_mul (pn_var 1) (pn_var 1)) (pn_var 0))
 (pss_cons (ps_ifP (ptn_eq (pn_mod (pn_var 0) (pn_var 1)) pn_int)
 (pss_one (ps_ret pe_bl))
 pss_nil)
 (pss_one (ps_augN (i := 1) sc_is_prime.nd rfl (Or.inl rfl) pn_int iop_addT))))
 (pss_one (ps_ret pe_bl))))), ?_⟩
  have k : Q (.bl (isP n)) H := k
  refine ⟨by walk_at "pn", fun h => ?_, fun h => ?_⟩
  · have h : n < 2 ∨ 9973 < n := h
    rw [isP_false (fun q => by have := q.1; have := q.2.1; omega)] at k
    exact k
  have h : ¬ (n < 2 ∨ 9973 < n) := h
  refine ⟨by walk_at "pn", fun d0 e0 => ?_⟩
  have e0 : d0 = 2 := e0
  subst e0
  refine ⟨fun σ H' => ∃ d, σ = [some (.int n), some (.int d)] ∧ H' = H ∧ 2 ≤ d ∧ d ≤ 10000 ∧ Clean n d, fun σ _ => (10001 - gI σ 1).toNat, ⟨2, rfl, rfl, by omega, by omega, fun e h1 h2 => by omega⟩, ?_⟩
  rintro σ H' ⟨d, rfl, rfl, h2, h3, cl⟩
  refine ⟨⟨⟨rfl, rfl, mul_okR ⟨?_, ?_⟩⟩, rfl⟩, fun c => ?_, fun c => ?_⟩
  · show -(2 : Int) ^ 64 < d
    omega
  · show d < (2 : Int) ^ 64
    omega
  · have c : d * d ≤ n := c
    have := sq_ge h2
    refine ⟨⟨⟨rfl, rfl, by show (0 : Int) < d; omega⟩, True.intro⟩, fun hit => ?_, fun hit => ?_⟩
    · have hit : n % d = 0 := hit
      rw [isP_false (fun q => q.2.2 d h2 c hit)] at k
      exact k
    · have hit : ¬ n % d = 0 := hit
      refine ⟨rfl, True.intro, True.intro, fun m e => ?_⟩
      have e : m = d + 1 := e
      subst e
      exact ⟨⟨d + 1, rfl, rfl, by omega, by omega, cl.next hit⟩, by show (10001 - (d + 1)).toNat < (10001 - d).toNat; omega⟩
  · have c : ¬ d * d ≤ n := c
    rw [isP_true (.out cl h2 (by omega) (by omega) c)] at k
    exact k

noncomputable abbrev Gq (cW cR cP : Addr) : Gx := GkE (KAt cW cR cP) (fun k s => k.same s)
noncomputable def spRefuse : Sp := fun vs H Q _ => ∃ n : Int, vs = [.int n] ∧ IsP n ∧ Q .non H
theorem ok_refuse_no_prime (T : Top K mg cFE cNO cK cW cR cP) : Ok P w K mg base 2 "refuse_no_prime" ["number"] spRefuse := by
  refine Def.ok T.d_refuse_no_prime sc_refuse_no_prime (fun vs H Q E h => ?_) (fun f cdv A outer s H vs Q E hr h => ?_)
  · obtain ⟨c, rfl, _⟩ := h
    rfl
  obtain ⟨n, rfl, hn, k⟩ := h
  refine ⟨_, (pss_one (ps_ifP (pt_notP (pt_V (pv_call (ok_is_prime T) hr (pns_cons (pn_var 0) pns_nil))))
 (pss_one ps_never)
 pss_nil)), ?_⟩
  refine ⟨⟨⟨rfl, True.intro⟩, True.intro⟩, fun q => ?_, fun q => ?_⟩
  · have q : ¬ isP n = true := q
    exact (q (isP_true hn)).elim
  · exact k
noncomputable def preT : List Int → Prop := fun ns => match ns with
  | [n, m] => 2 ≤ n ∧ n ≤ 9973 ∧ 1 ≤ m ∧ m ≤ 400
  | _ => False
noncomputable def F_T : List Int → Int := fun ns => match ns with
  | [n, m] => n ^ m.toNat
  | _ => 0
theorem ok_taken_times (T : Top K mg cFE cNO cK cW cR cP) : Ok P w K mg base 1 "taken_times" ["number", "many"] (spI 2 preT F_T) := by
  refine Def.ok T.d_taken_times sc_taken_times (fun vs H Q E h => ?_) (fun f cdv A outer s H vs Q E hr h => ?_)
  · obtain ⟨ns, hl, rfl, _⟩ := h
    rw [List.length_map, hl]; rfl
  obtain ⟨ns, hl, rfl, hp, k⟩ := h
  obtain ⟨n, m, rfl⟩ := len2 hl
  have hp : 2 ≤ n ∧ n ≤ 9973 ∧ 1 ≤ m ∧ m ≤ 400 := hp
  have k : Q (.int (n ^ m.toNat)) H := k
  refine ⟨_, (pss_cons (ps_setN (i := 2) sc_taken_times.nd rfl (Or.inl rfl) pn_int)
 (pss_cons (ps_for PassesOwn.never rfl (pi_range1 (by rfl) T.b_range (pns_cons (pn_var 1) pns_nil)) (pg_name (i := 3) sc_taken_times.nd rfl (Or.inl rfl))
 (pss_one (ps_augN (i := 2) sc_taken_times.nd rfl (Or.inl rfl) (pn_var 0) iop_mulB)))
 (pss_one (ps_ret (pn_var 2))))), ?_⟩
  refine ⟨True.intro, fun u e => ?_⟩
  have e : u = 1 := e
  subst e
  refine ⟨⟨rfl, True.intro⟩, m, rfl, by omega, by omega, for_range (fun i σ H' => ∃ v, σ = [some (.int n), some (.int m), some (.int (n ^ i)), v] ∧ H' = H) ⟨none, by rw [Int.pow_zero]; rfl, rfl⟩ ?_ ?_⟩
  · rintro i σ H' hi ⟨v, rfl, rfl⟩
    refine ⟨rfl, rfl, mul_okR ⟨?_, ?_⟩, fun u e => ?_⟩
    · show -(2 : Int) ^ 64 < n
      omega
    · show n < (2 : Int) ^ 64
      omega
    · have e : u = n ^ i * n := e
      rw [← Int.pow_succ] at e
      subst e
      exact ⟨_, rfl, rfl⟩
  · rintro σ H' ⟨v, rfl, rfl⟩
    exact ⟨rfl, k⟩
noncomputable def spKInit (K : PySem.W.Frag) : Sp := fun vs H Q _ => ∃ (p C dx : Addr) (z : Int), vs = [.ref p, .int z] ∧ H p = some (.ins C dx []) ∧ Cls K C ∧ NoAttr K C "size" ∧ Q .non (upd H p (.ins C dx [("size", .int z)]))
theorem oc_Kind_init (T : Top K mg cFE cNO cK cW cR cP) : OkC P w K mg base CX0 1 "Kind" cK "__init__" ["self", "size"] (spKInit K) := by
  obtain ⟨f, fd, F, b, c⟩ := T.f_Kind_init
  refine ⟨f, fd, F.ok sc_Kind_init (fun vs H Q E h => ?_) (fun cdv A outer s H vs Q E hr h => ?_), b, c, T.m_Kind⟩
  · obtain ⟨p, C, dx, z, rfl, _⟩ := h
    rfl
  obtain ⟨p, C, dx, z, rfl, hp, cl, na, k⟩ := h
  refine ⟨_, (pss_one (ps_fld (pv 0) (pn_var 1) rfl)), ?_⟩
  exact ⟨rfl, _, rfl, p, C, dx, [], rfl, hp, cl, na, by decide, k⟩
/-- a new object gets its attributes -/
noncomputable def spNewW (C : Addr) : Sp := fun vs H Q _ => ∃ x dx : Addr, vs = [.ref x] ∧ H x = some (.ins C dx []) ∧ Q .non (upd H x (.ins C dx [("size", .int 0)]))
noncomputable def spNewR (C : Addr) : Sp := fun vs H Q _ => ∃ (x dx : Addr) (p : Int), vs = [.ref x, .int p] ∧ IsP p ∧ H x = some (.ins C dx []) ∧ Q .non (upd H x (.ins C dx [("size", .int p)]))
noncomputable def spNewP (C : Addr) : Sp := fun vs H Q _ => ∃ (x dx : Addr) (p m : Int), vs = [.ref x, .int p, .int m] ∧ IsP p ∧ 1 ≤ m ∧ m ≤ 400 ∧ H x = some (.ins C dx []) ∧ Q .non (upd H x (.ins C dx [("size", .int (p ^ m.toNat)), ("prime", .int p)]))
theorem oi_Wholes (T : Top K mg cFE cNO cK cW cR cP) : OkI P w K mg base CX0 2 "Wholes" cW ["self"] (spNewW cW) := by
  obtain ⟨f, fd, F, b, c⟩ := T.f_Wholes_init
  refine ⟨f, fd, F.ok sc_Wholes_init (fun vs H Q E h => ?_) (fun cdv A outer s H vs Q E hr h => ?_), b, c, T.m_Wholes⟩
  · obtain ⟨p, dx, rfl, _⟩ := h
    rfl
  obtain ⟨p, dx, rfl, hp, k⟩ := h
  refine ⟨_, (pss_one (ps_expr (pe_clsO (oc_Kind_init T) hr pass0 (pa_cons (pv 0) (pa_cons pn_int pa_nil))))), ?_⟩
  exact ⟨_, rfl, True.intro, p, cW, dx, 0, rfl, hp, T.cl_Wholes, T.na_Wholes_size, k⟩
theorem oi_Rests (T : Top K mg cFE cNO cK cW cR cP) : OkI P w K mg base CX0 3 "Rests" cR ["self", "prime"] (spNewR cR) := by
  obtain ⟨f, fd, F, b, c⟩ := T.f_Rests_init
  refine ⟨f, fd, F.ok sc_Rests_init (fun vs H Q E h => ?_) (fun cdv A outer s H vs Q E hr h => ?_), b, c, T.m_Rests⟩
  · obtain ⟨x, dx, p, rfl, _⟩ := h
    rfl
  obtain ⟨x, dx, p, rfl, hp, hx, k⟩ := h
  refine ⟨_, (pss_cons (ps_expr (pe_callO (ok_refuse_no_prime T) hr (pa_cons (pn_var 1) pa_nil)))
 (pss_one (ps_expr (pe_clsO (oc_Kind_init T) hr pass0 (pa_cons (pv 0) (pa_cons (pn_var 1) pa_nil)))))), ?_⟩
  exact ⟨rfl, p, rfl, hp, _, rfl, rfl, x, cR, dx, p, rfl, hx, T.cl_Rests, T.na_Rests_size, k⟩
theorem oi_Powers (T : Top K mg cFE cNO cK cW cR cP) : OkI P w K mg base CX0 3 "Powers" cP ["self", "prime", "many"] (spNewP cP) := by
  obtain ⟨f, fd, F, b, c⟩ := T.f_Powers_init
  refine ⟨f, fd, F.ok sc_Powers_init (fun vs H Q E h => ?_) (fun cdv A outer s H vs Q E hr h => ?_), b, c, T.m_Powers⟩
  · obtain ⟨x, dx, p, m, rfl, _⟩ := h
    rfl
  obtain ⟨x, dx, p, m, rfl, hp, hm1, hm2, hx, k⟩ := h
  refine ⟨_, (pss_cons (ps_expr (pe_callO (ok_refuse_no_prime T) hr (pa_cons (pn_var 1) pa_nil)))
 (pss_cons (ps_ifP (pw_orP (ptn_lt (pn_var 2) pn_int) (pw_or1P (ptn_gt (pn_var 2) (pn_glob (by rfl) T.g_LARGEST_MANY)))).pt
 (pss_one ps_never)
 pss_nil)
 (pss_cons (ps_expr (pe_clsO (oc_Kind_init T) hr pass0 (pa_cons (pv 0) (pa_cons (pn_call (ok_taken_times T) hr (pns_cons (pn_var 1) (pns_cons (pn_var 2) pns_nil))) pa_nil))))
 (pss_one (ps_fld (pv 0) (pn_var 1) rfl))))), ?_⟩
  refine ⟨rfl, p, rfl, hp, ⟨⟨rfl, True.intro⟩, fun _ => ⟨rfl, True.intro⟩⟩, fun q => ?_, fun q => ?_⟩
  · have q : m < 1 ∨ 400 < m := q
    omega
  · refine ⟨_, rfl, ⟨⟨rfl, rfl, True.intro⟩, ⟨hp.1, hp.2.1, hm1, hm2⟩⟩, x, cP, dx, p ^ m.toNat, rfl, hx, T.cl_Powers, T.na_Powers_size, ?_⟩
    refine ⟨rfl, _, rfl, x, cP, dx, _, rfl, upd_same, T.cl_Powers, T.na_Powers_prime, by show 1 < 1000; decide, ?_⟩
    rw [upd_upd]
    exact k
/-- plain, over the three kinds -/
noncomputable def F_plain : Int → List Int → Int := fun z ns => match ns with
  | [n] => pl z n
  | _ => 0
noncomputable abbrev anyK : Int → List Int → Prop := fun _ _ => True
theorem km_plain (T : Top K mg cFE cNO cK cW cR cP) : KM P w K mg base 1 (KAt cW cR cP) "plain" 1 anyK F_plain := by
  refine ⟨fun H a z ka => ?_⟩
  obtain ⟨C, dx, fs, e, hC, hz, hm⟩ := ka
  have low : ∀ (C : Addr), (C = cR ∨ C = cP) → 0 < z → OkM P w K mg base CX0 1 C "plain" ["self", "number"] (spKM (KAt cW cR cP) a z 1 anyK F_plain) := fun C hC hz0 => by
    obtain ⟨f, fd, F, b, m1, m2⟩ := T.f_Kind_plain
    refine ⟨f, fd, F.ok sc_Kind_plain (fun vs H Q E h => ?_) (fun cdv A outer s H vs Q E hr h => ?_), b, ?_, ?_⟩
    · obtain ⟨ns, hl, rfl, _⟩ := h
      show (ns.map V.int).length + 1 = 2
      rw [List.length_map, hl]
    · obtain ⟨ns, hl, rfl, ⟨C', dx', fs', e', hC', hz', _⟩, _, k⟩ := h
      obtain ⟨n, rfl⟩ := len1 hl
      have k : Q (.int (pl z n)) H := k
      rw [pl_pos hz0] at k
      refine ⟨_, (pss_one (ps_ret (pe_op op_mod (pn_var 1) (pe_fld (pv 0) rfl)))), ?_⟩
      have cc : Cls K C' ∧ NoAttr K C' "size" := by
        rcases hC' with ⟨_, q⟩ | ⟨q | q, _⟩
        · omega
        · rw [q]; exact ⟨T.cl_Rests, T.na_Rests_size⟩
        · rw [q]; exact ⟨T.cl_Powers, T.na_Powers_size⟩
      exact ⟨rfl, _, rfl, a, C', dx', fs', _, rfl, e', cc.1, cc.2, hz', _, _, rfl, rfl, hz0, k⟩
    · rcases hC with q | q
      · rw [q]; exact m1
      · rw [q]; exact m2
    · rcases hC with q | q
      · rw [q]; exact T.cl_Rests
      · rw [q]; exact T.cl_Powers
  rcases hC with ⟨q, q0⟩ | ⟨q, q0⟩
  · subst q q0
    refine ⟨C, dx, fs, ["self", "number"], e, hm "plain" (by decide +kernel), ?_⟩
    obtain ⟨f, fd, F, b, m1⟩ := T.f_Wholes_plain
    refine ⟨f, fd, F.ok sc_Wholes_plain (fun vs H Q E h => ?_) (fun cdv A outer s H vs Q E hr h => ?_), b, m1, T.cl_Wholes⟩
    · obtain ⟨ns, hl, rfl, _⟩ := h
      show (ns.map V.int).length + 1 = 2
      rw [List.length_map, hl]
    · obtain ⟨ns, hl, rfl, _, _, k⟩ := h
      obtain ⟨n, rfl⟩ := len1 hl
      refine ⟨_, (pss_one (ps_ret (pn_var 1))), ?_⟩
      exact ⟨rfl, k⟩
  · exact ⟨C, dx, fs, ["self", "number"], e, hm "plain" (by decide +kernel), low C q q0⟩
theorem nolook {fs : List (Str × V)} (h : fs.map (·.1) = (["size"] : List Str) ∨ fs.map (·.1) = (["size", "prime"] : List Str)) : ∀ m ∈ kMeths, fs.lookup m = none := by
  intro m hm
  have key : ∀ (l : List (Str × V)), m ∉ l.map (·.1) → l.lookup m = none := by
    intro l
    induction l with
    | nil => intro _; rfl
    | cons p r ih =>
      intro hn
      rw [List.lookup_cons]
      have e : (m == p.1) = false := by
        rw [beq_eq_false_iff_ne]
        intro z
        exact hn (by rw [z]; simp)
      rw [e]
      exact ih fun z => hn (by simp only [List.map_cons]; exact List.mem_cons_of_mem _ z)
  refine key fs ?_
  have hk : ∀ m ∈ kMeths, m ∉ (["size", "prime"] : List Str) := by decide +kernel
  rcases h with h | h
  · rw [h]
    intro z
    exact hk m hm (by rw [List.mem_singleton.mp z]; exact List.mem_cons_self)
  · rw [h]
    exact hk m hm

noncomputable def preP : List Int → Prop := fun ns => match ns with
  | [n] => 2 ≤ n ∧ n ≤ 9973
  | _ => False
theorem ok_law_is_prime (T : Top K mg cFE cNO cK cW cR cP) : Ok P w K mg base 1 "_law_is_prime" ["_law_number_here"] (spB 1 preP F_P) := by
  refine Def.ok T.d_law_is_prime sc_law_is_prime (fun vs H Q E h => ?_) (fun f cdv A outer s H vs Q E hr h => ?_)
  · obtain ⟨ns, hl, rfl, _⟩ := h
    rw [List.length_map, hl]; rfl
  obtain ⟨ns, hl, rfl, hp, k⟩ := h
  obtain ⟨n, rfl⟩ := len1 hl
  have h : 2 ≤ n ∧ n ≤ 9973 := hp
  refine ⟨_, (pss_cons (ps_setN (i := 1) sc_law_is_prime.nd rfl (Or.inl rfl) pn_int)
 (pss_cons (ps_whileP PassesOwn.never (ptn_le (pn_mul (pn_var 1) (pn_var 1)) (pn_var 0))
 (pss_cons (ps_ifP (ptn_eq (pn_mod (pn_var 0) (pn_var 1)) pn_int)
 (pss_one (ps_ret pe_bl))
 pss_nil)
 (pss_one (ps_setN (i := 1) sc_law_is_prime.nd rfl (Or.inl rfl) (pn_add (pn_var 1) pn_int)))))
 (pss_one (ps_ret pe_bl)))), ?_⟩
  have k : Q (.bl (isP n)) H := k
  refine ⟨by walk_at "pn", fun d0 e0 => ?_⟩
  have e0 : d0 = 2 := e0
  subst e0
  refine ⟨fun σ H' => ∃ d, σ = [some (.int n), some (.int d)] ∧ H' = H ∧ 2 ≤ d ∧ d ≤ 10000 ∧ Clean n d, fun σ _ => (10001 - gI σ 1).toNat, ⟨2, rfl, rfl, by omega, by omega, fun e h1 h2 => by omega⟩, ?_⟩
  rintro σ H' ⟨d, rfl, rfl, h2, h3, cl⟩
  refine ⟨⟨⟨rfl, rfl, mul_okR ⟨?_, ?_⟩⟩, rfl⟩, fun c => ?_, fun c => ?_⟩
  · show -(2 : Int) ^ 64 < d
    omega
  · show d < (2 : Int) ^ 64
    omega
  · have c : d * d ≤ n := c
    have := sq_ge h2
    refine ⟨⟨⟨rfl, rfl, by show (0 : Int) < d; omega⟩, True.intro⟩, fun hit => ?_, fun hit => ?_⟩
    · have hit : n % d = 0 := hit
      rw [isP_false (fun q => q.2.2 d h2 c hit)] at k
      exact k
    · have hit : ¬ n % d = 0 := hit
      refine ⟨⟨rfl, True.intro⟩, fun m e => ?_⟩
      have e : m = d + 1 := e
      subst e
      exact ⟨⟨d + 1, rfl, rfl, by omega, by omega, cl.next hit⟩, by show (10001 - (d + 1)).toNat < (10001 - d).toNat; omega⟩
  · have c : ¬ d * d ≤ n := c
    rw [isP_true (.out cl h2 (by omega) (by omega) c)] at k
    exact k
/-! ### what the law draws -/
noncomputable def preCell : List Int → List Int → Prop := fun _ is => match is with
  | [k] => 0 ≤ k
  | _ => False
noncomputable def F_cell : List Int → List Int → Int := fun xs is => match is with
  | [k] => xs.getD k.toNat 0
  | _ => 0
theorem ok_cell_at (T : Top K mg cFE cNO cK cW cR cP) : Ok P w K mg base 1 "_law_cell_at" ["_law_script", "_law_k"] (spS K 1 preCell F_cell) := by
  refine Def.ok T.d_cell_at sc_cell_at (fun vs H Q E h => ?_) (fun f cdv A outer s H vs Q E hr h => ?_)
  · obtain ⟨a, xs, is, hl, rfl, _⟩ := h
    show (is.map V.int).length + 1 = 2
    rw [List.length_map, hl]
  obtain ⟨sa, ns, is, hl, rfl, hS, hp, k⟩ := h
  obtain ⟨i, rfl⟩ := len1 hl
  have hp : 0 ≤ i := hp
  have k : Q (.int (ns.getD i.toNat 0)) H := k
  refine ⟨_, (pss_cons (ps_ifP (ptn_lt (pn_var 1) (pn_len 0 sa (ns.map V.int) T.b_len))
 (pss_one (ps_ret (pn_item 0 sa ns (pn_var 1) (fun _ _ => rfl))))
 pss_nil)
 (pss_one (ps_ret pn_int))), ?_⟩
  have el : (ns.map V.int).length = ns.length := List.length_map _
  refine ⟨⟨rfl, ⟨rfl, hS⟩⟩, fun q => ?_, fun q => ?_⟩
  · have q : i < ((ns.map V.int).length : Int) := q
    refine ⟨⟨rfl, rfl, hS, ?_, ?_⟩, ?_⟩
    · show -(ns.length : Int) ≤ i
      omega
    · show i < (ns.length : Int)
      omega
    · show Q (.int (ns.getD (if 0 ≤ i then i else i + ns.length).toNat 0)) H
      rw [if_pos hp]
      exact k
  · have q : ¬ i < ((ns.map V.int).length : Int) := q
    have e : ns.getD i.toNat 0 = 0 := by
      rw [List.getD_eq_getElem?_getD, List.getElem?_eq_none (by omega)]; rfl
    rw [e] at k
    exact ⟨True.intro, k⟩
noncomputable def headN (c : Int) : Int := ((c % 10 ^ 9) * (c % 10 ^ 9) + 40503) * 1103515245982451653 % (10 ^ 18 + 9)
noncomputable def preHead : List Int → List Int → Prop := fun _ _ => True
noncomputable def F_head : List Int → List Int → Int := fun xs _ => headN (xs.getD 0 0)
theorem ok_head (T : Top K mg cFE cNO cK cW cR cP) : Ok P w K mg base 2 "_law_head" ["_law_script"] (spS K 0 preHead F_head) := by
  refine Def.ok T.d_head sc_head (fun vs H Q E h => ?_) (fun f cdv A outer s H vs Q E hr h => ?_)
  · obtain ⟨a, xs, is, hl, rfl, _⟩ := h
    show (is.map V.int).length + 1 = 1
    rw [List.length_map, hl]
  obtain ⟨sa, ns, is, hl, rfl, hS, _, k⟩ := h
  obtain rfl := len0 hl
  have k : Q (.int (headN (ns.getD 0 0))) H := k
  refine ⟨_, (pss_cons (ps_setN (i := 1) sc_head.nd rfl (Or.inl rfl) (pn_mod (pn_callS 0 sa ns (ok_cell_at T) hr (pns_cons pn_int pns_nil)) (pn_pow pn_int pn_int)))
 (pss_one (ps_ret (pn_mod (pn_mul (pn_add (pn_mul (pn_var 1) (pn_var 1)) pn_int) pn_int) (pn_add (pn_pow pn_int pn_int) pn_int))))), ?_⟩
  refine ⟨⟨⟨rfl, hS, ⟨True.intro, True.intro⟩, by show (0 : Int) ≤ 0; omega⟩, by walk_at "pn", by show (0 : Int) < 10 ^ 9; decide⟩, fun n e => ?_⟩
  have e : n = ns.getD 0 0 % 10 ^ 9 := e
  have n0 : 0 ≤ n ∧ n < 10 ^ 9 := by rw [e]; exact ⟨Int.emod_nonneg _ (by decide), Int.emod_lt_of_pos _ (by decide)⟩
  refine ⟨⟨⟨⟨⟨rfl, rfl, mul_okR ⟨by show -(2 : Int) ^ 64 < n; omega, by show n < (2 : Int) ^ 64; omega⟩⟩, True.intro⟩, True.intro, mul_okR (by decide)⟩, by walk_at "pn", by show (0 : Int) < 10 ^ 18 + 9; decide⟩, ?_⟩
  show Q (.int ((n * n + 40503) * 1103515245982451653 % (10 ^ 18 + 9))) H
  unfold headN at k
  rw [← e] at k
  exact k
noncomputable def sizeOf (way p m : Int) : Int := if way = 0 then 0 else if way = 2 then p ^ m.toNat else p
noncomputable def preS : List Int → Prop := fun ns => match ns with
  | [way, p, m] => 0 ≤ way ∧ way ≤ 2 ∧ 2 ≤ p ∧ p ≤ 9973 ∧ 1 ≤ m ∧ m ≤ 400
  | _ => False
noncomputable def F_S : List Int → Int := fun ns => match ns with
  | [way, p, m] => sizeOf way p m
  | _ => 0
theorem ok_size (T : Top K mg cFE cNO cK cW cR cP) : Ok P w K mg base 1 "_law_size" ["_law_way", "_law_prime_here", "_law_many"] (spI 3 preS F_S) := by
  refine Def.ok T.d_size sc_size (fun vs H Q E h => ?_) (fun f cdv A outer s H vs Q E hr h => ?_)
  · obtain ⟨ns, hl, rfl, _⟩ := h
    rw [List.length_map, hl]; rfl
  obtain ⟨ns, hl, rfl, hp, k⟩ := h
  obtain ⟨way, p, m, rfl⟩ := len3 hl
  have hp : 0 ≤ way ∧ way ≤ 2 ∧ 2 ≤ p ∧ p ≤ 9973 ∧ 1 ≤ m ∧ m ≤ 400 := hp
  have k : Q (.int (sizeOf way p m)) H := k
  unfold sizeOf at k
  refine ⟨_, (pss_cons (ps_ifP (ptn_eq (pn_var 0) pn_int)
 (pss_one (ps_ret pn_int))
 pss_nil)
 (pss_cons (ps_setN (i := 3) sc_size.nd rfl (Or.inl rfl) (pn_var 1))
 (pss_cons (ps_ifP (ptn_eq (pn_var 0) pn_int)
 (pss_one (ps_for PassesOwn.never rfl (pi_range1 (by rfl) T.b_range (pns_cons (pn_sub (pn_var 2) pn_int) pns_nil)) (pg_name (i := 4) sc_size.nd rfl (Or.inl rfl))
 (pss_one (ps_setN (i := 3) sc_size.nd rfl (Or.inl rfl) (pn_mul (pn_var 3) (pn_var 1))))))
 pss_nil)
 (pss_one (ps_ret (pn_var 3)))))), ?_⟩
  refine ⟨⟨rfl, True.intro⟩, fun q => ?_, fun q => ?_⟩
  · have q : way = 0 := q
    rw [if_pos q] at k
    exact ⟨True.intro, k⟩
  have q : ¬ way = 0 := q
  rw [if_neg q] at k
  refine ⟨rfl, fun u e => ?_⟩
  have e : u = p := e
  subst e
  refine ⟨⟨rfl, True.intro⟩, fun q2 => ?_, fun q2 => ?_⟩
  · have q2 : way = 2 := q2
    rw [if_pos q2] at k
    refine ⟨⟨⟨rfl, True.intro⟩, True.intro⟩, m - 1, rfl, by omega, by omega, for_range (fun i σ H' => ∃ v, σ = [some (.int way), some (.int u), some (.int m), some (.int (u ^ (i + 1))), v] ∧ H' = H) ⟨none, by rw [Int.pow_succ]; simp; rfl, rfl⟩ ?_ ?_⟩
    · rintro i σ H' hi ⟨v, rfl, rfl⟩
      refine ⟨⟨rfl, rfl, mul_okR ⟨?_, ?_⟩⟩, fun n e => ?_⟩
      · show -(2 : Int) ^ 64 < u
        omega
      · show u < (2 : Int) ^ 64
        omega
      · have e : n = u ^ (i + 1) * u := e
        rw [← Int.pow_succ] at e
        subst e
        exact ⟨_, rfl, rfl⟩
    · rintro σ H' ⟨v, rfl, rfl⟩
      have em : (m - 1).toNat + 1 = m.toNat := by omega
      refine ⟨rfl, ?_⟩
      show Q (.int (u ^ ((m - 1).toNat + 1))) _
      rw [em]
      exact k
  · have q2 : ¬ way = 2 := q2
    rw [if_neg q2] at k
    exact ⟨rfl, k⟩
noncomputable def spKind (cW cR cP : Addr) : Sp := fun vs H Q _ => ∃ way p m : Int, vs = [.int way, .int p, .int m] ∧ 0 ≤ way ∧ way ≤ 2 ∧ IsP p ∧ 1 ≤ m ∧ m ≤ 400 ∧ ∀ (a : Addr) (H' : Hp), Same H H' → H a = none → KAt cW cR cP H' a (sizeOf way p m) → Q (.ref a) H'
theorem pow_pos' {p : Int} (h : 2 ≤ p) : ∀ n : Nat, 0 < p ^ n
  | 0 => by simp
  | n + 1 => by rw [Int.pow_succ]; exact Int.mul_pos (pow_pos' h n) (by omega)
theorem ok_kind (T : Top K mg cFE cNO cK cW cR cP) : Ok P w K mg base 5 "_law_kind" ["_law_way", "_law_prime_here", "_law_many"] (spKind cW cR cP) := by
  refine Def.ok T.d_kind sc_kind (fun vs H Q E h => ?_) (fun f cdv A outer s H vs Q E hr h => ?_)
  · obtain ⟨_, _, _, rfl, _⟩ := h
    rfl
  obtain ⟨way, p, m, rfl, h0, h2, hp, m1, m2, k⟩ := h
  have grow : ∀ {x dx : Addr} {C : Addr} {fs : List (Str × V)}, H x = none → H dx = none → Same H (upd (upd (upd H dx (.own x)) x (.ins C dx [])) x (.ins C dx fs)) := fun hx hd b o e => by
    rw [upd_ne (ne_of_none e hx), upd_ne (ne_of_none e hx), upd_ne (ne_of_none e hd)]
    exact e
  refine ⟨_, (pss_cons (ps_ifP (ptn_eq (pn_var 0) pn_int)
 (pss_one (ps_ret (pe_makeO0 (oi_Wholes T) hr pass0)))
 pss_nil)
 (pss_cons (ps_ifP (ptn_eq (pn_var 0) pn_int)
 (pss_one (ps_ret (pe_makeO (oi_Rests T) hr pass0 (pa_cons (pn_var 1) pa_nil))))
 pss_nil)
 (pss_one (ps_ret (pe_makeO (oi_Powers T) hr pass0 (pa_cons (pn_var 1) (pa_cons (pn_var 2) pa_nil))))))), ?_⟩
  refine ⟨⟨rfl, True.intro⟩, fun q => ?_, fun q => ?_⟩
  · have q : way = 0 := q
    intro x dx hx hd hne
    refine ⟨x, dx, rfl, upd_same, rfl, k x _ (grow hx hd) hx ?_⟩
    exact ⟨cW, dx, _, upd_same, .inl ⟨rfl, by unfold sizeOf; rw [if_pos q]⟩, by unfold sizeOf; rw [if_pos q]; rfl, nolook (.inl rfl)⟩
  have q : ¬ way = 0 := q
  refine ⟨⟨rfl, True.intro⟩, fun q2 => ?_, fun q2 => ?_⟩
  · have q2 : way = 1 := q2
    have es : sizeOf way p m = p := by unfold sizeOf; rw [if_neg q, if_neg (by omega)]
    refine ⟨rfl, fun x dx hx hd hne => ?_⟩
    refine ⟨x, dx, p, rfl, hp, upd_same, rfl, k x _ (grow hx hd) hx ?_⟩
    exact ⟨cR, dx, _, upd_same, .inr ⟨.inl rfl, by rw [es]; have := hp.1; omega⟩, by rw [es]; rfl, nolook (.inl rfl)⟩
  · have q2 : ¬ way = 1 := q2
    have es : sizeOf way p m = p ^ m.toNat := by unfold sizeOf; rw [if_neg q, if_pos (by omega)]
    refine ⟨rfl, rfl, fun x dx hx hd hne => ?_⟩
    refine ⟨x, dx, p, m, rfl, hp, m1, m2, upd_same, rfl, k x _ (grow hx hd) hx ?_⟩
    exact ⟨cP, dx, _, upd_same, .inr ⟨.inr rfl, by rw [es]; exact pow_pos' hp.1 _⟩, by rw [es]; rfl, nolook (.inr rfl)⟩
noncomputable def prePl : List Int → Prop := fun ns => match ns with
  | [_, z] => 0 ≤ z
  | _ => False
noncomputable def F_pl : List Int → Int := fun ns => match ns with
  | [n, z] => pl z n
  | _ => 0
theorem ok_plain (T : Top K mg cFE cNO cK cW cR cP) : Ok P w K mg base 1 "_law_plain" ["_law_number_here", "_law_size_here"] (spI 2 prePl F_pl) := by
  refine Def.ok T.d_plain sc_plain (fun vs H Q E h => ?_) (fun f cdv A outer s H vs Q E hr h => ?_)
  · obtain ⟨ns, hl, rfl, _⟩ := h
    rw [List.length_map, hl]; rfl
  obtain ⟨ns, hl, rfl, hp, k⟩ := h
  obtain ⟨n, z, rfl⟩ := len2 hl
  have hp : 0 ≤ z := hp
  have k : Q (.int (pl z n)) H := k
  unfold pl at k
  refine ⟨_, (pss_cons (ps_ifP (ptn_eq (pn_var 1) pn_int)
 (pss_one (ps_ret (pn_var 0)))
 pss_nil)
 (pss_one (ps_ret (pn_mod (pn_var 0) (pn_var 1))))), ?_⟩
  refine ⟨⟨rfl, True.intro⟩, fun q => ?_, fun q => ?_⟩
  · have q : z = 0 := q
    rw [if_pos q] at k
    exact ⟨rfl, k⟩
  · have q : ¬ z = 0 := q
    rw [if_neg q] at k
    exact ⟨⟨rfl, rfl, by show 0 < z; omega⟩, k⟩
/-! ### what the laws over drawn kinds share, over pure values -/
theorem kx_cell_at (T : Top K mg cFE cNO cK cW cR cP) : Ok P w K mg base 1 "_law_cell_at" ["_law_script", "_law_k"] (spFI K (Gq cW cR cP) (L3.preS 1 preCell) fun as => F_cell (scrI as) (allI as.tail)) := liftS (ok_cell_at T)
theorem kx_head (T : Top K mg cFE cNO cK cW cR cP) : Ok P w K mg base 2 "_law_head" ["_law_script"] (spFI K (Gq cW cR cP) (L3.preS 0 preHead) fun as => F_head (scrI as) (allI as.tail)) := liftS (ok_head T)
theorem kx_law_is_prime (T : Top K mg cFE cNO cK cW cR cP) : Ok P w K mg base 1 "_law_is_prime" ["_law_number_here"] (spFB K (Gq cW cR cP) (fun as => areI as ∧ as.length = 1 ∧ preP (allI as)) fun as => F_P (allI as)) := liftB (ok_law_is_prime T)
theorem kx_size (T : Top K mg cFE cNO cK cW cR cP) : Ok P w K mg base 1 "_law_size" ["_law_way", "_law_prime_here", "_law_many"] (spFI K (Gq cW cR cP) (fun as => areI as ∧ as.length = 3 ∧ preS (allI as)) fun as => F_S (allI as)) := liftI (ok_size T)
theorem kx_plain (T : Top K mg cFE cNO cK cW cR cP) : Ok P w K mg base 1 "_law_plain" ["_law_number_here", "_law_size_here"] (spFI K (Gq cW cR cP) (fun as => areI as ∧ as.length = 2 ∧ prePl (allI as)) fun as => F_pl (allI as)) := liftI (ok_plain T)
/-- the greatest prime at most n -/
noncomputable def pdown : Nat → Int
  | 0 => 2
  | n + 1 => if isP ((n : Int) + 1) = true then (n : Int) + 1 else pdown n
theorem pdown_isP : ∀ n, IsP (pdown n)
  | 0 => isP2
  | n + 1 => by
    unfold pdown
    by_cases h : isP ((n : Int) + 1) = true
    · rw [if_pos h]; exact isP_iff.mp h
    · rw [if_neg h]; exact pdown_isP n
theorem pdown_hit {m : Int} (h : 2 ≤ m) (hp : isP m = true) : pdown m.toNat = m := by
  obtain ⟨k, rfl⟩ : ∃ k : Nat, m = (k : Int) + 1 := ⟨(m - 1).toNat, by omega⟩
  have e : ((k : Int) + 1).toNat = k + 1 := by omega
  rw [e]
  unfold pdown
  rw [if_pos hp]
theorem pdown_miss {m : Int} (h : 2 ≤ m) (hp : ¬ isP m = true) : pdown m.toNat = pdown (m - 1).toNat := by
  obtain ⟨k, rfl⟩ : ∃ k : Nat, m = (k : Int) + 1 := ⟨(m - 1).toNat, by omega⟩
  have e : ((k : Int) + 1).toNat = k + 1 := by omega
  have e2 : ((k : Int) + 1 - 1).toNat = k := by omega
  rw [e, e2]
  show (if isP ((k : Int) + 1) = true then (k : Int) + 1 else pdown k) = pdown k
  rw [if_neg hp]
noncomputable def drawP (c : Int) : Int := if c / 9972 % 2 = 0 then pdown (2 + c % 30).toNat else pdown (2 + c % 9972).toNat
theorem drawP_isP (c : Int) : IsP (drawP c) := by
  unfold drawP
  split <;> exact pdown_isP _
theorem kx_prime (T : Top K mg cFE cNO cK cW cR cP) : Ok P w K mg base 2 "_law_prime" ["_law_cell"] (spFI K (Gq cW cR cP) (fun as => ∃ c, as = [.int c]) fun as => drawP (allI as).head!) := by
  refine okF T.d_prime sc_prime (fun as ⟨c, h⟩ => by rw [h]; rfl) (fun f cdv A outer s H E hr => ⟨_, (xss_cons (xst_setI (i := 1) sc_prime.nd rfl (Or.inl rfl) (xn_add xn_int (xn_mod (xn 0) xn_int)))
 (xss_join (xst_if (xt_eq (xn_mod (xn_div (xn 0) xn_int) xn_int) xn_int)
 (xss_one (xst_setI (i := 1) sc_prime.nd rfl (Or.inl rfl) (xn_add xn_int (xn_mod (xn 0) xn_int))))
 xss_nil)
 (xss_cons (xst_while PassesOwn.never (xt_not (xt_V (xcb (kx_law_is_prime T) hr (xa_cons (xn 1) xa_nil))))
 (xss_one (xst_setI (i := 1) sc_prime.nd rfl (Or.inl rfl) (xn_sub (xn 1) xn_int))))
 (xss_one (xst_ret (xn 1)))))), fun as hp => ?_⟩)
  obtain ⟨c, rfl⟩ := hp
  have loop : ∀ n : Int, 2 ≤ n → n ≤ 9973 → pdown n.toNat = drawP c → ∃ (W : En → Prop) (μ : En → Nat), W [.fr (.int c), .fr (.int n)] ∧ ∀ ρ, W ρ → ((isI ρ 1 ∧ True) ∧ areI [PV.int (getI ρ 1)] ∧ [PV.int (getI ρ 1)].length = 1 ∧ preP (allI [PV.int (getI ρ 1)])) ∧
      (¬ F_P (allI [PV.int (getI ρ 1)]) = true → (isI ρ 1 ∧ True) ∧ ∀ m, m = getI ρ 1 - 1 → W (ρ.set 1 (.fr (.int m))) ∧ μ (ρ.set 1 (.fr (.int m))) < μ ρ) ∧ (¬ ¬ F_P (allI [PV.int (getI ρ 1)]) = true → isI ρ 1 ∧ PV.int (getI ρ 1) = PV.int (drawP c)) := by
    intro n h1 h2 h3
    refine ⟨fun ρ => ∃ m, ρ = [.fr (.int c), .fr (.int m)] ∧ 2 ≤ m ∧ m ≤ 9973 ∧ pdown m.toNat = drawP c, fun ρ => (getI ρ 1).toNat, ⟨n, rfl, h1, h2, h3⟩, ?_⟩
    rintro ρ ⟨m, rfl, g1, g2, g3⟩
    refine ⟨⟨⟨rfl, True.intro⟩, True.intro, rfl, ⟨g1, g2⟩⟩, fun q => ?_, fun q => ?_⟩
    · have q : ¬ isP m = true := q
      have m2 : m ≠ 2 := fun z => q (by rw [z]; exact isP_true isP2)
      refine ⟨⟨rfl, True.intro⟩, fun u e => ?_⟩
      have e : u = m - 1 := e
      subst e
      exact ⟨⟨m - 1, rfl, by omega, by omega, by rw [← pdown_miss g1 q]; exact g3⟩, by show (m - 1).toNat < m.toNat; omega⟩
    · have q : ¬ ¬ isP m = true := q
      refine ⟨rfl, ?_⟩
      show PV.int m = PV.int (drawP c)
      rw [← g3, pdown_hit g1 (Classical.not_not.mp q)]
  refine ⟨by walk_at "pn", fun n0 e0 => ?_⟩
  have e0 : n0 = 2 + c % 9972 := e0
  refine ⟨fun ρ => ∃ n, ρ = [.fr (.int c), .fr (.int n)] ∧ 2 ≤ n ∧ n ≤ 9973 ∧ pdown n.toNat = drawP c, ⟨by walk_at "pn", fun q => ?_, fun q => ?_⟩, ?_⟩
  · have q : c / 9972 % 2 = 0 := q
    refine ⟨by walk_at "pn", fun n1 e1 => ?_⟩
    have e1 : n1 = 2 + c % 30 := e1
    exact ⟨n1, rfl, by omega, by omega, by unfold drawP; rw [if_pos q, e1]⟩
  · have q : ¬ c / 9972 % 2 = 0 := q
    exact ⟨n0, rfl, by omega, by omega, by unfold drawP; rw [if_neg q, e0]⟩
  · rintro ρ ⟨n, rfl, h1, h2, h3⟩
    exact loop n h1 h2 h3
theorem kx_kind (T : Top K mg cFE cNO cK cW cR cP) : Ok P w K mg base 5 "_law_kind" ["_law_way", "_law_prime_here", "_law_many"] (spF K (Gq cW cR cP) (fun as => ∃ way p m, as = [.int way, .int p, .int m] ∧ 0 ≤ way ∧ way ≤ 2 ∧ IsP p ∧ 1 ≤ m ∧ m ≤ 400) fun as => .ob 0 (F_S (allI as))) :=
  (ok_kind T).imp fun vs H Q E ⟨as, O, hd, al, ⟨way, p, m, e, h⟩, q⟩ => by
    subst e
    have al : vs = [.int way, .int p, .int m] := al.ints True.intro
    refine ⟨way, p, m, al, h.1, h.2.1, h.2.2.1, h.2.2.2.1, h.2.2.2.2, fun a H' s n k => q (.ref a) H' s ⟨a, rfl, .inl ⟨rfl, ?_⟩⟩⟩
    obtain ⟨C, dx, fs, e, r⟩ := k
    refine ⟨C, dx, fs, ?_, r⟩
    rw [mn_of]
    · exact e
    · cases z : O a with
      | false => rfl
      | true => exact absurd n (hd a z)
theorem kx_whole (T : Top K mg cFE cNO cK cW cR cP) : Ok P w K mg base 1 "_law_whole" ["_law_found"] (spFB K (Gq cW cR cP) (fun as => ∃ n, as = [.int n]) fun _ => true) := by
  refine okF T.d_whole sc_whole (fun as ⟨c, h⟩ => by rw [h]; rfl) (fun f cdv A outer s H E hr => ⟨_, (xss_one (xst_ret (xe_and (xe_isinst T.b_isinstance (xv 0) (xv_bltn (by rfl) T.b_int bt_int)) (pe_one (xe_not (xe_isinst T.b_isinstance (xv 0) (xv_bltn (by rfl) T.b_bool bt_bool))))))), fun as hp => ?_⟩)
  obtain ⟨n, rfl⟩ := hp
  have h1 : instP K (.int n) (.ty "int") = true := instP_of rfl rfl T.i_int_int
  have h2 : instP K (.int n) (.ty "bool") = false := instP_of rfl rfl T.i_int_bool
  refine ⟨⟨⟨rfl, True.intro, _, _, _, rfl, rfl, T.i_int_int⟩, fun _ => ⟨rfl, True.intro, _, _, _, rfl, rfl, T.i_int_bool⟩⟩, ?_⟩
  show PV.bl (decide (instP K (.int n) (.ty "int") = true ∧ ¬ instP K (.int n) (.ty "bool") = true)) = PV.bl true
  rw [h1, h2]
  rfl
/-- are two lists of numbers alike -/
theorem kx_alike (T : Top K mg cFE cNO cK cW cR cP) : Ok P w K mg base 2 "_law_alike" ["_law_found", "_law_due"] (spFB K (Gq cW cR cP) (fun as => ∃ a b, as = [.ints a, .ints b] ∧ b.length ≤ 1000) fun as => match as with
    | [.ints a, .ints b] => decide (a = b)
    | _ => false) := by
  refine okF T.d_alike sc_alike (fun as ⟨a, b, h, _⟩ => by rw [h]; rfl) (fun f cdv A outer s H E hr => ⟨_, (xss_cons (xst_if (L2.PW.pt (xw_or (xt_not (xt_V (xe_isinst T.b_isinstance (xl 0) (xv_bltn (by rfl) T.b_list bt_list)))) (xw_or1 (xt_ne (xn_len 0 T.b_len) (xn_len 1 T.b_len)))))
 (xss_one (xst_ret xb_bl))
 xss_nil)
 (xss_cons (xst_forR (k := 2) PassesOwn.never rfl (by rfl) T.b_range (xn_len 1 T.b_len) sc_alike.nd rfl (Or.inl rfl)
 (xss_one (xst_if (L2.PW.pt (xw_or (xt_not (xt_V (xcb (kx_whole T) hr (xa_cons (xn_item 0 (xn 2) (fun _ _ => rfl)) xa_nil)))) (xw_or1 (xt_ne (xn_item 0 (xn 2) (fun _ _ => rfl)) (xn_item 1 (xn 2) (fun _ _ => rfl))))))
 (xss_one (xst_ret xb_bl))
 xss_nil)))
 (xss_one (xst_ret xb_bl)))), fun as hp => ?_⟩)
  obtain ⟨a, b, rfl, hb⟩ := hp
  have h1 : instP K (.ints a) (.ty "list") = true := instP_of rfl rfl T.i_list_list
  refine ⟨⟨⟨rfl, True.intro, _, _, _, rfl, rfl, T.i_list_list⟩, fun _ => ⟨.inl rfl, .inl rfl⟩⟩, fun q => ?_, fun q => ?_⟩
  · have q : ¬ instP K (.ints a) (.ty "list") = true ∨ ¬ (a.length : Int) = (b.length : Int) := q
    rw [h1] at q
    refine ⟨True.intro, ?_⟩
    show PV.bl false = PV.bl (decide (a = b))
    rw [decide_eq_false]
    intro z
    subst z
    rcases q with q | q
    · exact q rfl
    · exact q rfl
  · have q : ¬ (¬ instP K (.ints a) (.ty "list") = true ∨ ¬ (a.length : Int) = (b.length : Int)) := q
    have hl : a.length = b.length := by
      by_cases c : a.length = b.length
      · exact c
      · exact absurd (.inr (by omega)) q
    refine ⟨.inl rfl, ⟨by show -(2 : Int) ^ 62 ≤ (b.length : Int); omega, by show (b.length : Int) < 2 ^ 62; omega⟩, fun i ρ => (∃ v, ρ = [.fr (.ints a), .fr (.ints b), v]) ∧ ∀ j, j < i → a.getD j 0 = b.getD j 0, ⟨⟨_, rfl⟩, fun j h => by omega⟩, ?_, ?_⟩
    · rintro i ρ hi ⟨⟨v, rfl⟩, ih⟩
      have hi : i < (b.length : Int).toNat := hi
      have i1 : -(a.length : Int) ≤ (i : Int) := by omega
      have i2 : (i : Int) < (a.length : Int) := by omega
      have i3 : -(b.length : Int) ≤ (i : Int) := by omega
      have i4 : (i : Int) < (b.length : Int) := by omega
      have ea : ixO a.length (i : Int) = i := by unfold ixO; rw [if_pos (by omega)]; omega
      have eb : ixO b.length (i : Int) = i := by unfold ixO; rw [if_pos (by omega)]; omega
      refine ⟨⟨⟨⟨⟨.inl rfl, rfl, i1, i2⟩, True.intro⟩, ⟨_, rfl⟩⟩, fun _ => ⟨⟨.inl rfl, rfl, i1, i2⟩, ⟨.inl rfl, rfl, i3, i4⟩⟩⟩, fun q => ?_, fun q => ?_⟩
      · have q : ¬ true = true ∨ ¬ a.getD (ixO a.length (i : Int)) 0 = b.getD (ixO b.length (i : Int)) 0 := q
        rw [ea, eb] at q
        refine ⟨True.intro, ?_⟩
        show PV.bl false = PV.bl (decide (a = b))
        rw [decide_eq_false]
        intro z
        subst z
        rcases q with q | q
        · exact q rfl
        · exact q rfl
      · have q : ¬ (¬ true = true ∨ ¬ a.getD (ixO a.length (i : Int)) 0 = b.getD (ixO b.length (i : Int)) 0) := q
        rw [ea, eb] at q
        refine ⟨⟨_, rfl⟩, fun j hj => ?_⟩
        by_cases c : j = i
        · subst c
          by_cases d : a.getD j 0 = b.getD j 0
          · exact d
          · exact absurd (.inr d) q
        · exact ih j (by omega)
    · rintro ρ ⟨⟨v, rfl⟩, ih⟩
      refine ⟨True.intro, ?_⟩
      show PV.bl true = PV.bl (decide (a = b))
      rw [decide_eq_true]
      refine List.ext_getElem hl fun j h1 h2 => ?_
      have z := ih j (by show j < (b.length : Int).toNat; omega)
      rw [List.getD_eq_getElem?_getD, List.getD_eq_getElem?_getD, List.getElem?_eq_getElem h1, List.getElem?_eq_getElem h2] at z
      exact z
noncomputable def m_number (v_cell v_place : Int) : Int := if (((v_place * v_place) % (7 : Int)) = (2 : Int)) then if (((v_cell / (3 : Int)) % (4 : Int)) = (1 : Int)) then (-(v_cell % (5 : Int))) else ((v_cell % (5 : Int))) else (if (((v_cell / (3 : Int)) % (4 : Int)) = (1 : Int)) then (-(v_cell % ((10 : Int) ^ (60 : Nat)))) else ((v_cell % ((10 : Int) ^ (60 : Nat)))))
noncomputable def F_number : List Int → Int := fun ns => match ns with
  | [v_cell, v_place] => m_number v_cell v_place
  | _ => 0
noncomputable def pre_number : List Int → Prop := fun ns => match ns with
  | [v_cell, v_place] => 0 ≤ v_place ∧ v_place ≤ 1000
  | _ => False
theorem ok_number (T : Top K mg cFE cNO cK cW cR cP) : Ok P w K mg base 1 "_law_number" ["_law_cell", "_law_place"] (spI 2 pre_number F_number) := by
  refine Def.ok T.d_number sc_number (fun vs H Q E h => ?_) (fun f cdv A outer s H vs Q E hr h => ?_)
  · obtain ⟨ns, hl, rfl, _⟩ := h
    rw [List.length_map, hl]; rfl
  obtain ⟨ns, hl, rfl, hp, k⟩ := h
  obtain ⟨v_cell, v_place, rfl⟩ := len2 hl
  refine ⟨_, (pss_cons (ps_setN (i := 2) sc_number.nd rfl (Or.inl rfl) (pn_mod (pn_var 0) (pn_pow pn_int pn_int)))
 (pss_cons (ps_ifP (ptn_eq (pn_mod (pn_mul (pn_var 1) (pn_var 1)) pn_int) pn_int)
 (pss_one (ps_setN (i := 2) sc_number.nd rfl (Or.inl rfl) (pn_mod (pn_var 0) pn_int)))
 pss_nil)
 (pss_cons (ps_ifP (ptn_eq (pn_mod (pn_div (pn_var 0) pn_int) pn_int) pn_int)
 (pss_one (ps_ret (pn_neg (pn_var 2))))
 pss_nil)
 (pss_one (ps_ret (pn_var 2)))))), ?_⟩
  have k : Q (.int (m_number v_cell v_place)) H := k
  unfold m_number at k
  have hp : 0 ≤ v_place ∧ v_place ≤ 1000 := hp
  refine ⟨by walk_at "pn", fun n1_0 e_n1_0 => ?_⟩
  have f_n1_0 : n1_0 = (v_cell % ((10 : Int) ^ (60 : Nat))) := e_n1_0
  subst f_n1_0; clear e_n1_0
  refine ⟨by walk_at "pn", fun h1' => ?_, fun h1' => ?_⟩
  · have h1 : (((v_place * v_place) % (7 : Int)) = (2 : Int)) := h1'
    clear h1'
    refine ⟨by walk_at "pn", fun n2_6 e_n2_6 => ?_⟩
    have f_n2_6 : n2_6 = (v_cell % (5 : Int)) := e_n2_6
    subst f_n2_6; clear e_n2_6
    refine ⟨by walk_at "pn", fun h2' => ?_, fun h2' => ?_⟩
    · have h2 : (((v_cell / (3 : Int)) % (4 : Int)) = (1 : Int)) := h2'
      clear h2'
      have r := k
      rw [if_pos h1, if_pos h2] at r
      exact ⟨by walk_at "pn", r⟩
    · have h2 : ¬ (((v_cell / (3 : Int)) % (4 : Int)) = (1 : Int)) := h2'
      clear h2'
      have r := k
      rw [if_pos h1, if_neg h2] at r
      exact ⟨by walk_at "pn", r⟩
  · have h1 : ¬ (((v_place * v_place) % (7 : Int)) = (2 : Int)) := h1'
    clear h1'
    refine ⟨by walk_at "pn", fun h2' => ?_, fun h2' => ?_⟩
    · have h2 : (((v_cell / (3 : Int)) % (4 : Int)) = (1 : Int)) := h2'
      clear h2'
      have r := k
      rw [if_neg h1, if_pos h2] at r
      exact ⟨by walk_at "pn", r⟩
    · have h2 : ¬ (((v_cell / (3 : Int)) % (4 : Int)) = (1 : Int)) := h2'
      clear h2'
      have r := k
      rw [if_neg h1, if_neg h2] at r
      exact ⟨by walk_at "pn", r⟩
theorem kx_number (T : Top K mg cFE cNO cK cW cR cP) : Ok P w K mg base 1 "_law_number" ["_law_cell", "_law_place"] (spFI K (Gq cW cR cP) (fun as => areI as ∧ as.length = 2 ∧ pre_number (allI as)) fun as => F_number (allI as)) := liftI (ok_number T)

/-! ### noughts at the end are cut -/
theorem trimZ_step {ns : List Int} (h : ns ≠ []) (h0 : ns.getD (ns.length - 1) 0 = 0) : trimZ ns.dropLast = trimZ ns := by
  have e : ns = ns.dropLast ++ [0] := by
    have e1 := List.dropLast_concat_getLast h
    have e2 : ns.getLast h = 0 := by
      rw [List.getLast_eq_getElem]
      rw [List.getD_eq_getElem?_getD, List.getElem?_eq_getElem (by have := List.length_pos_iff.mpr h; omega)] at h0
      exact h0
    rw [e2] at e1
    exact e1.symm
  rw [e, trimZ_zero, List.dropLast_concat]
theorem trimZ_done {ns : List Int} (h : ¬ (ns ≠ [] ∧ ns.getD (ns.length - 1) 0 = 0)) : trimZ ns = ns := by
  by_cases c : ns = []
  · rw [c]; rfl
  · have h0 : ¬ ns.getD (ns.length - 1) 0 = 0 := fun z => h ⟨c, z⟩
    have e1 := List.dropLast_concat_getLast c
    have e2 : ns.getLast c ≠ 0 := by
      rw [List.getLast_eq_getElem]
      rw [List.getD_eq_getElem?_getD, List.getElem?_eq_getElem (by have := List.length_pos_iff.mpr c; omega)] at h0
      exact h0
    rw [← e1, trimZ_ne _ e2]
theorem last_at (ns : List Int) (h : ns ≠ []) : ixO ns.length (-1) = ns.length - 1 := by
  have := List.length_pos_iff.mpr h
  unfold ixO
  rw [if_neg (by omega)]
  omega
theorem kx_trim (T : Top K mg cFE cNO cK cW cR cP) : Ok P w K mg base 2 "_law_trim" ["_law_row", "_law_size_here"] (spL K (Gq cW cR cP) (fun as => ∃ f z, as = [.ints f, .int z] ∧ 0 ≤ z ∧ f.length ≤ 1000) fun as => match as with
    | [.ints f, .int z] => trimZ (f.map (pl z))
    | _ => []) := by
  refine okL T.d_trim sc_trim (fun as ⟨a, b, h, _⟩ => by rw [h]; rfl) (fun f cdv A outer s H E hr => ⟨_, (xss_cons (xst_lcL (i := 0) sc_trim.nd rfl rfl (N' := ["_law_number_here", "_law_size_here"]) (cap := [some 1]) (lc_ok rfl rfl rfl rfl ⟨⟨rfl, Or.inr (Or.inl rfl), (fun z => nomatch (show (some NameKind.cell : Option NameKind) = some NameKind.local from z)), Or.inl rfl, _, rfl, rfl⟩, True.intro⟩ ⟨rfl, True.intro⟩ rfl) rfl (xl 0) (fun _ _ _ => (pg_name (i := 0) (show (["_law_number_here", "_law_size_here"] : List Str).Nodup by decide +kernel) rfl (Or.inl rfl) (.inr rfl))) (fun _ _ _ => (xci (kx_plain T) hr (xa_cons (xn 0) (xa_cons (xn 1) xa_nil)))) rfl)
 (xss_cons (xst_while PassesOwn.never (L2.PW.pt (xw_and (xt_gt (xn_len 0 T.b_len) xn_int) (xw_and1 (xt_eq (xn_item 0 (xn_neg xn_int) (fun _ _ => rfl)) xn_int))))
 (xss_one (xst_pop 0)))
 (xss_one (xst_retO 0)))), fun as hp => ?_⟩)
  obtain ⟨f, z, rfl, hz, hf⟩ := hp
  refine ⟨⟨rfl, hf, fun n _ => ⟨⟨rfl, rfl, True.intro⟩, True.intro, rfl, hz⟩⟩, fun ns e => ?_⟩
  have e : ns = f.map (pl z) := e
  refine ⟨fun ρ => ∃ ms, ρ = [.ow (.ints ms), .fr (.int z)] ∧ trimZ ms = trimZ ns, fun ρ => (getL ρ 0).length, ⟨ns, rfl, rfl⟩, ?_⟩
  rintro ρ ⟨ms, rfl, hm⟩
  refine ⟨⟨⟨.inr (.inl rfl), True.intro⟩, fun h => ⟨⟨.inr (.inl rfl), True.intro, ?_, ?_⟩, True.intro⟩⟩, fun q => ?_, fun q => ?_⟩
  · have h : 0 < (ms.length : Int) := h
    show -(ms.length : Int) ≤ -1
    omega
  · show (-1 : Int) < (ms.length : Int)
    omega
  · have q : 0 < (ms.length : Int) ∧ ms.getD (ixO ms.length (-1)) 0 = 0 := q
    have hne : ms ≠ [] := List.length_pos_iff.mp (by omega)
    rw [last_at ms hne] at q
    refine ⟨rfl, hne, ⟨_, rfl, ?_⟩, ?_⟩
    · rw [← hm]; exact trimZ_step hne q.2
    · show ms.dropLast.length < ms.length
      rw [List.length_dropLast]
      omega
  · have q : ¬ (0 < (ms.length : Int) ∧ ms.getD (ixO ms.length (-1)) 0 = 0) := q
    refine ⟨rfl, ?_⟩
    show ms = trimZ (f.map (pl z))
    rw [← e, ← hm, trimZ_done]
    rintro ⟨a, b⟩
    have := List.length_pos_iff.mpr a
    exact q ⟨by omega, by rw [last_at ms a]; exact b⟩

/-! ### polynomials: trimmed, value, slope -/
theorem kx_cut_noughts (T : Top K mg cFE cNO cK cW cR cP) : Ok P w K mg base 1 "cut_noughts" ["numbers"] (spM (fun _ => True) trimZ) := by
  refine Def.ok T.d_cut_noughts sc_cut_noughts (fun vs H Q E h => ?_) (fun f cdv A outer s H vs Q E hr h => ?_)
  · obtain ⟨a, ns, rfl, _⟩ := h
    rfl
  obtain ⟨a, ns, rfl, hH, _, q⟩ := h
  refine ⟨_, (pss_one (ps_while PassesOwn.never (pw_and (pt_truth (pv 0) (fun _ => rfl)) (pw_and1 (pt_cmpR op_eq (pe_item 0 (pn_neg pn_int) (fun _ _ => rfl)) pn_int (nomark _)))).pt
 (pss_one (ps_expr (pe_bm0 PySem.F.plainAttrs_list PySem.F.slot_list_pop PySem.F.type_list_pop mt_pop (pv 0)))))), ?_⟩
  refine ⟨fun m σ H' => σ = [some (.ref a)] ∧ ∃ ms, m = ms.length ∧ H' = upd H a (.lst (ms.map V.int)) ∧ trimZ ms = trimZ ns, ⟨ns.length, rfl, ns, rfl, ?_, rfl⟩, ?_⟩
  · funext b
    by_cases c : b = a
    · rw [c, upd_same, hH]
    · rw [upd_ne c]
  rintro m σ H' ⟨rfl, ms, rfl, rfl, hm⟩
  refine ⟨_, rfl, _, .inl ⟨_, SqL.of upd_same, rfl⟩, ?_⟩
  by_cases c : ms = []
  · subst c
    refine iteF ?_
    refine iteF ?_
    refine q _ (fun b o hb e => ?_) ?_
    · rw [upd_ne hb]; exact e
    · rw [upd_same, ← hm]; rfl
  · have hlen := List.length_pos_iff.mpr c
    have e1 : (!(ms.map V.int).isEmpty) = true := by cases ms <;> simp at c ⊢
    rw [e1]
    refine iteT ?_
    refine ⟨True.intro, a, ms, ms.getD (ms.length - 1) 0, rfl, SqL.of upd_same, ?_, ?_⟩
    · have z := getD_at (ns := ms) (i := -1) (by omega) (by omega)
      show atI (ms.map V.int) (-1) = _
      rw [z, if_neg (by omega)]
      have : (-1 + (ms.length : Int)).toNat = ms.length - 1 := by omega
      rw [this]
    refine ⟨True.intro, rfl, _, rfl, ?_⟩
    by_cases d : ms.getD (ms.length - 1) 0 = 0
    · have e2 : decide (V.int (ms.getD (ms.length - 1) 0) = V.int 0) = true := decide_eq_true (by rw [d])
      rw [e2]
      refine iteT ?_
      refine ⟨fun σ H' => σ = [some (.ref a)] ∧ H' = upd H a (.lst (ms.dropLast.map V.int)), ?_, ?_⟩
      · rintro σ' H' ⟨rfl, rfl⟩
        refine ⟨ms.dropLast.length, by rw [List.length_dropLast]; omega, rfl, _, rfl, rfl, ?_⟩
        rw [← hm]; exact trimZ_step c d
      · refine ⟨_, rfl, .inl ⟨rfl, _, SqL.of upd_same⟩, a, _, V.int (ms[ms.length - 1]'(by omega)), rfl, rfl, upd_same, ?_, rfl, ?_⟩
        · rw [List.length_map, List.getElem?_map, List.getElem?_eq_getElem (by omega)]
          rfl
        · rw [upd_upd, List.map_dropLast]
    · have e2 : decide (V.int (ms.getD (ms.length - 1) 0) = V.int 0) = false := decide_eq_false (by intro z; exact d (by injection z))
      rw [e2]
      refine iteF ?_
      refine q _ (fun b o hb e => ?_) ?_
      · rw [upd_ne hb]; exact e
      · rw [upd_same, ← hm, trimZ_done fun z => d z.2]
theorem kx_trimmed (T : Top K mg cFE cNO cK cW cR cP) : Ok P w K mg base 2 "trimmed" ["kind", "f"] (spL K (Gq cW cR cP) (fun as => ∃ z f, as = [.ob 0 z, .ints f] ∧ f.length ≤ 1000) fun as => match as with
    | [.ob 0 z, .ints f] => trimZ (f.map (pl z))
    | _ => []) := by
  refine okL T.d_trimmed sc_trimmed (fun as ⟨a, b, h, _⟩ => by rw [h]; rfl) (fun f cdv A outer s H E hr => ⟨_, (xss_cons (xst_lcL (i := 2) sc_trimmed.nd rfl rfl (N' := ["number", "kind"]) (cap := [some 0]) (lc_ok rfl rfl rfl rfl ⟨⟨rfl, Or.inr (Or.inl rfl), (fun z => nomatch (show (some NameKind.cell : Option NameKind) = some NameKind.local from z)), Or.inl rfl, _, rfl, rfl⟩, True.intro⟩ ⟨rfl, True.intro⟩ rfl) rfl (xl 1) (fun _ _ _ => (pg_name (i := 0) (show (["number", "kind"] : List Str).Nodup by decide +kernel) rfl (Or.inl rfl) (.inr rfl))) (fun _ _ _ => (xn_kmeth 1 (km_plain T) hr (xa_cons (xn 0) xa_nil))) rfl)
 (xss_cons (xst_mut 2 (kx_cut_noughts T) hr)
 (xss_one (xst_retO 2)))), fun as hp => ?_⟩)
  obtain ⟨z, f, rfl, hf⟩ := hp
  refine ⟨⟨rfl, hf, fun n _ => ⟨rfl, ⟨rfl, True.intro⟩, True.intro, True.intro⟩⟩, fun ns e => ?_⟩
  have e : ns = f.map (pl z) := e
  refine ⟨rfl, True.intro, rfl, ?_⟩
  show trimZ ns = trimZ (f.map (pl z))
  rw [e]

theorem headN_nn (c : Int) : 0 ≤ headN c := by unfold headN; exact Int.emod_nonneg _ (by decide)
theorem pow_b {p : Int} (h1 : 2 ≤ p) (h2 : p ≤ 9973) : ∀ k : Nat, k ≤ 400 → p ^ k < ((2 ^ 9000 : Nat) : Int) := fun k hk => by
  have h3 := abs_pow_le (x := p) (X := 2 ^ 14) (by omega) k
  have h4 : (2 ^ 14) ^ k < 2 ^ 9000 := by
    rw [← Nat.pow_mul]
    exact Nat.pow_lt_pow_right (by decide) (by omega)
  generalize (2 : Nat) ^ 9000 = N at h4 ⊢
  generalize ((2 : Nat) ^ 14) ^ k = M at h3 h4
  omega
theorem sizeOf_b {way p m : Int} (hp : IsP p) (h1 : 1 ≤ m) (h2 : m ≤ 400) : 0 ≤ sizeOf way p m ∧ sizeOf way p m < ((2 ^ 9000 : Nat) : Int) := by
  have hb := pow_b hp.1 hp.2.1
  generalize ((2 ^ 9000 : Nat) : Int) = N at hb ⊢
  have hpp : 2 ≤ p := hp.1
  unfold sizeOf
  split
  · have := hb 0 (by omega)
    rw [Int.pow_zero] at this
    omega
  · split
    · exact ⟨Int.le_of_lt (pow_pos' hp.1 _), hb _ (by omega)⟩
    · refine ⟨by omega, ?_⟩
      have := hb 1 (by omega)
      rw [Int.pow_one] at this
      exact this
open Classical in
noncomputable def tu (n z : Int) : Int := if h : ∃ x : Int, 0 ≤ x ∧ x < z ∧ x * n % z = 1 then Classical.choose h else 0
theorem tu_one {n z x : Int} (hz : 2 ≤ z) (h0 : 0 ≤ x) (h1 : x < z) (h2 : x * n % z = 1) : tu n z = x := by
  have ex : ∃ x : Int, 0 ≤ x ∧ x < z ∧ x * n % z = 1 := ⟨x, h0, h1, h2⟩
  have e : tu n z = Classical.choose ex := by unfold tu; rw [dif_pos ex]
  obtain ⟨y0, y1, y2⟩ := Classical.choose_spec ex
  rw [e]
  generalize Classical.choose ex = y at y0 y1 y2
  have a1 : (y * (x * n)) % z = y := by
    rw [Int.mul_emod, h2, Int.mul_one, Int.emod_emod, Int.emod_eq_of_lt y0 y1]
  have a2 : (x * (y * n)) % z = x := by
    rw [Int.mul_emod, y2, Int.mul_one, Int.emod_emod, Int.emod_eq_of_lt h0 h1]
  exact (a1.symm.trans (by rw [Int.mul_left_comm y x n])).trans a2
theorem tu_spec {n z : Int} (hz : 2 ≤ z) (h : ∃ x : Int, 0 ≤ x ∧ x < z ∧ x * n % z = 1) : 0 ≤ tu n z ∧ tu n z < z ∧ tu n z * n % z = 1 := by
  obtain ⟨x, h0, h1, h2⟩ := h
  rw [tu_one hz h0 h1 h2]
  exact ⟨h0, h1, h2⟩
theorem tu_ex {n z : Int} (hz : 2 ≤ z) (h : Int.gcd n z = 1) : ∃ x : Int, 0 ≤ x ∧ x < z ∧ x * n % z = 1 := by
  have run : ∀ (m : Nat) (b r sb s : Int), r.toNat ≤ m → Eu n z b r sb s → ∃ x : Int, 0 ≤ x ∧ x < z ∧ x * n % z = 1 := by
    intro m
    induction m with
    | zero =>
      intro b r sb s hm I
      have := I.r0
      have e : r = 0 := by omega
      subst e
      have gc := I.end
      exact ⟨sb % z, Int.emod_nonneg _ (by omega), Int.emod_lt_of_pos _ (by omega), I.one hz (by omega)⟩
    | succ m ih =>
      intro b r sb s hm I
      by_cases c : r = 0
      · subst c
        have gc := I.end
        exact ⟨sb % z, Int.emod_nonneg _ (by omega), Int.emod_lt_of_pos _ (by omega), I.one hz (by omega)⟩
      · have I2 := I.step c
        have := I2.rb
        have := I2.r0
        have := I.r0
        exact ih _ _ _ _ (by omega) I2
  exact run _ _ _ _ _ (Nat.le_refl _) (Eu.start hz)
noncomputable def F_tu (C : Addr) : List PV → Rs := fun as => match as with
  | [.int n, .int z] => if Int.gcd n z = 1 then .val (.int (tu n z)) else .err C
  | _ => .err C
theorem small9 {x z : Int} (h : (x.natAbs : Int) ≤ z) (hz : z.natAbs < 2 ^ 9000) : x.natAbs < 2 ^ 9000 := by
  generalize 2 ^ 9000 = B at *
  omega
theorem kx_turned (T : Top K mg cFE cNO cK cW cR cP) : OkE P w K mg base 1 "turned" ["number", "size"] (spE K (Gq cW cR cP) (fun as => ∃ n z, as = [.int n, .int z] ∧ 2 ≤ z ∧ z.natAbs < 2 ^ 9000) (F_tu cNO)) := by
  refine okE T.d_turned sc_turned (fun as ⟨n, z, h, _⟩ => by rw [h]; rfl) (fun f cdv A outer s H E hr => ⟨_, (xss_cons (xst_setI (i := 2) sc_turned.nd rfl (Or.inl rfl) (xn 1))
 (xss_cons (xst_setI (i := 3) sc_turned.nd rfl (Or.inl rfl) (xn_mod (xn 0) (xn 1)))
 (xss_cons (xst_setI (i := 4) sc_turned.nd rfl (Or.inl rfl) xn_int)
 (xss_cons (xst_setI (i := 5) sc_turned.nd rfl (Or.inl rfl) xn_int)
 (xss_cons (xst_while PassesOwn.leaving (xt_ne (xn 3) xn_int)
 (xss_cons (xst_setI (i := 6) sc_turned.nd rfl (Or.inl rfl) (xn_div (xn 2) (xn 3)))
 (xss_cons (xst_setI (i := 7) sc_turned.nd rfl (Or.inl rfl) (xn_sub (xn 2) (xn_mul (xn 6) (xn 3))))
 (xss_cons (xst_setI (i := 8) sc_turned.nd rfl (Or.inl rfl) (xn_sub (xn 4) (xn_mul (xn 6) (xn 5))))
 (xss_cons (xst_setI (i := 2) sc_turned.nd rfl (Or.inl rfl) (xn 3))
 (xss_cons (xst_setI (i := 3) sc_turned.nd rfl (Or.inl rfl) (xn 7))
 (xss_cons (xst_setI (i := 4) sc_turned.nd rfl (Or.inl rfl) (xn 5))
 (xss_one (xst_setI (i := 5) sc_turned.nd rfl (Or.inl rfl) (xn 8))))))))))
 (xss_cons (xst_if (xt_ne (xn 2) xn_int)
 (xss_one (xst_raise newE rfl T.x_NoOver (by rfl) T.m_NoOver (xa_cons xs_str xa_nil)))
 xss_nil)
 (xss_one (xst_ret (xn_mod (xn 4) (xn 1)))))))))), fun as hp => ?_⟩)
  obtain ⟨n, z, rfl, hz, hz9⟩ := hp
  refine ⟨rfl, fun b0 e0 => ?_⟩
  have e0 : b0 = z := e0
  subst e0
  refine ⟨⟨rfl, rfl, by show 0 < b0; omega⟩, fun r0 er => ?_⟩
  have er : r0 = n % b0 := er
  refine ⟨True.intro, fun z0 ez => ?_⟩
  have ez : z0 = 0 := ez
  subst ez
  refine ⟨True.intro, fun o0 eo => ?_⟩
  have eo : o0 = 1 := eo
  subst eo
  refine ⟨fun ρ => ∃ b r sb s o rb sbh, ρ = [.fr (.int n), .fr (.int b0), .fr (.int b), .fr (.int r), .fr (.int sb), .fr (.int s), o, rb, sbh] ∧ Eu n b0 b r sb s, fun ρ => (getI ρ 3).toNat, ⟨b0, r0, 0, 1, .un, .un, .un, rfl, by rw [er]; exact Eu.start hz⟩, ?_⟩
  rintro ρ ⟨b, r, sb, s, o, rb, sbh, rfl, I⟩
  have sm := I.id
  have sbz := I.bz
  have rlt := I.rb
  have rnn := I.r0
  have s9 : s.natAbs < 2 ^ 9000 := small9 (z := b0) (by
    have h1 : (s.natAbs : Int) * 1 ≤ (s.natAbs : Int) * b := Int.mul_le_mul_of_nonneg_left (by omega) (by omega)
    have h2 : 0 ≤ (sb.natAbs : Int) * r := Int.mul_nonneg (by omega) rnn
    omega) hz9
  have r9 : r.natAbs < 2 ^ 9000 := small9 (z := b0) (by omega) hz9
  refine ⟨⟨rfl, True.intro⟩, fun c => ?_, fun c => ?_⟩
  · have c : ¬ r = 0 := c
    have q0 : 0 ≤ b / r := Int.ediv_nonneg (by omega) (by omega)
    have q1 : b / r ≤ b := Int.ediv_le_self _ (by omega)
    have q9 : (b / r).natAbs < 2 ^ 9000 := small9 (z := b0) (by omega) hz9
    refine ⟨⟨rfl, rfl, by show 0 < r; omega, (Nat.log2_lt (by show r.natAbs ≠ 0; omega)).mpr r9⟩, fun q eq => ?_⟩
    have eq : q = b / r := eq
    subst eq
    refine ⟨⟨rfl, rfl, rfl, mul_ok q9 r9⟩, fun r1 e1 => ?_⟩
    refine ⟨⟨rfl, rfl, rfl, mul_ok q9 s9⟩, fun s1 e2 => ?_⟩
    have f1 : r1 = b - b / r * r := e1
    have f2 : s1 = sb - b / r * s := e2
    clear e1 e2
    refine ⟨rfl, fun b' eb => ?_⟩
    have eb : b' = r := eb
    subst eb
    refine ⟨rfl, fun r2 e3 => ?_⟩
    have e3 : r2 = r1 := e3
    subst e3
    refine ⟨rfl, fun s2 e4 => ?_⟩
    have e4 : s2 = s := e4
    subst e4
    refine ⟨rfl, fun s3 e5 => ?_⟩
    have e5 : s3 = s1 := e5
    subst e5
    have I2 := I.step c
    rw [← f1, ← f2] at I2
    refine ⟨⟨_, _, _, _, _, _, _, rfl, I2⟩, ?_⟩
    show r2.toNat < b'.toNat
    have := I2.rb
    have := I2.r0
    omega
  · have c : ¬ ¬ r = 0 := c
    have c : r = 0 := by omega
    subst c
    have gc := I.end
    refine ⟨⟨rfl, True.intro⟩, fun hb => ?_, fun hb => ?_⟩
    · have hb : ¬ b = 1 := hb
      refine ⟨⟨True.intro, True.intro⟩, ?_⟩
      show F_tu cNO [.int n, .int b0] = .err cNO
      show (if Int.gcd n b0 = 1 then _ else _) = _
      rw [if_neg (by omega)]
    · have hb : ¬ ¬ b = 1 := hb
      have hb : b = 1 := by omega
      refine ⟨⟨rfl, rfl, by show 0 < b0; omega⟩, ?_⟩
      show F_tu cNO [.int n, .int b0] = .val (.int (sb % b0))
      show (if Int.gcd n b0 = 1 then _ else _) = _
      rw [if_pos (by omega), tu_one hz (Int.emod_nonneg _ (by omega)) (Int.emod_lt_of_pos _ (by omega)) (I.one hz hb)]

/-- over: a number, or NoOver -/
noncomputable def preO : Int → List Int → Prop := fun z ns => match ns with
  | [a, b] => b.natAbs < 2 ^ 9000 ∧ (z = 0 ∨ (2 ≤ z ∧ z.natAbs < 2 ^ 9000 ∧ a.natAbs < 2 ^ 9000))
  | _ => False
noncomputable def F_O (C : Addr) : Int → List Int → Int ⊕ Addr := fun z ns => match ns with
  | [a, b] => if z = 0 then (if b = 0 ∨ ¬ a.fmod b = 0 then .inr C else .inl (a.fdiv b)) else (if Int.gcd b z = 1 then .inl (pl z (a * tu b z)) else .inr C)
  | _ => .inr C
theorem FO_no {C : Addr} {x y : Int} (h : y = 0 ∨ ¬ x.fmod y = 0) : F_O C 0 [x, y] = .inr C := by
  unfold F_O
  exact (if_pos (rfl : (0 : Int) = 0)).trans (if_pos h)
theorem FO_yes {C : Addr} {x y : Int} (h : ¬ (y = 0 ∨ ¬ x.fmod y = 0)) : F_O C 0 [x, y] = .inl (x.fdiv y) := by
  unfold F_O
  exact (if_pos (rfl : (0 : Int) = 0)).trans (if_neg h)
theorem FO_r {C : Addr} {z x y : Int} (hz : z ≠ 0) (g : Int.gcd y z = 1) : F_O C z [x, y] = .inl (pl z (x * tu y z)) := (if_neg hz).trans (if_pos g)
theorem FO_e {C : Addr} {z x y : Int} (hz : z ≠ 0) (g : ¬ Int.gcd y z = 1) : F_O C z [x, y] = .inr C := (if_neg hz).trans (if_neg g)
theorem log9 {n : Int} (h : n.natAbs < 2 ^ 9000) : n.natAbs.log2 < 9000 := by
  by_cases c : n.natAbs = 0
  · rw [c]; decide
  · exact (Nat.log2_lt c).mpr h
theorem kme_over (T : Top K mg cFE cNO cK cW cR cP) : KME P w K mg base 2 (KAt cW cR cP) "over" 2 preO (F_O cNO) := by
  refine ⟨fun H a z ka => ?_⟩
  obtain ⟨C, dx, fs, e, hC, hz, hm⟩ := id ka
  rcases hC with ⟨q, q0⟩ | ⟨q, q0⟩
  · subst q q0
    refine ⟨C, dx, fs, ["self", "a", "b"], e, hm "over" (by decide +kernel), ?_⟩
    obtain ⟨f, fd, Fu, b, m1⟩ := T.f_Wholes_over
    refine ⟨f, fd, ?_, b, m1, T.cl_Wholes⟩
    obtain ⟨oc, od, kV, doc, pm, an, cdv, ct, osl, rfl, lk, hcd⟩ := Fu.ex
    refine fn_of lk hcd sc_Wholes_over (fun vs H Q E h => ?_) fun A outer s H vs Q E hr h => ?_
    · obtain ⟨ns, hl, rfl, _⟩ := h
      show (ns.map V.int).length + 1 = 3
      rw [List.length_map, hl]
    obtain ⟨ns, hl, rfl, _, hp, k, ke⟩ := h
    obtain ⟨x, y, rfl⟩ := len2 hl
    obtain ⟨hy, _⟩ := hp
    refine ⟨_, (pss_cons (ps_ifP (pw_orP (ptn_eq (pn_var 2) pn_int) (pw_or1P (ptn_ne (pn_op op_modN (pn_var 1) (pn_var 2)) pn_int))).pt (pss_one (ps_raise newE rfl T.x_NoOver (by rfl) T.m_NoOver (pa_cons pe_str pa_nil) (hl := fun _ _ _ h => ⟨rfl, h⟩))) pss_nil) (pss_one (ps_ret (pn_op op_fdivL (pn_var 1) (pn_var 2))))), ?_⟩
    refine ⟨⟨⟨rfl, True.intro⟩, fun r => ⟨⟨rfl, rfl, r⟩, True.intro⟩⟩, fun r => ?_, fun r => ?_⟩
    · have r : y = 0 ∨ ¬ x.fmod y = 0 := r
      exact ke cNO (FO_no r) H (Same.refl H)
    · have r : ¬ (y = 0 ∨ ¬ x.fmod y = 0) := r
      refine ⟨⟨rfl, rfl, fun z => r (.inl z), log9 hy⟩, ?_⟩
      exact k _ (FO_yes r) H (Same.refl H)
  · obtain ⟨f, fd, Fu, b, m1, m2⟩ := T.f_Kind_over
    have mc : Meth K C "over" f ∧ Cls K C := by
      rcases q with q | q
      · rw [q]; exact ⟨m1, T.cl_Rests⟩
      · rw [q]; exact ⟨m2, T.cl_Powers⟩
    refine ⟨C, dx, fs, ["self", "a", "b"], e, hm "over" (by decide +kernel), f, fd, ?_, b, mc.1, mc.2⟩
    obtain ⟨oc, od, kV, doc, pm, an, cdv, ct, osl, rfl, lk, hcd⟩ := Fu.ex
    refine fn_of lk hcd sc_Kind_over (fun vs H Q E h => ?_) fun A outer s H vs Q E hr h => ?_
    · obtain ⟨ns, hl, rfl, _⟩ := h
      show (ns.map V.int).length + 1 = 3
      rw [List.length_map, hl]
    obtain ⟨ns, hl, rfl, ka2, hp, k, ke⟩ := h
    obtain ⟨x, y, rfl⟩ := len2 hl
    obtain ⟨hy, hq⟩ := hp
    obtain ⟨hz2, h9, hx⟩ : 2 ≤ z ∧ z.natAbs < 2 ^ 9000 ∧ x.natAbs < 2 ^ 9000 := by
      rcases hq with hq | hq
      · omega
      · exact hq
    obtain ⟨C2, dx2, fs2, e2, hC2, hz', _⟩ := id ka2
    have cc2 : Cls K C2 ∧ NoAttr K C2 "size" := by
      rcases hC2 with ⟨_, q⟩ | ⟨q | q, _⟩
      · omega
      · rw [q]; exact ⟨T.cl_Rests, T.na_Rests_size⟩
      · rw [q]; exact ⟨T.cl_Powers, T.na_Powers_size⟩
    obtain ⟨C3, dx3, fs3, ps3, e3, l3, M3⟩ := (km_plain (P := P) (w := w) (base := base) T).ex H a z ka2
    obtain ⟨f3, fd3, F3, b3, mm3, c3⟩ := M3.ex
    refine ⟨_, (pss_one (ps_ret (pe_meth (pv 0) c3 mm3 F3 hr b3 .nil pass0 (pa_cons (pe_op op_mulB (pn_var 1) (pe_callE (kx_turned T) passE hr (pa_cons (pn_var 2) (pa_cons (pe_fld (pv 0) rfl) pa_nil)))) pa_nil)))), ?_⟩
    refine ⟨_, rfl, a, dx3, fs3, rfl, e3, l3, rfl, rfl, _, rfl, a, C2, dx2, fs2, _, rfl, e2, cc2.1, cc2.2, hz', [.int y, .int z], fun _ => false, (fun _ z => by cases z), ⟨_, _, rfl, rfl, _, _, rfl, rfl, rfl⟩, ⟨y, z, rfl, hz2, h9⟩, fun p hp v H1 s1 a1 => ?_, fun er her H1 s1 => ?_⟩
    · have hp : F_tu cNO [.int y, .int z] = .val p := hp
      by_cases g : Int.gcd y z = 1
      · rw [show F_tu cNO [.int y, .int z] = .val (.int (tu y z)) from if_pos g] at hp
        cases hp
        have a1 : v = .int (tu y z) := a1
        subst a1
        obtain ⟨t0, t1, _⟩ := tu_spec hz2 (tu_ex hz2 g)
        have tb : (tu y z).natAbs < 2 ^ 9000 := by
          generalize 2 ^ 9000 = B at *
          omega
        refine ⟨x, tu y z, rfl, rfl, mul_ok (n := 9000) (m := 9000) hx tb, [x * tu y z], rfl, rfl, ka2.same s1, True.intro, ?_⟩
        exact k _ (FO_r (by omega) g) H1 s1
      · rw [show F_tu cNO [.int y, .int z] = .err cNO from if_neg g] at hp
        cases hp
    · have her : F_tu cNO [.int y, .int z] = .err er := her
      by_cases g : Int.gcd y z = 1
      · rw [show F_tu cNO [.int y, .int z] = .val (.int (tu y z)) from if_pos g] at her
        cases her
      · rw [show F_tu cNO [.int y, .int z] = .err cNO from if_neg g] at her
        cases her
        exact ke cNO (FO_e (by omega) g) H1 s1

/-! ### division of polynomials: what the steps keep, and that there is but one quotient and rest -/
theorem pl_iff (z a b : Int) : pl z a = pl z b ↔ z ∣ a - b := by
  unfold pl
  split
  · rename_i h
    subst h
    rw [Int.zero_dvd]
    omega
  · rw [Int.emod_eq_emod_iff_emod_sub_eq_zero, Int.dvd_iff_emod_eq_zero]
theorem pl_same {z a b : Int} (ha : pl z a = a) (hb : pl z b = b) (h : z ∣ a - b) : a = b := by rw [← ha, ← hb]; exact (pl_iff z a b).mpr h
theorem pl_dvd (z a : Int) : z ∣ pl z a - a := (pl_iff z _ _).mp (pl_pl z a)
noncomputable def lastI (xs : List Int) : Int := xs.getD (xs.length - 1) 0
theorem sm_dvd {z : Int} {f : Nat → Int} : ∀ {N : Nat}, (∀ j, j < N → z ∣ f j) → z ∣ sm N f
  | 0, _ => Int.dvd_zero z
  | N + 1, h => Int.dvd_add (sm_dvd fun j hj => h j (by omega)) (h N (by omega))
theorem sm_one {z : Int} {f : Nat → Int} {i : Nat} : ∀ {N : Nat}, i < N → (∀ j, j < N → j ≠ i → z ∣ f j) → z ∣ sm N f - f i
  | 0, h, _ => by omega
  | N + 1, h, k => by
    show z ∣ sm N f + f N - f i
    by_cases c : i = N
    · subst c
      have e : sm i f + f i - f i = sm i f := by omega
      rw [e]
      exact sm_dvd fun j hj => k j (by omega) (by omega)
    · have e : sm N f + f N - f i = (sm N f - f i) + f N := by omega
      rw [e]
      exact Int.dvd_add (sm_one (by omega) fun j hj hne => k j (by omega) hne) (k N (by omega) (by omega))
theorem sm_upd {f g : Nat → Int} {k : Nat} : ∀ {N : Nat}, (∀ i, i < N → i ≠ k → f i = g i) → sm N f = sm N g + if k < N then f k - g k else 0
  | 0, _ => by show (0 : Int) = 0 + _; rw [if_neg (by omega)]; rfl
  | N + 1, h => by
    show sm N f + f N = sm N g + g N + _
    rw [sm_upd (f := f) (g := g) (k := k) fun i hi hne => h i (by omega) hne]
    by_cases c : k = N
    · subst c
      rw [if_neg (by omega), if_pos (by omega)]
      omega
    · rw [h N (by omega) (by omega)]
      by_cases d : k < N
      · rw [if_pos d, if_pos (by omega)]; omega
      · rw [if_neg d, if_neg (by omega)]; omega
theorem cm_top {z : Int} {E d : List Int} {i : Nat} (hd : 0 < d.length) (up : ∀ j, i < j → z ∣ E.getD j 0) : z ∣ cm E d (i + (d.length - 1)) - E.getD i 0 * lastI d := by
  have h := sm_one (z := z) (f := fun j => E.getD j 0 * d.getD (i + (d.length - 1) - j) 0) (i := i) (N := i + (d.length - 1) + 1) (by omega) fun j hj hne => by
    rcases Nat.lt_or_gt_of_ne hne with c | c
    · show z ∣ E.getD j 0 * d.getD (i + (d.length - 1) - j) 0
      rw [getD_ge (show d.length ≤ i + (d.length - 1) - j by omega), Int.mul_zero]
      exact Int.dvd_zero z
    · exact Int.dvd_mul_of_dvd_left (up j c)
  have e : i + (d.length - 1) - i = d.length - 1 := by omega
  rw [e] at h
  exact h
theorem topE {z : Int} {E d : List Int} {S : Nat} (hd : 0 < d.length) (nz : ∀ x, z ∣ x * lastI d → z ∣ x) (h : ∀ n, S + (d.length - 1) ≤ n → z ∣ cm E d n) : ∀ i, S ≤ i → z ∣ E.getD i 0 := by
  have key : ∀ k i, S ≤ i → E.length ≤ i + k → z ∣ E.getD i 0 := by
    intro k
    induction k with
    | zero => intro i _ hk; rw [getD_ge (by omega)]; exact Int.dvd_zero z
    | succ k ih =>
      intro i hi hk
      have one := cm_top (z := z) (E := E) hd (i := i) fun j hj => ih j (by omega) (by omega)
      refine nz _ ?_
      have := Int.dvd_sub (h (i + (d.length - 1)) (by omega)) one
      rw [Int.sub_sub_self] at this
      exact this
  exact fun i hi => key E.length i hi (by omega)
theorem cm_set {q d : List Int} {g : Nat} {c : Int} (hg : g < q.length) (h0 : q.getD g 0 = 0) (n : Nat) : cm (q.set g c) d n = cm q d n + if g ≤ n then c * d.getD (n - g) 0 else 0 := by
  unfold cm
  rw [sm_upd (f := fun i => (q.set g c).getD i 0 * d.getD (n - i) 0) (g := fun i => q.getD i 0 * d.getD (n - i) 0) (k := g) fun i hi hne => by
    show (q.set g c).getD i 0 * d.getD (n - i) 0 = _
    rw [set_get _ _ _ _ hg, if_neg hne]]
  congr 1
  by_cases k : g < n + 1
  · rw [if_pos k, if_pos (by omega)]
    show (q.set g c).getD g 0 * d.getD (n - g) 0 - q.getD g 0 * d.getD (n - g) 0 = _
    rw [set_get _ _ _ _ hg, if_pos rfl, h0]
    omega
  · rw [if_neg k, if_neg (by omega)]
/-- the difference of two lists -/
noncomputable def subL (a b : List Int) : List Int := (List.range (max a.length b.length)).map fun i => a.getD i 0 - b.getD i 0
theorem subL_get (a b : List Int) (n : Nat) : (subL a b).getD n 0 = a.getD n 0 - b.getD n 0 := by
  unfold subL
  by_cases h : n < max a.length b.length
  · rw [getD_lt (by rw [List.length_map, List.length_range]; exact h), List.getElem_map, List.getElem_range]
  · rw [getD_ge (by rw [List.length_map, List.length_range]; omega), getD_ge (xs := a) (by omega), getD_ge (xs := b) (by omega)]; rfl
theorem sm_sub (f g : Nat → Int) : ∀ N, sm N (fun i => f i - g i) = sm N f - sm N g
  | 0 => rfl
  | N + 1 => by
    show sm N (fun i => f i - g i) + (f N - g N) = sm N f + f N - (sm N g + g N)
    rw [sm_sub f g N]
    omega
theorem cm_sub (a b d : List Int) (n : Nat) : cm (subL a b) d n = cm a d n - cm b d n := by
  unfold cm
  rw [← sm_sub]
  exact sm_congr fun i _ => by rw [subL_get, Int.sub_mul]
theorem form_len {xs : List Int} {L : Nat} (hf : InForm xs) (h : ∀ n, L ≤ n → xs.getD n 0 = 0) : xs.length ≤ L := by
  by_cases c : xs.length ≤ L
  · exact c
  · exact absurd (h (xs.length - 1) (by omega)) (hf fun e => by rw [e] at c; exact c (Nat.zero_le _))
/-- one step: c times the divisor is taken off -/
noncomputable def nextR (z : Int) (d r : List Int) (c : Int) : List Int := trimZ ((List.range r.length).map fun n => if r.length - d.length ≤ n then pl z (r.getD n 0 - c * d.getD (n - (r.length - d.length)) 0) else r.getD n 0)
theorem nextR_get {z : Int} {d r : List Int} {c : Int} (hd : d.length ≤ r.length) (n : Nat) : (nextR z d r c).getD n 0 = if r.length - d.length ≤ n then pl z (r.getD n 0 - c * d.getD (n - (r.length - d.length)) 0) else r.getD n 0 := by
  unfold nextR
  rw [trim_get]
  by_cases h : n < r.length
  · rw [getD_lt (by rw [List.length_map, List.length_range]; exact h), List.getElem_map, List.getElem_range]
  · rw [getD_ge (by rw [List.length_map, List.length_range]; omega), if_pos (by omega), getD_ge (xs := r) (by omega), getD_ge (xs := d) (by omega), Int.mul_zero, Int.sub_zero, pl_0]
noncomputable def dvN (z : Int) (ov : Int → Int → Option Int) (d : List Int) : Nat → List Int → List Int → Option (List Int × List Int)
  | 0, q, r => some (q, r)
  | n + 1, q, r => if r.length < d.length then some (q, r) else match ov (lastI r) (lastI d) with
    | none => none
    | some c => dvN z ov d n (q.set (r.length - d.length) c) (nextR z d r c)
structure DInv (z : Int) (f d q r : List Int) : Prop where
  eq : ∀ n, z ∣ cm q d n + r.getD n 0 - f.getD n 0
  rr : ∀ n, pl z (r.getD n 0) = r.getD n 0
  rf : InForm r
  qr : ∀ n, pl z (q.getD n 0) = q.getD n 0
  ql : q.length = f.length + 1 - d.length
  rl : r.length ≤ f.length
  q0 : ∀ n, n + d.length ≤ r.length → q.getD n 0 = 0
  qt : r.length < f.length → q.getD (f.length - d.length) 0 ≠ 0
theorem DInv.start {z : Int} {f d : List Int} (hf : InForm f) (hr : ∀ n, pl z (f.getD n 0) = f.getD n 0) : DInv z f d (List.replicate (f.length + 1 - d.length) 0) f := by
  have g0 : ∀ n, (List.replicate (f.length + 1 - d.length) (0 : Int)).getD n 0 = 0 := fun n => by
    by_cases h : n < f.length + 1 - d.length
    · rw [getD_lt (by rw [List.length_replicate]; exact h), List.getElem_replicate]
    · rw [getD_ge (by rw [List.length_replicate]; omega)]
  refine ⟨fun n => ?_, hr, hf, fun n => ?_, List.length_replicate, Nat.le_refl _, fun n _ => g0 n, fun h => absurd h (Nat.lt_irrefl _)⟩
  · have e : cm (List.replicate (f.length + 1 - d.length) 0) d n = 0 := sm_zero fun i _ => by rw [g0, Int.zero_mul]
    rw [e]
    have : (0 : Int) + f.getD n 0 - f.getD n 0 = 0 := by omega
    rw [this]
    exact Int.dvd_zero z
  · rw [g0, pl_0]
theorem DInv.step {z : Int} {f d q r : List Int} {c : Int} (I : DInv z f d q r) (hd : 0 < d.length) (hl : d.length ≤ r.length) (hc : pl z (c * lastI d) = lastI r) (hp : pl z c = c) : DInv z f d (q.set (r.length - d.length) c) (nextR z d r c) ∧ (nextR z d r c).length < r.length := by
  have hg : r.length - d.length < q.length := by rw [I.ql]; have := I.rl; omega
  have h0 : q.getD (r.length - d.length) 0 = 0 := I.q0 _ (by omega)
  have rne : r ≠ [] := fun e => by rw [e] at hl; exact absurd hl (by show ¬ d.length ≤ 0; omega)
  have l0 : lastI r ≠ 0 := I.rf rne
  have hc2 : c ≠ 0 := fun e => by
    rw [e, Int.zero_mul, pl_0] at hc
    exact l0 hc.symm
  have hlen : (nextR z d r c).length < r.length := by
    have : (nextR z d r c).length ≤ r.length - 1 := by
      refine form_len (trim_form _) fun n hn => ?_
      rw [nextR_get hl, if_pos (by omega)]
      by_cases k : n = r.length - 1
      · subst k
        have e1 : r.length - 1 - (r.length - d.length) = d.length - 1 := by omega
        rw [e1]
        show pl z (lastI r - c * lastI d) = 0
        rw [← pl_0 z]
        refine (pl_iff z _ _).mpr ?_
        have h1 := pl_dvd z (c * lastI d)
        rw [hc] at h1
        rw [Int.sub_zero]
        exact h1
      · rw [getD_ge (xs := r) (by omega), getD_ge (xs := d) (by omega), Int.mul_zero, Int.sub_zero, pl_0]
    omega
  refine ⟨⟨fun n => ?_, fun n => ?_, trim_form _, fun n => ?_, by rw [List.length_set]; exact I.ql, by have := I.rl; omega, fun n hn => ?_, fun _ => ?_⟩, hlen⟩
  · rw [cm_set hg h0, nextR_get hl]
    have e := I.eq n
    by_cases k : r.length - d.length ≤ n
    · rw [if_pos k, if_pos k]
      have p := pl_dvd z (r.getD n 0 - c * d.getD (n - (r.length - d.length)) 0)
      have s := Int.dvd_add e p
      generalize pl z (r.getD n 0 - c * d.getD (n - (r.length - d.length)) 0) = u at s ⊢
      generalize c * d.getD (n - (r.length - d.length)) 0 = v at s ⊢
      have q : cm q d n + v + u - f.getD n 0 = cm q d n + r.getD n 0 - f.getD n 0 + (u - (r.getD n 0 - v)) := by omega
      rw [q]
      exact s
    · rw [if_neg k, if_neg k, Int.add_zero]
      exact e
  · rw [nextR_get hl]
    split
    · exact pl_pl z _
    · exact I.rr n
  · rw [set_get _ _ _ _ hg]
    split
    · exact hp
    · exact I.qr n
  · rw [set_get _ _ _ _ hg, if_neg (by omega)]
    exact I.q0 n (by omega)
  · rw [set_get _ _ _ _ hg]
    split
    · exact hc2
    · have := I.rl
      exact I.qt (by omega)
theorem dvN_ok {z : Int} {ov : Int → Int → Option Int} {f d : List Int} (hd : 0 < d.length) (hov : ∀ a c, pl z a = a → ov a (lastI d) = some c → pl z (c * lastI d) = a ∧ pl z c = c) : ∀ (fuel : Nat) (q r : List Int), DInv z f d q r → r.length < fuel →
    (∀ Q R, dvN z ov d fuel q r = some (Q, R) → DInv z f d Q R ∧ R.length < d.length) ∧ (dvN z ov d fuel q r = none → ∃ q' r', DInv z f d q' r' ∧ d.length ≤ r'.length ∧ ov (lastI r') (lastI d) = none)
  | 0, _, _, _, h => by omega
  | n + 1, q, r, I, h => by
    unfold dvN
    by_cases c : r.length < d.length
    · rw [if_pos c]
      refine ⟨fun Q R e => ?_, fun e => by cases e⟩
      cases e
      exact ⟨I, c⟩
    · rw [if_neg c]
      cases o : ov (lastI r) (lastI d) with
      | none => exact ⟨(fun Q R e => by cases e), fun _ => ⟨q, r, I, by omega, o⟩⟩
      | some x =>
        obtain ⟨h1, h2⟩ := hov (lastI r) x (I.rr _) o
        obtain ⟨J, hl⟩ := I.step hd (by omega) h1 h2
        exact dvN_ok hd hov n _ _ J (by omega)
/-- there is but one quotient and rest -/
theorem dvN_pos {z : Int} {ov : Int → Int → Option Int} {f d Q R : List Int} (hd : 0 < d.length) (hov : ∀ a c, pl z a = a → ov a (lastI d) = some c → pl z (c * lastI d) = a ∧ pl z c = c) (nz : ∀ x, z ∣ x * lastI d → z ∣ x)
    (hno : ∀ a e, pl z a = a → z ∣ a - e * lastI d → ov a (lastI d) ≠ none) (hf : InForm f) (hfr : ∀ n, pl z (f.getD n 0) = f.getD n 0) (hQ : InForm Q) (hQr : ∀ n, pl z (Q.getD n 0) = Q.getD n 0) (hR : InForm R) (hRr : ∀ n, pl z (R.getD n 0) = R.getD n 0) (hRl : R.length < d.length)
    (he : ∀ n, z ∣ cm Q d n + R.getD n 0 - f.getD n 0) {fuel : Nat} (hfu : f.length < fuel) : dvN z ov d fuel (List.replicate (f.length + 1 - d.length) 0) f = some (Q, R) := by
  obtain ⟨h1, h2⟩ := dvN_ok hd hov fuel _ _ (DInv.start (d := d) hf hfr) hfu
  have diff : ∀ q r, DInv z f d q r → ∀ n, z ∣ cm (subL Q q) d n - (r.getD n 0 - R.getD n 0) := fun q r I n => by
    have := Int.dvd_sub (he n) (I.eq n)
    rw [cm_sub]
    have e : cm Q d n - cm q d n - (r.getD n 0 - R.getD n 0) = cm Q d n + R.getD n 0 - f.getD n 0 - (cm q d n + r.getD n 0 - f.getD n 0) := by omega
    rw [e]
    exact this
  cases o : dvN z ov d fuel (List.replicate (f.length + 1 - d.length) 0) f with
  | none =>
    exfalso
    obtain ⟨q, r, I, hl, no⟩ := h2 o
    have dq := diff q r I
    have zero : ∀ n, r.length ≤ n → z ∣ cm (subL Q q) d n := fun n hn => by
      have := dq n
      rw [getD_ge (xs := r) hn, getD_ge (xs := R) (by omega)] at this
      simpa using this
    have hi := topE (E := subL Q q) (S := r.length - d.length + 1) hd nz fun n hn => zero n (by omega)
    have t := cm_top (z := z) (E := subL Q q) hd (i := r.length - d.length) fun j hj => hi j (by omega)
    have e1 : r.length - d.length + (d.length - 1) = r.length - 1 := by omega
    rw [e1] at t
    have s := dq (r.length - 1)
    rw [getD_ge (xs := R) (by omega), Int.sub_zero] at s
    refine hno (lastI r) ((subL Q q).getD (r.length - d.length) 0) (I.rr _) ?_ no
    have u := Int.dvd_sub t s
    have e2 : cm (subL Q q) d (r.length - 1) - (subL Q q).getD (r.length - d.length) 0 * lastI d - (cm (subL Q q) d (r.length - 1) - r.getD (r.length - 1) 0) = lastI r - (subL Q q).getD (r.length - d.length) 0 * lastI d := by
      unfold lastI
      omega
    rw [e2] at u
    exact u
  | some p =>
    obtain ⟨q, r⟩ := p
    obtain ⟨I, hl⟩ := h1 q r o
    have dq := diff q r I
    have hi := topE (E := subL Q q) (S := 0) hd nz fun n hn => by
      have := dq n
      rw [getD_ge (xs := r) (by omega), getD_ge (xs := R) (by omega)] at this
      simpa using this
    have eQ : ∀ n, Q.getD n 0 = q.getD n 0 := fun n => pl_same (hQr n) (I.qr n) (by have := hi n (Nat.zero_le _); rw [subL_get] at this; exact this)
    have qf : InForm q := fun hne => by
      have l1 := List.length_pos_iff.mpr hne
      have e := I.ql
      have e2 : q.length - 1 = f.length - d.length := by omega
      rw [e2]
      exact I.qt (by omega)
    have e1 : Q = q := form_ext hQ qf eQ
    subst e1
    have eR : ∀ n, R.getD n 0 = r.getD n 0 := fun n => pl_same (hRr n) (I.rr n) (by
      have := dq n
      have z0 : cm (subL Q Q) d n = 0 := by rw [cm_sub]; omega
      rw [z0] at this
      have e : R.getD n 0 - r.getD n 0 = 0 - (r.getD n 0 - R.getD n 0) := by omega
      rw [e]
      exact this)
    rw [form_ext hR I.rf eR]
/-- a one more at a place where a step comes -/
theorem dvN_neg {ov : Int → Int → Option Int} {f d Q : List Int} {k : Nat} (hd : 0 < d.length) (hov : ∀ a c, pl 0 a = a → ov a (lastI d) = some c → pl 0 (c * lastI d) = a ∧ pl 0 c = c) (hL : 2 ≤ lastI d) (hf : InForm f) (hk : d.length - 1 ≤ k)
    (he : ∀ n, f.getD n 0 = cm Q d n + if n = k then 1 else 0) {fuel : Nat} (hfu : f.length < fuel) : dvN 0 ov d fuel (List.replicate (f.length + 1 - d.length) 0) f = none := by
  obtain ⟨h1, _⟩ := dvN_ok hd hov fuel _ _ (DInv.start (z := 0) (d := d) hf fun n => pl_zero _) hfu
  cases o : dvN 0 ov d fuel (List.replicate (f.length + 1 - d.length) 0) f with
  | none => rfl
  | some p =>
    exfalso
    obtain ⟨q, r⟩ := p
    obtain ⟨I, hl⟩ := h1 q r o
    have nz : ∀ x, (0 : Int) ∣ x * lastI d → (0 : Int) ∣ x := fun x h => by
      rw [Int.zero_dvd] at h ⊢
      rcases Int.mul_eq_zero.mp h with h | h
      · exact h
      · omega
    have dq : ∀ n, cm (subL Q q) d n = r.getD n 0 - if n = k then 1 else 0 := fun n => by
      have := Int.zero_dvd.mp (I.eq n)
      rw [he n] at this
      rw [cm_sub]
      omega
    have hi := topE (z := 0) (E := subL Q q) (S := k - (d.length - 1) + 1) hd nz fun n hn => by
      rw [dq n, getD_ge (by omega), if_neg (by omega)]
      exact Int.dvd_refl 0
    have t := cm_top (z := 0) (E := subL Q q) hd (i := k - (d.length - 1)) fun j hj => hi j (by omega)
    have e1 : k - (d.length - 1) + (d.length - 1) = k := by omega
    rw [e1, dq k, getD_ge (by omega), if_pos rfl, Int.zero_dvd] at t
    generalize (subL Q q).getD (k - (d.length - 1)) 0 = x at t
    have t : x * lastI d = -1 := by omega
    have n1 := congrArg Int.natAbs t
    rw [Int.natAbs_mul] at n1
    have n2 : 2 ≤ (lastI d).natAbs := by omega
    have n3 : x.natAbs * (lastI d).natAbs = 1 := n1
    rcases Nat.eq_zero_or_pos x.natAbs with h | h
    · rw [h, Nat.zero_mul] at n3; omega
    · have := Nat.mul_le_mul h n2
      omega


noncomputable def ov (z a b : Int) : Option Int := if z = 0 then (if b = 0 ∨ ¬ a.fmod b = 0 then none else some (a.fdiv b)) else (if Int.gcd b z = 1 then some (pl z (a * tu b z)) else none)
theorem ov_some {C : Addr} {z a b c : Int} (h : ov z a b = some c) : F_O C z [a, b] = .inl c := by
  unfold ov at h
  by_cases e : z = 0
  · subst e
    rw [if_pos rfl] at h
    by_cases k : b = 0 ∨ ¬ a.fmod b = 0
    · rw [if_pos k] at h; cases h
    · rw [if_neg k] at h
      cases h
      exact FO_yes k
  · rw [if_neg e] at h
    by_cases k : Int.gcd b z = 1
    · rw [if_pos k] at h
      cases h
      exact FO_r e k
    · rw [if_neg k] at h; cases h
theorem ov_none {C : Addr} {z a b : Int} (h : ov z a b = none) : F_O C z [a, b] = .inr C := by
  unfold ov at h
  by_cases e : z = 0
  · subst e
    rw [if_pos rfl] at h
    by_cases k : b = 0 ∨ ¬ a.fmod b = 0
    · exact FO_no k
    · rw [if_neg k] at h; cases h
  · rw [if_neg e] at h
    by_cases k : Int.gcd b z = 1
    · rw [if_pos k] at h; cases h
    · exact FO_e e k
theorem hov {z : Int} (hz : z = 0 ∨ 2 ≤ z) (b a c : Int) (ha : pl z a = a) (h : ov z a b = some c) : pl z (c * b) = a ∧ pl z c = c := by
  unfold ov at h
  by_cases e : z = 0
  · subst e
    rw [if_pos rfl] at h
    by_cases k : b = 0 ∨ ¬ a.fmod b = 0
    · rw [if_pos k] at h; cases h
    · rw [if_neg k] at h
      cases h
      refine ⟨?_, rfl⟩
      have f0 : a.fmod b = 0 := Classical.byContradiction fun z => k (.inr z)
      have := Int.fmod_add_mul_fdiv a b
      rw [f0, Int.zero_add, Int.mul_comm] at this
      exact this
  · rw [if_neg e] at h
    by_cases k : Int.gcd b z = 1
    · rw [if_pos k] at h
      cases h
      have z2 : 2 ≤ z := by omega
      obtain ⟨_, _, t⟩ := tu_spec z2 (tu_ex z2 k)
      refine ⟨?_, pl_pl _ _⟩
      rw [pl_mul]
      have e1 : pl z (a * tu b z * b) = pl z (a * pl z (tu b z * b)) := by rw [pl_mul', Int.mul_assoc]
      rw [e1, pl_pos (n := tu b z * b) (by omega), t, Int.mul_one, ha]
    · rw [if_neg k] at h; cases h
/-- what divided tells -/
noncomputable def dvT (z : Int) (fo d : List Int) : Option (List Int × List Int) := dvN z (ov z) d (fo.length + 1) (List.replicate (fo.length + 1 - d.length) 0) fo
noncomputable def dvR (C : Addr) (z : Int) (fo d : List Int) : Rs := if d = [] then .err C else match dvT z fo d with
  | none => .err C
  | some p => .val (.tup [.ints p.1, .ints p.2])
noncomputable def F_dv (C : Addr) : List PV → Rs := fun as => match as with
  | [.ob 0 z, .ints f, .ints g] => dvR C z (Tz z f) (Tz z g)
  | _ => .err C
noncomputable def preD : List PV → Prop := fun as => ∃ z f g, as = [.ob 0 z, .ints f, .ints g] ∧ (z = 0 ∨ 2 ≤ z) ∧ z < ((2 ^ 9000 : Nat) : Int) ∧ f.length ≤ 200 ∧ g.length ≤ 200 ∧ (z = 0 → (∀ m ∈ f, m.natAbs ≤ 2 ^ 600) ∧ ∀ m ∈ g, m.natAbs ≤ 2 ^ 200)
theorem getD_b {xs : List Int} {B : Nat} (h : ∀ m ∈ xs, m.natAbs ≤ B) (n : Nat) : (xs.getD n 0).natAbs ≤ B := by
  by_cases c : n < xs.length
  · exact h _ (FM.getD_mem c)
  · rw [getD_ge (by omega)]; exact Nat.zero_le _
/-- the numbers stay short enough -/
theorem next_b {d r : List Int} {c : Int} {B L : Nat} (hl : d.length ≤ r.length) (hd : ∀ n, (d.getD n 0).natAbs ≤ 2 ^ 200) (hc : c.natAbs ≤ 2 ^ (600 + 202 * (L - r.length))) (hr : ∀ n, (r.getD n 0).natAbs ≤ 2 ^ (600 + 202 * (L - r.length))) (hn : (nextR 0 d r c).length < r.length) (hL : r.length ≤ L) (n : Nat) : ((nextR 0 d r c).getD n 0).natAbs ≤ 2 ^ (600 + 202 * (L - (nextR 0 d r c).length)) := by
  have up : (2 : Nat) ^ (600 + 202 * (L - r.length)) * 2 ^ 202 ≤ 2 ^ (600 + 202 * (L - (nextR 0 d r c).length)) := by
    rw [← Nat.pow_add]
    exact Nat.pow_le_pow_right (by decide) (by omega)
  refine Nat.le_trans ?_ up
  rw [nextR_get hl]
  have h1 := hr n
  split
  · show (r.getD n 0 - c * d.getD (n - (r.length - d.length)) 0).natAbs ≤ _
    have h2 : (c * d.getD (n - (r.length - d.length)) 0).natAbs ≤ 2 ^ (600 + 202 * (L - r.length)) * 2 ^ 200 := by
      rw [Int.natAbs_mul]
      exact Nat.mul_le_mul hc (hd _)
    have h3 := Int.natAbs_sub_le (r.getD n 0) (c * d.getD (n - (r.length - d.length)) 0)
    have e202 : (2 : Nat) ^ 202 = 4 * 2 ^ 200 := by decide +kernel
    have e200 : 1 ≤ (2 : Nat) ^ 200 := Nat.one_le_two_pow
    generalize (2 : Nat) ^ (600 + 202 * (L - r.length)) = B at *
    rw [e202]
    generalize (2 : Nat) ^ 200 = D at *
    have h4 : B * 1 ≤ B * D := Nat.mul_le_mul_left _ e200
    have h5 : B * (4 * D) = 4 * (B * D) := by rw [Nat.mul_left_comm]
    rw [h5]
    generalize B * D = BD at *
    omega
  · exact Nat.le_trans h1 (Nat.le_mul_of_pos_right _ (Nat.pow_pos (by decide)))
theorem fdiv_b {a b : Int} (hb : ¬ (b = 0 ∨ ¬ a.fmod b = 0)) : (a.fdiv b).natAbs ≤ a.natAbs := by
  have b0 : b ≠ 0 := fun z => hb (.inl z)
  have f0 : a.fmod b = 0 := Classical.byContradiction fun z => hb (.inr z)
  have := Int.fmod_add_mul_fdiv a b
  rw [f0, Int.zero_add] at this
  have e : a.natAbs = b.natAbs * (a.fdiv b).natAbs := by rw [← Int.natAbs_mul, this]
  rw [e]
  exact Nat.le_mul_of_pos_left _ (Int.natAbs_pos.mpr b0)
theorem ov_b {z a b c : Int} (h : ov z a b = some c) (hz : z = 0 ∨ 2 ≤ z) : (z = 0 → c.natAbs ≤ a.natAbs) ∧ (2 ≤ z → 0 ≤ c ∧ c < z) := by
  unfold ov at h
  by_cases e : z = 0
  · subst e
    rw [if_pos rfl] at h
    by_cases k : b = 0 ∨ ¬ a.fmod b = 0
    · rw [if_pos k] at h; cases h
    · rw [if_neg k] at h
      cases h
      exact ⟨fun _ => fdiv_b k, fun h => by omega⟩
  · rw [if_neg e] at h
    by_cases k : Int.gcd b z = 1
    · rw [if_pos k] at h
      cases h
      refine ⟨fun h => absurd h e, fun h2 => ?_⟩
      rw [pl_pos (by omega)]
      exact ⟨Int.emod_nonneg _ e, Int.emod_lt_of_pos _ (by omega)⟩
    · rw [if_neg k] at h; cases h
/-- the rest while the divisor is taken off: i places done -/
noncomputable def TakeAt (z : Int) (d r : List Int) (c : Int) (i : Nat) (row : List Int) : Prop := row.length = r.length ∧ ∀ n, row.getD n 0 = if r.length - d.length ≤ n ∧ n - (r.length - d.length) < i then pl z (r.getD n 0 - c * d.getD (n - (r.length - d.length)) 0) else r.getD n 0
theorem take_start (z : Int) (d r : List Int) (c : Int) : TakeAt z d r c 0 r := ⟨rfl, fun n => by rw [if_neg (by omega)]⟩
theorem take_step {z : Int} {d r row : List Int} {c : Int} {i : Nat} (h : TakeAt z d r c i row) (hl : d.length ≤ r.length) (hi : i < d.length) : TakeAt z d r c (i + 1) (row.set (r.length - d.length + i) (pl z (row.getD (r.length - d.length + i) 0 - c * d.getD i 0))) := by
  obtain ⟨h1, h2⟩ := h
  refine ⟨by rw [List.length_set]; exact h1, fun n => ?_⟩
  rw [set_get _ _ _ _ (by omega)]
  by_cases k : n = r.length - d.length + i
  · subst k
    rw [if_pos rfl, if_pos (by omega), h2, if_neg (by omega), show r.length - d.length + i - (r.length - d.length) = i by omega]
  · rw [if_neg k, h2]
    by_cases q : r.length - d.length ≤ n ∧ n - (r.length - d.length) < i
    · rw [if_pos q, if_pos (by omega)]
    · rw [if_neg q, if_neg (by omega)]
theorem take_end {z : Int} {d r row : List Int} {c : Int} (h : TakeAt z d r c d.length row) (hl : d.length ≤ r.length) : trimZ row = nextR z d r c := by
  unfold nextR
  refine trim_ext fun n => ?_
  rw [h.2 n]
  by_cases k : n < r.length
  · rw [getD_lt (xs := (List.range r.length).map _) (by rw [List.length_map, List.length_range]; exact k), List.getElem_map, List.getElem_range]
    by_cases q : r.length - d.length ≤ n
    · rw [if_pos ⟨q, by omega⟩, if_pos q]
    · rw [if_neg (by omega), if_neg q]
  · rw [getD_ge (xs := (List.range r.length).map _) (by rw [List.length_map, List.length_range]; omega), if_neg (by omega), getD_ge (by omega)]
theorem Tz_form (z : Int) (f : List Int) : InForm (Tz z f) := trim_form _
theorem Tz_red (z : Int) (f : List Int) (n : Nat) : pl z ((Tz z f).getD n 0) = (Tz z f).getD n 0 := by rw [Tz_get, pl_pl]
theorem Tz_red' {z : Int} {f : List Int} {m : Int} (h : m ∈ Tz z f) : pl z m = m := by
  obtain ⟨k, _, rfl⟩ := Tz_mem h
  exact pl_pl _ _
theorem last_ix (ns : List Int) (h : 0 < ns.length) : ns.getD (ixO ns.length (-1)) 0 = lastI ns := by
  have e : ixO ns.length (-1) = ns.length - 1 := by
    unfold ixO
    rw [if_neg (by omega)]
    omega
  rw [e]
  rfl
theorem red_b {z m : Int} (hz : 2 ≤ z) (h9 : z < ((2 ^ 9000 : Nat) : Int)) (h : pl z m = m) : m.natAbs < 2 ^ 9000 := by
  rw [pl_pos (by omega)] at h
  have h1 := Int.emod_nonneg m (show z ≠ 0 by omega)
  have h2 := Int.emod_lt_of_pos m (show 0 < z by omega)
  generalize (2 : Nat) ^ 9000 = N at *
  omega
theorem dv_more {z : Int} {d q r : List Int} {n : Nat} (hl : d.length ≤ r.length) : dvN z (ov z) d (n + 1) q r = match ov z (lastI r) (lastI d) with
    | none => none
    | some c => dvN z (ov z) d n (q.set (r.length - d.length) c) (nextR z d r c) := by
  show (if r.length < d.length then some (q, r) else _) = _
  rw [if_neg (by omega)]
  all_goals (cases ov z (lastI r) (lastI d) <;> rfl)
theorem dv_done {z : Int} {d q r : List Int} {n : Nat} (hl : r.length < d.length) : dvN z (ov z) d (n + 1) q r = some (q, r) := by
  show (if r.length < d.length then some (q, r) else _) = _
  rw [if_pos hl]

theorem kx_divided (T : Top K mg cFE cNO cK cW cR cP) : OkE P w K mg base 3 "divided" ["kind", "f", "g"] (spEN K (Gq cW cR cP) preD (F_dv cNO)) := by
  refine okEN T.d_divided sc_divided (fun as ⟨a, b, c, h, _⟩ => by rw [h]; rfl) (fun f cdv A outer s H E hr => ⟨_, (xss_cons (xst_own (i := 3) sc_divided.nd rfl (Or.inl rfl) (xcl (kx_trimmed T) hr (xa_cons (xv 0) (xa_cons (xl 1) xa_nil))))
 (xss_cons (xst_setL (i := 4) sc_divided.nd rfl (Or.inl rfl) (newL (xcl (kx_trimmed T) hr (xa_cons (xv 0) (xa_cons (xl 2) xa_nil)))))
 (xss_cons (xst_if (xt_not (xt_list 4))
 (xss_one (xst_raise newE rfl T.x_NoOver (by rfl) T.m_NoOver (xa_cons xs_str xa_nil)))
 xss_nil)
 (xss_cons (xst_own (i := 5) sc_divided.nd rfl (Or.inl rfl) (xl_rep (xl_lst (xa_cons xn_int xa_nil)) (xn_add (xn_sub (xn_len 3 T.b_len) (xn_len 4 T.b_len)) xn_int) (fun _ => rfl)))
 (xss_cons (xst_while PassesOwn.leaving (xt_ge (xn_len 3 T.b_len) (xn_len 4 T.b_len))
 (xss_cons (xst_setI (i := 6) sc_divided.nd rfl (Or.inl rfl) (xn_sub (xn_len 3 T.b_len) (xn_len 4 T.b_len)))
 (xss_cons (xst_setR (i := 7) (xR_meth 0 (kme_over T) hr (xa_cons (xn_item 3 (xn_neg xn_int) (fun _ _ => rfl)) (xa_cons (xn_item 4 (xn_neg xn_int) (fun _ _ => rfl)) xa_nil))) passE sc_divided.nd rfl (Or.inl rfl))
 (xss_cons (xst_setit 5 (xn 6) (xn 7))
 (xss_cons (xst_forE (k := 8) (j := 9) PassesOwn.leaving rfl (by rfl) T.b_enumerate (xl 4) (pg_tup rfl (pgs_cons (pg_name (i := 8) sc_divided.nd rfl (Or.inl rfl)) (pgs_cons (pg_name (i := 9) sc_divided.nd rfl (Or.inl rfl)) pgs_nil)))
 (xss_one (xst_setit 3 (xn_add (xn 6) (xn 8)) (xn_kmeth 0 (km_plain T) hr (xa_cons (xn_sub (xn_item 3 (xn_add (xn 6) (xn 8)) (fun _ _ => rfl)) (xn_mul (xn 7) (xn 9))) xa_nil)))))
 (xss_one (xst_mut 3 (kx_cut_noughts T) hr)))))))
 (xss_one (xst_retn (n_tup (na_cons (nO 5) (na_cons (nO 3) na_nil)))))))))), fun as hp => ?_⟩)
  obtain ⟨z, f, g, rfl, hz, h9, hfl, hgl, h0⟩ := hp
  show _
  have goal : F_dv cNO [.ob 0 z, .ints f, .ints g] = dvR cNO z (Tz z f) (Tz z g) := rfl
  refine ⟨⟨⟨rfl, rfl, True.intro⟩, z, f, rfl, by omega⟩, fun fo efo => ?_⟩
  have efo : fo = Tz z f := efo
  refine ⟨⟨⟨rfl, rfl, True.intro⟩, z, g, rfl, by omega⟩, fun d ed => ?_⟩
  have ed : d = Tz z g := ed
  have lf : fo.length ≤ 200 := by rw [efo]; exact Nat.le_trans (Tz_len _ _) hfl
  have lg : d.length ≤ 200 := by rw [ed]; exact Nat.le_trans (Tz_len _ _) hgl
  have ff : InForm fo := by rw [efo]; exact Tz_form z f
  have fr : ∀ n, pl z (fo.getD n 0) = fo.getD n 0 := by rw [efo]; exact Tz_red z f
  have dr : ∀ m ∈ d, pl z m = m := by rw [ed]; exact fun m hm => Tz_red' hm
  have fb : z = 0 → ∀ n, (fo.getD n 0).natAbs ≤ 2 ^ 600 := fun e n => by
    refine getD_b (fun m hm => ?_) n
    rw [efo] at hm
    obtain ⟨k, hk, rfl⟩ := Tz_mem hm
    subst e
    exact (h0 rfl).1 k hk
  have db : z = 0 → ∀ n, (d.getD n 0).natAbs ≤ 2 ^ 200 := fun e n => by
    refine getD_b (fun m hm => ?_) n
    rw [ed] at hm
    obtain ⟨k, hk, rfl⟩ := Tz_mem hm
    subst e
    exact (h0 rfl).2 k hk
  have d9 : ∀ n, (d.getD n 0).natAbs < 2 ^ 9000 := fun n => by
    rcases hz with e | e
    · exact Nat.lt_of_le_of_lt (db e n) (Nat.pow_lt_pow_right (by decide) (by decide))
    · refine red_b e h9 ?_
      by_cases c : n < d.length
      · exact dr _ (FM.getD_mem c)
      · rw [getD_ge (by omega), pl_0]
  rw [← efo, ← ed] at goal
  rw [goal]
  clear goal h0
  refine to_lit (ρ' := [.fr (.ob 0 z), .fr (.ints f), .fr (.ints g), .ow (.ints fo), .fr (.ints d), .un, .un, .un, .un, .un]) rfl ?_
  refine ⟨.inl rfl, fun q => ?_, fun q => ?_⟩
  · have q : ¬ ¬ d = [] := q
    refine ⟨⟨True.intro, True.intro⟩, ?_⟩
    show dvR cNO z fo d = .err cNO
    exact if_pos (Classical.not_not.mp q)
  have q : ¬ ¬ ¬ d = [] := q
  have dne : ¬ d = [] := Classical.not_not.mp q
  have hd := List.length_pos_iff.mpr dne
  have goal : dvR cNO z fo d = match dvT z fo d with
      | none => .err cNO
      | some p => .val (.tup [.ints p.1, .ints p.2]) := if_neg dne
  rw [goal]
  clear goal
  refine ⟨⟨⟨⟨True.intro, True.intro⟩, True.intro⟩, ⟨⟨.inr (.inl rfl), .inl rfl⟩, True.intro⟩, ?_, ?_⟩, fun q0 eq0 => ?_⟩
  · show -(2 : Int) ^ 63 ≤ (fo.length : Int) - (d.length : Int) + 1
    omega
  · show ((fo.length : Int) - (d.length : Int) + 1).toNat ≤ 1000
    omega
  have eq0 : q0 = List.replicate ((fo.length : Int) - (d.length : Int) + 1).toNat 0 := eq0
  have en : ((fo.length : Int) - (d.length : Int) + 1).toNat = fo.length + 1 - d.length := by omega
  rw [en] at eq0
  refine ⟨fun ρ => ∃ q r v6 v7 v8 v9 fuel, ρ = [.fr (.ob 0 z), .fr (.ints f), .fr (.ints g), .ow (.ints r), .fr (.ints d), .ow (.ints q), v6, v7, v8, v9] ∧ DInv z fo d q r ∧ r.length < fuel ∧ dvN z (ov z) d fuel q r = dvT z fo d ∧ (z = 0 → ∀ n, (r.getD n 0).natAbs ≤ 2 ^ (600 + 202 * (fo.length - r.length))), fun ρ => (getL ρ 3).length, ⟨q0, fo, .un, .un, .un, .un, fo.length + 1, rfl, by rw [eq0]; exact DInv.start ff fr, Nat.lt_succ_self _, by rw [eq0]; rfl, fun e n => by rw [Nat.sub_self]; exact fb e n⟩, ?_⟩
  rintro ρ ⟨q, r, v6, v7, v8, v9, fuel, rfl, I, hfu, hdv, hb⟩
  refine ⟨⟨.inr (.inl rfl), .inl rfl⟩, fun k => ?_, fun k => ?_⟩
  · have k : (d.length : Int) ≤ (r.length : Int) := k
    have hl : d.length ≤ r.length := by omega
    have rl := I.rl
    obtain ⟨fuel, rfl⟩ : ∃ n, fuel = n + 1 := ⟨fuel - 1, by omega⟩
    rw [dv_more hl] at hdv
    refine ⟨⟨.inr (.inl rfl), .inl rfl⟩, fun gap egap => ?_⟩
    have egap : gap = (r.length : Int) - (d.length : Int) := egap
    have egap : gap = ((r.length - d.length : Nat) : Int) := by omega
    subst egap
    have lr : r.getD (ixO r.length (-1)) 0 = lastI r := last_ix r (by omega)
    have ld : d.getD (ixO d.length (-1)) 0 = lastI d := last_ix d hd
    have pre : preO z [lastI r, lastI d] := by
      refine ⟨d9 _, ?_⟩
      rcases hz with e | e
      · exact .inl e
      · refine .inr ⟨e, ?_, red_b e h9 (I.rr _)⟩
        generalize (2 : Nat) ^ 9000 = N at *
        omega
    refine ⟨⟨rfl, ⟨⟨.inr (.inl rfl), True.intro, by show -(r.length : Int) ≤ -1; omega, by show (-1 : Int) < (r.length : Int); omega⟩, ⟨.inl rfl, True.intro, by show -(d.length : Int) ≤ -1; omega, by show (-1 : Int) < (d.length : Int); omega⟩, True.intro⟩, True.intro, ?_⟩, fun p hp => ?_, fun c hc => ?_⟩
    · show preO z [r.getD (ixO r.length (-1)) 0, d.getD (ixO d.length (-1)) 0]
      rw [lr, ld]
      exact pre
    · have hp : toRs (F_O cNO z [r.getD (ixO r.length (-1)) 0, d.getD (ixO d.length (-1)) 0]) = .val p := hp
      rw [lr, ld] at hp
      cases o : ov z (lastI r) (lastI d) with
      | none => rw [ov_none o] at hp; cases hp
      | some c =>
        rw [ov_some o] at hp
        cases hp
        rw [o] at hdv
        obtain ⟨h1, h2⟩ := hov hz _ _ _ (I.rr _) o
        obtain ⟨J, hlt⟩ := I.step hd hl h1 h2
        obtain ⟨b0, b2⟩ := ov_b o hz
        have cb0 : z = 0 → c.natAbs ≤ 2 ^ (600 + 202 * (fo.length - r.length)) := fun e => Nat.le_trans (b0 e) (hb e _)
        have cb : c.natAbs < 2 ^ 50000 := by
          rcases hz with e | e
          · exact Nat.lt_of_le_of_lt (cb0 e) (Nat.pow_lt_pow_right (by decide) (by omega))
          · refine Nat.lt_of_lt_of_le ?_ (Nat.pow_le_pow_right (by decide) (show 9000 ≤ 50000 by decide))
            have := b2 e
            generalize (2 : Nat) ^ 9000 = N at *
            omega
        have ql := I.ql
        refine to_lit (ρ' := [.fr (.ob 0 z), .fr (.ints f), .fr (.ints g), .ow (.ints r), .fr (.ints d), .ow (.ints q), .fr (.int ((r.length - d.length : Nat) : Int)), .fr (.int c), v8, v9]) rfl ?_
        have ix5 : ixO q.length ((r.length - d.length : Nat) : Int) = r.length - d.length := by unfold ixO; rw [if_pos (by omega)]; omega
        refine ⟨rfl, rfl, rfl, ⟨by show -(q.length : Int) ≤ ((r.length - d.length : Nat) : Int); omega, by show ((r.length - d.length : Nat) : Int) < (q.length : Int); omega⟩, ?_⟩
        refine to_lit (ρ' := [.fr (.ob 0 z), .fr (.ints f), .fr (.ints g), .ow (.ints r), .fr (.ints d), .ow (.ints (q.set (r.length - d.length) c)), .fr (.int ((r.length - d.length : Nat) : Int)), .fr (.int c), v8, v9]) (by rw [← ix5]; rfl) ?_
        refine ⟨rfl, fun i ρ => ∃ row v8 v9, ρ = [.fr (.ob 0 z), .fr (.ints f), .fr (.ints g), .ow (.ints row), .fr (.ints d), .ow (.ints (q.set (r.length - d.length) c)), .fr (.int ((r.length - d.length : Nat) : Int)), .fr (.int c), v8, v9] ∧ TakeAt z d r c i row, ⟨r, v8, v9, rfl, take_start z d r c⟩, ?_, ?_⟩
        · rintro i n ρ hn ⟨row, v8, v9, rfl, ht⟩
          have hn : d[i]? = some n := hn
          have hi := (List.getElem?_eq_some_iff.mp hn).1
          have en : d.getD i 0 = n := getD_at' hn
          have l1 : -(row.length : Int) ≤ ((r.length - d.length : Nat) : Int) + (i : Int) := by omega
          have l2 : ((r.length - d.length : Nat) : Int) + (i : Int) < (row.length : Int) := by rw [ht.1]; omega
          have ix : ixO row.length (((r.length - d.length : Nat) : Int) + (i : Int)) = r.length - d.length + i := by unfold ixO; rw [if_pos (by omega)]; omega
          have nb : n.natAbs < 2 ^ 9000 := by rw [← en]; exact d9 i
          refine ⟨⟨rfl, ⟨⟨⟨.inr (.inl rfl), ⟨rfl, rfl⟩, l1, l2⟩, rfl, rfl, mul_ok (n := 50000) (m := 9000) cb nb⟩, True.intro⟩, True.intro, True.intro⟩, rfl, ⟨rfl, rfl⟩, ⟨l1, l2⟩, row.set (r.length - d.length + i) (pl z (row.getD (r.length - d.length + i) 0 - c * n)), .fr (.int i), .fr (.int n), ?_, ?_⟩
          · rw [← ix]; rfl
          · have := take_step ht hl hi
            rw [en] at this
            exact this
        · rintro ρ ⟨row, v8, v9, rfl, ht⟩
          have ht : TakeAt z d r c d.length row := ht
          have et := take_end ht hl
          refine ⟨rfl, True.intro, ⟨q.set (r.length - d.length) c, nextR z d r c, .fr (.int ((r.length - d.length : Nat) : Int)), .fr (.int c), v8, v9, fuel, ?_, J, by omega, hdv, fun e => ?_⟩, ?_⟩
          · rw [← et]; rfl
          · subst e
            exact next_b (B := 0) hl (db rfl) (cb0 rfl) (hb rfl) hlt rl
          · show (trimZ row).length < r.length
            rw [et]
            exact hlt
    · have hc : toRs (F_O cNO z [r.getD (ixO r.length (-1)) 0, d.getD (ixO d.length (-1)) 0]) = .err c := hc
      rw [lr, ld] at hc
      cases o : ov z (lastI r) (lastI d) with
      | none =>
        rw [ov_none o] at hc
        cases hc
        rw [o] at hdv
        show (match dvT z fo d with
          | none => Rs.err cNO
          | some p => .val (.tup [.ints p.1, .ints p.2])) = .err cNO
        rw [← hdv]
      | some x => rw [ov_some o] at hc; cases hc
  · have k : ¬ (d.length : Int) ≤ (r.length : Int) := k
    obtain ⟨fuel, rfl⟩ : ∃ n, fuel = n + 1 := ⟨fuel - 1, by omega⟩
    rw [dv_done (by omega)] at hdv
    refine ⟨⟨rfl, rfl, True.intro⟩, ?_⟩
    show (match dvT z fo d with
      | none => Rs.err cNO
      | some p => .val (.tup [.ints p.1, .ints p.2])) = .val (.tup [.ints q, .ints r])
    rw [← hdv]

theorem kx_times (T : Top K mg cFE cNO cK cW cR cP) : Ok P w K mg base 3 "_law_times" ["_law_f", "_law_g", "_law_size_here"] (spL K (Gq cW cR cP) (fun as => ∃ f g z, as = [.ints f, .ints g, .int z] ∧ 0 ≤ z ∧ f.length + g.length ≤ 1000 ∧ (∀ m ∈ f, m.natAbs < 2 ^ 9000) ∧ (∀ m ∈ g, m.natAbs < 2 ^ 9000)) fun as => match as with
    | [.ints f, .ints g, .int z] => Tz z (convL f g)
    | _ => []) := by
  refine okL T.d_times sc_times (fun as ⟨a, b, c, h, _⟩ => by rw [h]; rfl) (fun f cdv A outer s H E hr => ⟨_, (xss_cons (xst_own (i := 3) sc_times.nd rfl (Or.inl rfl) (xl_rep (xl_lst (xa_cons xn_int xa_nil)) (xn_add (xn_len 0 T.b_len) (xn_len 1 T.b_len)) (fun _ => rfl)))
 (xss_cons (xst_forR (k := 4) PassesOwn.never rfl (by rfl) T.b_range (xn_len 0 T.b_len) sc_times.nd rfl (Or.inl rfl)
 (xss_one (xst_forR (k := 5) PassesOwn.never rfl (by rfl) T.b_range (xn_len 1 T.b_len) sc_times.nd rfl (Or.inl rfl)
 (xss_one (xst_setit 3 (xn_add (xn 4) (xn 5)) (xn_add (xn_item 3 (xn_add (xn 4) (xn 5)) (fun _ _ => rfl)) (xn_mul (xn_item 0 (xn 4) (fun _ _ => rfl)) (xn_item 1 (xn 5) (fun _ _ => rfl)))))))))
 (xss_freeze 3 (xss_one (xst_retl (xcl (kx_trim T) hr (xa_cons (xl 3) (xa_cons (xn 2) xa_nil)))))))), fun as hp => ?_⟩)
  obtain ⟨f, g, z, rfl, hz, hl, hf, hg⟩ := hp
  have en : ((f.length : Int) + (g.length : Int)).toNat = f.length + g.length := by omega
  refine ⟨⟨⟨⟨True.intro, True.intro⟩, True.intro⟩, ⟨.inl rfl, .inl rfl⟩, ?_, ?_⟩, fun r0 er0 => ?_⟩
  · show -(2 : Int) ^ 63 ≤ (f.length : Int) + (g.length : Int)
    omega
  · show ((f.length : Int) + (g.length : Int)).toNat ≤ 1000
    omega
  have er0 : r0 = List.replicate (f.length + g.length) 0 := by rw [← en]; exact er0
  refine ⟨.inl rfl, ⟨by show -(2 : Int) ^ 62 ≤ (f.length : Int); omega, by show (f.length : Int) < 2 ^ 62; omega⟩, fun i ρ => ∃ row v1 v2, ρ = [.fr (.ints f), .fr (.ints g), .fr (.int z), .ow (.ints row), v1, v2] ∧ RowAt f g i 0 row, ⟨r0, .un, .un, rfl, by rw [er0]; exact row_start f g⟩, ?_, ?_⟩
  · rintro i ρ hi ⟨row, v1, v2, rfl, hr⟩
    have hi : i < f.length := by have hi : i < (f.length : Int).toNat := hi; omega
    refine ⟨.inl rfl, ⟨by show -(2 : Int) ^ 62 ≤ (g.length : Int); omega, by show (g.length : Int) < 2 ^ 62; omega⟩, fun j ρ => ∃ row v2, ρ = [.fr (.ints f), .fr (.ints g), .fr (.int z), .ow (.ints row), .fr (.int i), v2] ∧ RowAt f g i j row, ⟨row, v2, rfl, hr⟩, ?_, ?_⟩
    · rintro j ρ hj ⟨row, v2, rfl, hr⟩
      have hj : j < g.length := by have hj : j < (g.length : Int).toNat := hj; omega
      have l1 : -(row.length : Int) ≤ (i : Int) + (j : Int) := by omega
      have l2 : (i : Int) + (j : Int) < (row.length : Int) := by have := hr.1; omega
      have ix : ixO row.length ((i : Int) + (j : Int)) = i + j := by unfold ixO; rw [if_pos (by omega)]; omega
      have xi : ixO f.length (i : Int) = i := by unfold ixO; rw [if_pos (by omega)]; omega
      have xj : ixO g.length (j : Int) = j := by unfold ixO; rw [if_pos (by omega)]; omega
      have mi : f.getD i 0 ∈ f := FM.getD_mem hi
      have mj : g.getD j 0 ∈ g := FM.getD_mem hj
      refine ⟨⟨⟨.inr (.inl rfl), ⟨rfl, rfl⟩, l1, l2⟩, ⟨.inl rfl, rfl, by show -(f.length : Int) ≤ (i : Int); omega, by show (i : Int) < (f.length : Int); omega⟩, ⟨.inl rfl, rfl, by show -(g.length : Int) ≤ (j : Int); omega, by show (j : Int) < (g.length : Int); omega⟩, ?_⟩, rfl, ⟨rfl, rfl⟩, ⟨l1, l2⟩, row.set (i + j) (row.getD (i + j) 0 + f.getD i 0 * g.getD j 0), .fr (.int j), ?_, row_step hr hi hj⟩
      · show IntMulOk (f.getD (ixO f.length (i : Int)) 0) (g.getD (ixO g.length (j : Int)) 0)
        rw [xi, xj]
        exact mul_ok (n := 9000) (m := 9000) (hf _ mi) (hg _ mj)
      · show [Sl.fr (.ints f), .fr (.ints g), .fr (.int z), .ow (.ints (row.set (ixO row.length ((i : Int) + (j : Int))) (row.getD (ixO row.length ((i : Int) + (j : Int))) 0 + f.getD (ixO f.length (i : Int)) 0 * g.getD (ixO g.length (j : Int)) 0))), .fr (.int i), .fr (.int j)] = _
        rw [ix, xi, xj]
    · rintro ρ ⟨row, v2, rfl, hr⟩
      have e : (g.length : Int).toNat = g.length := by omega
      have hr : RowAt f g i (g.length : Int).toNat row := hr
      rw [e] at hr
      exact ⟨row, _, v2, rfl, row_next hr⟩
  · rintro ρ ⟨row, v1, v2, rfl, hr⟩
    have e : (f.length : Int).toNat = f.length := by omega
    have hr : RowAt f g (f.length : Int).toNat 0 row := hr
    rw [e] at hr
    have er := row_end hr
    refine ⟨⟨⟨rfl, rfl, True.intro⟩, row, z, rfl, hz, ?_⟩, ?_⟩
    · rw [hr.1]; omega
    · show trimZ (row.map (pl z)) = _
      rw [er]
      rfl

/-! ### sums -/
noncomputable def addL (f g : List Int) : List Int := (List.range (max f.length g.length)).map fun n => f.getD n 0 + g.getD n 0
theorem addL_get (f g : List Int) (n : Nat) : (addL f g).getD n 0 = f.getD n 0 + g.getD n 0 := by
  unfold addL
  by_cases h : n < max f.length g.length
  · rw [getD_lt (by rw [List.length_map, List.length_range]; exact h), List.getElem_map, List.getElem_range]
  · rw [getD_ge (by rw [List.length_map, List.length_range]; omega), getD_ge (by omega), getD_ge (by omega)]
    rfl
theorem app_zero (f : List Int) (k n : Nat) : (f ++ List.replicate k 0).getD n 0 = f.getD n 0 := by
  by_cases h : n < f.length
  · rw [getD_lt (by rw [List.length_append]; omega), List.getElem_append_left h, getD_lt h]
  · rw [getD_ge (xs := f) (by omega)]
    by_cases h2 : n < f.length + k
    · rw [getD_lt (by rw [List.length_append, List.length_replicate]; exact h2), List.getElem_append_right (by omega), List.getElem_replicate]
    · rw [getD_ge (by rw [List.length_append, List.length_replicate]; omega)]

theorem kx_sum (T : Top K mg cFE cNO cK cW cR cP) : Ok P w K mg base 3 "_law_sum" ["_law_f", "_law_g", "_law_size_here"] (spL K (Gq cW cR cP) (fun as => ∃ f g z, as = [.ints f, .ints g, .int z] ∧ 0 ≤ z ∧ f.length ≤ 400 ∧ g.length ≤ 400) fun as => match as with
    | [.ints f, .ints g, .int z] => Tz z (addL f g)
    | _ => []) := by
  refine okL T.d_sum sc_sum (fun as ⟨a, b, c, h, _⟩ => by rw [h]; rfl) (fun f cdv A outer s H E hr => ⟨_, (xss_cons (xst_setI (i := 3) sc_sum.nd rfl (Or.inl rfl) (xn_max rfl T.b_max (xn_len 0 T.b_len) (xn_len 1 T.b_len)))
 (xss_cons (xst_setL (i := 4) sc_sum.nd rfl (Or.inr rfl) (newL (xl_cat (xl 0) (newL (xl_rep (xl_lst (xa_cons xn_int xa_nil)) (xn_sub (xn 3) (xn_len 0 T.b_len)) (fun _ => rfl))))))
 (xss_cons (xst_setL (i := 5) sc_sum.nd rfl (Or.inr rfl) (newL (xl_cat (xl 1) (newL (xl_rep (xl_lst (xa_cons xn_int xa_nil)) (xn_sub (xn 3) (xn_len 1 T.b_len)) (fun _ => rfl))))))
 (xss_one (xst_retl (xcl (kx_trim T) hr (xa_cons (newL (xl_lcR (N' := ["_law_k", "_law_fs", "_law_gs"]) (cap := [some 4, some 5]) (lc_ok rfl rfl rfl rfl ⟨⟨rfl, Or.inr (Or.inl rfl), (fun z => nomatch (show (some NameKind.cell : Option NameKind) = some NameKind.local from z)), Or.inl rfl, _, rfl, rfl⟩, ⟨⟨rfl, Or.inr (Or.inl rfl), (fun z => nomatch (show (some NameKind.cell : Option NameKind) = some NameKind.local from z)), Or.inl rfl, _, rfl, rfl⟩, True.intro⟩⟩ ⟨rfl, ⟨rfl, True.intro⟩⟩ rfl) rfl (by rfl) T.b_range (xn 3) (fun _ _ _ => (pg_name (i := 0) (show (["_law_k", "_law_fs", "_law_gs"] : List Str).Nodup by decide +kernel) rfl (Or.inl rfl) (.inr rfl))) (fun _ _ _ => (xn_add (xn_item 1 (xn 0) (fun _ _ => rfl)) (xn_item 2 (xn 0) (fun _ _ => rfl)))))) (xa_cons (xn 2) xa_nil)))))))), fun as hp => ?_⟩)
  obtain ⟨f, g, z, rfl, hz, hf, hg⟩ := hp
  refine ⟨⟨.inl rfl, .inl rfl⟩, fun m em => ?_⟩
  have em : m = if (g.length : Int) > (f.length : Int) then (g.length : Int) else (f.length : Int) := em
  have em : m = ((max f.length g.length : Nat) : Int) := by
    rw [em]
    split <;> omega
  subst em
  have e1 : (((max f.length g.length : Nat) : Int) - (f.length : Int)).toNat = max f.length g.length - f.length := by omega
  have e2 : (((max f.length g.length : Nat) : Int) - (g.length : Int)).toNat = max f.length g.length - g.length := by omega
  refine ⟨⟨rfl, ⟨⟨⟨True.intro, True.intro⟩, True.intro⟩, ⟨rfl, .inl rfl⟩, ?_, ?_⟩, ?_⟩, fun fs efs => ?_⟩
  · show -(2 : Int) ^ 63 ≤ ((max f.length g.length : Nat) : Int) - (f.length : Int)
    omega
  · show (((max f.length g.length : Nat) : Int) - (f.length : Int)).toNat ≤ 1000
    omega
  · show f.length + (List.replicate (((max f.length g.length : Nat) : Int) - (f.length : Int)).toNat (0 : Int)).length ≤ sizeLine
    rw [List.length_replicate]
    exact Nat.le_of_lt (small1000 (by omega))
  have efs : fs = f ++ List.replicate (((max f.length g.length : Nat) : Int) - (f.length : Int)).toNat 0 := efs
  refine ⟨⟨rfl, ⟨⟨⟨True.intro, True.intro⟩, True.intro⟩, ⟨rfl, .inl rfl⟩, ?_, ?_⟩, ?_⟩, fun gs egs => ?_⟩
  · show -(2 : Int) ^ 63 ≤ ((max f.length g.length : Nat) : Int) - (g.length : Int)
    omega
  · show (((max f.length g.length : Nat) : Int) - (g.length : Int)).toNat ≤ 1000
    omega
  · show g.length + (List.replicate (((max f.length g.length : Nat) : Int) - (g.length : Int)).toNat (0 : Int)).length ≤ sizeLine
    rw [List.length_replicate]
    exact Nat.le_of_lt (small1000 (by omega))
  have egs : gs = g ++ List.replicate (((max f.length g.length : Nat) : Int) - (g.length : Int)).toNat 0 := egs
  have lfs : fs.length = max f.length g.length := by rw [efs, List.length_append, List.length_replicate]; omega
  have lgs : gs.length = max f.length g.length := by rw [egs, List.length_append, List.length_replicate]; omega
  refine to_lit (ρ' := [.fr (.ints f), .fr (.ints g), .fr (.int z), .fr (.int ((max f.length g.length : Nat) : Int)), .fr (.ints fs), .fr (.ints gs)]) rfl ?_
  have ix : ∀ (xs : List Int) (k : Nat), ixO xs.length (k : Int) = k := fun xs k => by unfold ixO; rw [if_pos (by omega)]; omega
  refine ⟨⟨⟨⟨rfl, ⟨by show (0 : Int) ≤ ((max f.length g.length : Nat) : Int); omega, by show ((max f.length g.length : Nat) : Int) ≤ 1000; omega⟩, fun k hk => ?_⟩, rfl, True.intro⟩, _, _, rfl, hz, ?_⟩, ?_⟩
  · have hk : k < max f.length g.length := by have hk : k < ((max f.length g.length : Nat) : Int).toNat := hk; omega
    exact ⟨⟨.inl rfl, rfl, by show -(fs.length : Int) ≤ (k : Int); omega, by show (k : Int) < (fs.length : Int); omega⟩, .inl rfl, rfl, by show -(gs.length : Int) ≤ (k : Int); omega, by show (k : Int) < (gs.length : Int); omega⟩
  · show ((List.range ((max f.length g.length : Nat) : Int).toNat).map fun (k : Nat) => fs.getD (ixO fs.length (k : Int)) 0 + gs.getD (ixO gs.length (k : Int)) 0).length ≤ 1000
    rw [List.length_map, List.length_range]
    omega
  · show Tz z ((List.range ((max f.length g.length : Nat) : Int).toNat).map fun (k : Nat) => fs.getD (ixO fs.length (k : Int)) 0 + gs.getD (ixO gs.length (k : Int)) 0) = Tz z (addL f g)
    congr 1
    unfold addL
    rw [Int.toNat_natCast]
    refine List.map_congr_left fun k hk => ?_
    rw [ix, ix, efs, egs, app_zero, app_zero]
theorem kx_refused (T : Top K mg cFE cNO cK cW cR cP) : Ok P w K mg base 4 "_law_refused" ["_law_kind_here", "_law_f", "_law_g"] (spFB K (Gq cW cR cP) (fun as => preD as ∧ F_dv cNO as = .err cNO) fun _ => true) := by
  refine okF T.d_refused sc_refused (fun as ⟨⟨z, f, g, h, _⟩, _⟩ => by rw [h]; rfl) (fun f cdv A outer s H E hr => ⟨_, (xss_cons (xst_setP (i := 3) sc_refused.nd rfl (Or.inl rfl) xv_non)
 (xss_cons (xst_tryR (i := 4) (j := 3) gkE_err rfl rfl rfl rfl (by rfl) T.m_NoOver sc_refused.nd rfl rfl rfl rfl rfl (by decide) (by decide) (fun _ _ => (xR_callN (kx_divided T) hr (xa_cons (xv 0) (xa_cons (newL (xl_list T.b_list (xl 1) (fun _ => .inl rfl))) (xa_cons (newL (xl_list T.b_list (xl 2) (fun _ => .inl rfl))) xa_nil))))))
 (xss_one (xst_ret (xe_and (xe_isx gkE_err T.b_isinstance (xv 3) (xv_glob (by rfl) T.m_ForgeError)) (pe_one (xe_isx gkE_err T.b_isinstance (xv 3) (xv_bltn (by rfl) T.b_ValueError bt_ValueError)))))))), fun as hp => ?_⟩)
  obtain ⟨hp, ef⟩ := hp
  obtain ⟨z, f, g, rfl, _⟩ := id hp
  have b1 : instPX K (.ob 1 ((cNO : Nat) : Int)) (.cls cFE) = true := instPX_err rfl T.i_no_fe
  have b2 : instPX K (.ob 1 ((cNO : Nat) : Int)) (.ty "ValueError") = true := instPX_err rfl T.i_no_ve
  refine ⟨True.intro, fun p ep => ?_⟩
  refine ⟨⟨⟨rfl, rfl, rfl, True.intro⟩, hp⟩, fun q eq => ?_, fun c ec => ?_⟩
  · have eq : F_dv cNO [.ob 0 z, .ints f, .ints g] = .val q := eq
    rw [ef] at eq
    cases eq
  have ec : F_dv cNO [.ob 0 z, .ints f, .ints g] = .err c := ec
  rw [ef] at ec
  cases ec
  refine ⟨T.y_no, ?_⟩
  refine ⟨⟨⟨rfl, True.intro, .inr ⟨cNO, _, _, rfl, T.k_NoOver, rfl, T.i_no_fe⟩⟩, fun _ => ⟨rfl, True.intro, .inr ⟨cNO, _, _, rfl, T.k_NoOver, rfl, T.i_no_ve⟩⟩⟩, ?_⟩
  show PV.bl (decide (instPX K (.ob 1 ((cNO : Nat) : Int)) (.cls cFE) = true ∧ instPX K (.ob 1 ((cNO : Nat) : Int)) (.ty "ValueError") = true)) = PV.bl true
  rw [b1, b2]
  rfl
theorem kx_pair (T : Top K mg cFE cNO cK cW cR cP) : Ok P w K mg base 3 "_law_pair" ["_law_found", "_law_quotient", "_law_rest"] (spFB K (Gq cW cR cP) (fun as => ∃ q r, as = [.tup [.ints q, .ints r], .ints q, .ints r] ∧ q.length ≤ 1000 ∧ r.length ≤ 1000) fun _ => true) := by
  refine okF T.d_pair sc_pair (fun as ⟨a, b, h, _⟩ => by rw [h]; rfl) (fun f cdv A outer s H E hr => ⟨_, (xss_cons (xst_if (L2.PW.pt (xw_or (xt_not (xt_V (xe_isinst T.b_isinstance (xv 0) (xv_bltn (by rfl) T.b_tuple bt_tuple)))) (xw_or1 (xt_ne (xn_lenP T.b_len (xv 0)) xn_int))))
 (xss_one (xst_ret xb_bl))
 xss_nil)
 (xss_one (xst_ret (xe_and (xcb (kx_alike T) hr (xa_cons (xl_of (xp_item (xv 0) xn_int (fun _ _ => rfl))) (xa_cons (xl 1) xa_nil))) (pe_one (xcb (kx_alike T) hr (xa_cons (xl_of (xp_item (xv 0) xn_int (fun _ _ => rfl))) (xa_cons (xl 2) xa_nil)))))))), fun as hp => ?_⟩)
  obtain ⟨q, r, rfl, hq, hr'⟩ := hp
  have h1 : instP K (.tup [.ints q, .ints r]) (.ty "tuple") = true := instP_of rfl rfl T.i_tuple_tuple
  refine ⟨⟨⟨rfl, True.intro, _, _, _, rfl, rfl, T.i_tuple_tuple⟩, fun _ => ⟨⟨rfl, True.intro⟩, True.intro⟩⟩, fun h => ?_, fun _ => ?_⟩
  · have h : ¬ instP K (.tup [.ints q, .ints r]) (.ty "tuple") = true ∨ ¬ (2 : Int) = 2 := h
    rw [h1] at h
    rcases h with h | h <;> exact absurd rfl h
  refine ⟨⟨⟨⟨⟨⟨rfl, True.intro, by show -(2 : Int) ≤ 0 ∧ (0 : Int) < 2; decide⟩, rfl⟩, rfl, True.intro⟩, q, q, rfl, hq⟩, fun _ => ⟨⟨⟨⟨rfl, True.intro, by show -(2 : Int) ≤ 1 ∧ (1 : Int) < 2; decide⟩, rfl⟩, rfl, True.intro⟩, r, r, rfl, hr'⟩⟩, ?_⟩
  show PV.bl (decide ((decide (q = q)) = true ∧ (decide (r = r)) = true)) = PV.bl true
  simp
theorem cutI_but (xs : List Int) : cutI xs none (some (-1)) = xs.dropLast := by
  unfold cutI
  have e : HT.sIx xs.length xs.length (some (-1)) = xs.length - 1 := by
    show (if (-1 : Int) < 0 then ((-1 : Int) + (xs.length : Int)).toNat else min (-1 : Int).toNat xs.length) = xs.length - 1
    rw [if_pos (by decide)]
    omega
  rw [e]
  show (xs.drop 0).take (xs.length - 1 - 0) = xs.dropLast
  rw [List.drop_zero, Nat.sub_zero, List.dropLast_eq_take]
/-- the lead made one that can be divided by -/
noncomputable def ledL (xs : List Int) (z p : Int) : List Int := if xs = [] then [1] else if (z = 0 ∧ lastI xs = 0) ∨ (0 < z ∧ lastI xs % p = 0) then xs.dropLast ++ [lastI xs + 1] else xs
theorem kx_led (T : Top K mg cFE cNO cK cW cR cP) : Ok P w K mg base 1 "_law_led" ["_law_row", "_law_size_here", "_law_prime_here"] (spFL K (Gq cW cR cP) (fun as => ∃ xs z p, as = [.ints xs, .int z, .int p] ∧ 0 < p ∧ xs.length ≤ 200) fun as => match as with
    | [.ints xs, .int z, .int p] => ledL xs z p
    | _ => []) := by
  refine okF T.d_led sc_led (fun as ⟨a, b, c, h, _⟩ => by rw [h]; rfl) (fun f cdv A outer s H E hr => ⟨_, (xss_cons (xst_if (xt_eq (xn_len 0 T.b_len) xn_int)
 (xss_one (xst_ret (newL (xl_lst (xa_cons xn_int xa_nil)))))
 xss_nil)
 (xss_cons (xst_if (L2.PW.pt (xw_or (L2.PW.pt (xw_and (xt_eq (xn 1) xn_int) (xw_and1 (xt_eq (xn_item 0 (xn_neg xn_int) (fun _ _ => rfl)) xn_int)))) (xw_or1 (L2.PW.pt (xw_and (xt_gt (xn 1) xn_int) (xw_and1 (xt_eq (xn_mod (xn_item 0 (xn_neg xn_int) (fun _ _ => rfl)) (xn 2)) xn_int)))))))
 (xss_one (xst_ret (newL (xl_cat (newL (xl_slice (xl 0) xo_none (xo_some (xn_neg xn_int)) (fun _ _ => .inl rfl))) (newL (xl_lst (xa_cons (xn_add (xn_item 0 (xn_neg xn_int) (fun _ _ => rfl)) xn_int) xa_nil)))))))
 xss_nil)
 (xss_one (xst_ret (xl 0))))), fun as hp => ?_⟩)
  obtain ⟨xs, z, p, rfl, hp, hl⟩ := hp
  refine ⟨⟨.inl rfl, True.intro⟩, fun q => ?_, fun q => ?_⟩
  · have q : (xs.length : Int) = 0 := q
    have e : xs = [] := List.length_eq_zero_iff.mp (by omega)
    refine ⟨⟨⟨True.intro, True.intro⟩, True.intro⟩, ?_⟩
    show PV.ints [1] = PV.ints (ledL xs z p)
    unfold ledL
    rw [if_pos e]
  have q : ¬ (xs.length : Int) = 0 := q
  have ne : ¬ xs = [] := fun e => q (by rw [e]; rfl)
  have lp := List.length_pos_iff.mpr ne
  have li := last_ix xs lp
  have c1 : -(xs.length : Int) ≤ -1 := by omega
  have c2 : (-1 : Int) < (xs.length : Int) := by omega
  refine ⟨⟨⟨⟨rfl, True.intro⟩, fun _ => ⟨⟨.inl rfl, True.intro, c1, c2⟩, True.intro⟩⟩, fun _ => ⟨⟨rfl, True.intro⟩, fun _ => ⟨⟨⟨.inl rfl, True.intro, c1, c2⟩, rfl, hp⟩, True.intro⟩⟩⟩, fun r => ?_, fun r => ?_⟩
  · have r : (z = 0 ∧ xs.getD (ixO xs.length (-1)) 0 = 0) ∨ (0 < z ∧ xs.getD (ixO xs.length (-1)) 0 % p = 0) := r
    rw [li] at r
    refine ⟨⟨⟨rfl, True.intro, True.intro⟩, ⟨⟨⟨⟨.inl rfl, True.intro, c1, c2⟩, True.intro⟩, True.intro⟩, True.intro⟩, ?_⟩, ?_⟩
    · show (cutI xs none (some (-1))).length + 1 ≤ sizeLine
      have := cutI_len xs none (some (-1))
      exact Nat.le_of_lt (small1000 (by omega))
    · show PV.ints (cutI xs none (some (-1)) ++ [xs.getD (ixO xs.length (-1)) 0 + 1]) = PV.ints (ledL xs z p)
      unfold ledL
      rw [if_neg ne, if_pos r, cutI_but, li]
  · have r : ¬ ((z = 0 ∧ xs.getD (ixO xs.length (-1)) 0 = 0) ∨ (0 < z ∧ xs.getD (ixO xs.length (-1)) 0 % p = 0)) := r
    rw [li] at r
    refine ⟨rfl, ?_⟩
    show PV.ints xs = PV.ints (ledL xs z p)
    unfold ledL
    rw [if_neg ne, if_neg r]
/-- the product with one more at a place -/
noncomputable def amissF (q g : List Int) (n : Int) : List Int := Tz 0 (convL q (g.dropLast ++ [2 + n % 10 ^ 9]))
noncomputable def amissL (q g : List Int) (n : Int) : List Int := cutI (amissF q g n) none (some ((g.length : Int) - 1 + n % (q.length : Int))) ++ [(amissF q g n).getD (ixO (amissF q g n).length ((g.length : Int) - 1 + n % (q.length : Int))) 0 + 1] ++ cutI (amissF q g n) (some ((g.length : Int) - 1 + n % (q.length : Int) + 1)) none
theorem kx_amiss (T : Top K mg cFE cNO cK cW cR cP) : Ok P w K mg base 4 "_law_amiss" ["_law_quotient", "_law_g", "_law_number_here"] (spL K (Gq cW cR cP) (fun as => ∃ q g n, as = [.ints q, .ints g, .int n] ∧ 0 < q.length ∧ q.length ≤ 200 ∧ 0 < g.length ∧ g.length ≤ 200 ∧ (∀ m ∈ q, m.natAbs < 2 ^ 9000) ∧ (∀ m ∈ g, m.natAbs < 2 ^ 9000) ∧ (g.length : Int) - 1 + n % (q.length : Int) < ((amissF q g n).length : Int)) fun as => match as with
    | [.ints q, .ints g, .int n] => amissL q g n
    | _ => []) := by
  refine okL T.d_amiss sc_amiss (fun as ⟨a, b, c, h, _⟩ => by rw [h]; rfl) (fun f cdv A outer s H E hr => ⟨_, (xss_cons (xst_setL (i := 3) sc_amiss.nd rfl (Or.inl rfl) (newL (xcl (kx_times T) hr (xa_cons (xl 0) (xa_cons (newL (xl_cat (newL (xl_slice (xl 1) xo_none (xo_some (xn_neg xn_int)) (fun _ _ => .inl rfl))) (newL (xl_lst (xa_cons (xn_add xn_int (xn_mod (xn 2) (xn_pow xn_int xn_int))) xa_nil))))) (xa_cons xn_int xa_nil))))))
 (xss_cons (xst_setI (i := 4) sc_amiss.nd rfl (Or.inl rfl) (xn_add (xn_sub (xn_len 1 T.b_len) xn_int) (xn_mod (xn 2) (xn_len 0 T.b_len))))
 (xss_one (xst_retl (xl_cat (newL (xl_cat (newL (xl_slice (xl 3) xo_none (xo_some (xn 4)) (fun _ _ => .inl rfl))) (newL (xl_lst (xa_cons (xn_add (xn_item 3 (xn 4) (fun _ _ => rfl)) xn_int) xa_nil))))) (newL (xl_slice (xl 3) (xo_some (xn_add (xn 4) xn_int)) xo_none (fun _ _ => .inl rfl)))))))), fun as hp => ?_⟩)
  obtain ⟨q, g, n, rfl, q0, ql, g0, gl, qb, gb, hat⟩ := hp
  have m0 := Int.emod_nonneg n (show (10 : Int) ^ 9 ≠ 0 by decide)
  have m1 := Int.emod_lt_of_pos n (show (0 : Int) < 10 ^ 9 by decide)
  have ml : (2 + n % 10 ^ 9).natAbs < 2 ^ 9000 := by
    have h1 : (2 + n % 10 ^ 9).natAbs < 2 ^ 40 := by
      have e1 : (10 : Int) ^ 9 = 1000000000 := by decide
      have e2 : (2 : Nat) ^ 40 = 1099511627776 := by decide
      rw [e2]
      rw [e1] at m0 m1 ⊢
      omega
    exact Nat.lt_of_lt_of_le h1 (Nat.pow_le_pow_right (by decide) (by decide))
  have ng : (g.dropLast ++ [2 + n % 10 ^ 9]).length = g.length := by rw [List.length_append, List.length_dropLast, List.length_singleton]; omega
  have nb : ∀ m ∈ g.dropLast ++ [2 + n % 10 ^ 9], m.natAbs < 2 ^ 9000 := fun m hm => by
    rcases List.mem_append.mp hm with h | h
    · exact gb m (by rw [List.dropLast_eq_take] at h; exact List.mem_of_mem_take h)
    · rw [List.mem_singleton.mp h]; exact ml
  refine ⟨⟨⟨rfl, ⟨⟨rfl, True.intro, True.intro⟩, ⟨⟨⟨True.intro, rfl, by walk_at "xs", by show (0 : Int) < 10 ^ 9; decide⟩, True.intro⟩, True.intro⟩, ?_⟩, True.intro, True.intro⟩, q, g.dropLast ++ [2 + n % 10 ^ 9], 0, ?_, by decide, by rw [ng]; omega, qb, nb⟩, fun f ef => ?_⟩
  · show (cutI g none (some (-1))).length + 1 ≤ sizeLine
    have := cutI_len g none (some (-1))
    exact Nat.le_of_lt (small1000 (by omega))
  · show [PV.ints q, PV.ints (cutI g none (some (-1)) ++ [2 + n % 10 ^ 9]), PV.int 0] = _
    rw [cutI_but]
  have ef : f = Tz 0 (convL q (cutI g none (some (-1)) ++ [2 + n % 10 ^ 9])) := ef
  rw [cutI_but] at ef
  have ef : f = amissF q g n := ef
  have fl : f.length ≤ 400 := by
    rw [ef]
    unfold amissF
    refine Nat.le_trans (Tz_len _ _) ?_
    unfold convL
    rw [List.length_map, List.length_range, ng]
    omega
  have qp : (0 : Int) < (q.length : Int) := by omega
  have r0 := Int.emod_nonneg n (show (q.length : Int) ≠ 0 by omega)
  refine ⟨⟨⟨.inl rfl, True.intro⟩, rfl, .inl rfl, qp⟩, fun a ea => ?_⟩
  have ea : a = (g.length : Int) - 1 + n % (q.length : Int) := ea
  rw [← ea] at hat
  have a0 : 0 ≤ a := by omega
  refine to_lit (ρ' := [.fr (.ints q), .fr (.ints g), .fr (.int n), .fr (.ints f), .fr (.int a)]) rfl ?_
  rw [← ef] at hat
  refine ⟨⟨⟨⟨rfl, True.intro, rfl⟩, ⟨⟨⟨⟨.inl rfl, rfl, by show -(f.length : Int) ≤ a; omega, hat⟩, True.intro⟩, True.intro⟩, True.intro⟩, ?_⟩, ⟨rfl, ⟨rfl, True.intro⟩, True.intro⟩, ?_⟩, ?_⟩
  · show (cutI f none (some a)).length + 1 ≤ sizeLine
    have := cutI_len f none (some a)
    exact Nat.le_of_lt (small1000 (by omega))
  · show (cutI f none (some a) ++ [f.getD (ixO f.length a) 0 + 1]).length + (cutI f (some (a + 1)) none).length ≤ sizeLine
    rw [List.length_append, List.length_singleton]
    have := cutI_len f none (some a)
    have := cutI_len f (some (a + 1)) none
    exact Nat.le_of_lt (small1000 (by omega))
  · show cutI f none (some a) ++ [f.getD (ixO f.length a) 0 + 1] ++ cutI f (some (a + 1)) none = amissL q g n
    unfold amissL
    rw [← ef, ← ea]

theorem isP_dvd {p : Int} (h : IsP p) {d : Nat} (hd : (d : Int) ∣ p) : d = 1 ∨ (d : Int) = p := by
  obtain ⟨h2, _, hn⟩ := h
  obtain ⟨c, hc⟩ := hd
  by_cases d1 : d = 1
  · exact .inl d1
  have d0 : d ≠ 0 := fun z => by rw [z] at hc; simp at hc; omega
  have c0 : 0 < c := by
    rcases Int.lt_or_le 0 c with h | h
    · exact h
    · have := Int.mul_nonpos_of_nonneg_of_nonpos (show (0 : Int) ≤ d by omega) h
      omega
  by_cases c1 : c = 1
  · right; rw [hc, c1, Int.mul_one]
  exfalso
  by_cases le : (d : Int) ≤ c
  · have sq : (d : Int) * d ≤ p := by rw [hc]; exact Int.mul_le_mul_of_nonneg_left le (by omega)
    exact hn d (by omega) sq (by rw [hc]; exact Int.mul_emod_right _ _)
  · have sq : c * c ≤ p := by rw [hc]; exact Int.mul_le_mul_of_nonneg_right (by omega) (by omega)
    exact hn c (by omega) sq (by rw [hc]; exact Int.mul_emod_left _ _)
theorem gcd_pow {p b : Int} (h : IsP p) (hb : ¬ b % p = 0) (m : Nat) : Int.gcd b (p ^ m) = 1 := by
  have g1 : Int.gcd b p = 1 := by
    rcases isP_dvd h (d := Int.gcd b p) (Int.gcd_dvd_right ..) with g | g
    · exact g
    · exfalso
      have := Int.gcd_dvd_left b p
      rw [g] at this
      exact hb (Int.emod_eq_zero_of_dvd this)
  unfold Int.gcd at g1 ⊢
  rw [Int.natAbs_pow]
  exact Nat.Coprime.pow_right m g1
theorem gcd_pow_no {p b : Int} (h : IsP p) (hb : b % p = 0) {m : Nat} (hm : 1 ≤ m) : ¬ Int.gcd b (p ^ m) = 1 := fun g => by
  have d1 : p ∣ b := Int.dvd_of_emod_eq_zero hb
  have d2 : p ∣ p ^ m := by
    obtain ⟨k, rfl⟩ : ∃ k, m = k + 1 := ⟨m - 1, by omega⟩
    rw [Int.pow_succ]
    exact Int.dvd_mul_left _ _
  have d3 := Int.dvd_coe_gcd d1 d2
  rw [g] at d3
  have := Int.le_of_dvd (by decide) d3
  have := h.1
  omega
theorem Tz_full {z : Int} {xs : List Int} (hx : 0 < xs.length) (h : pl z (lastI xs) ≠ 0) : (Tz z xs).length = xs.length ∧ lastI (Tz z xs) = pl z (lastI xs) := by
  have e : (Tz z xs).length = xs.length := by
    refine Nat.le_antisymm (Tz_len z xs) ?_
    by_cases c : xs.length ≤ (Tz z xs).length
    · exact c
    · exfalso
      have := Tz_get z xs (xs.length - 1)
      rw [getD_ge (by omega)] at this
      exact h this.symm
  refine ⟨e, ?_⟩
  unfold lastI
  rw [e, Tz_get]
theorem Tz_same {z : Int} {a b : List Int} (h : ∀ n, pl z (a.getD n 0) = pl z (b.getD n 0)) : Tz z a = Tz z b := trim_pl h
/-- a lead by which all can be divided -/
noncomputable def Lead (z p l : Int) : Prop := (z = 0 ∧ l ≠ 0) ∨ ∃ m : Nat, 1 ≤ m ∧ z = p ^ m ∧ IsP p ∧ ¬ l % p = 0
theorem pow_two {p : Int} (hp : IsP p) {m : Nat} (hm : 1 ≤ m) : 2 ≤ p ^ m ∧ p ∣ p ^ m := by
  obtain ⟨k, rfl⟩ : ∃ k, m = k + 1 := ⟨m - 1, by omega⟩
  have h1 := pow_pos' hp.1 k
  have h2 := Int.mul_le_mul_of_nonneg_left hp.1 (Int.le_of_lt h1)
  rw [Int.pow_succ]
  exact ⟨by omega, Int.dvd_mul_left _ _⟩
theorem Lead.two {z p l : Int} (h : Lead z p l) : z = 0 ∨ 2 ≤ z := by
  rcases h with ⟨h, _⟩ | ⟨m, h1, h2, h3, _⟩
  · exact .inl h
  · exact .inr (by rw [h2]; exact (pow_two h3 h1).1)
theorem Lead.gcd {z p l : Int} (h : Lead z p l) (hz : z ≠ 0) : Int.gcd l z = 1 := by
  rcases h with ⟨h, _⟩ | ⟨m, _, h2, h3, h4⟩
  · exact absurd h hz
  · rw [h2]; exact gcd_pow h3 h4 m
theorem Lead.pl {z p l : Int} (h : Lead z p l) : Lead z p (L2.pl z l) := by
  rcases h with ⟨h, k⟩ | ⟨m, h1, h2, h3, h4⟩
  · subst h
    exact .inl ⟨rfl, k⟩
  · have := (pow_two h3 h1)
    refine .inr ⟨m, h1, h2, h3, ?_⟩
    rw [pl_pos (by rw [h2]; omega), h2, Int.emod_emod_of_dvd _ this.2]
    exact h4
theorem Lead.nz {z p l : Int} (h : Lead z p l) (x : Int) (hx : z ∣ x * l) : z ∣ x := by
  by_cases e : z = 0
  · subst e
    rcases h with ⟨_, k⟩ | ⟨m, h1, h2, h3, _⟩
    · rw [Int.zero_dvd] at hx ⊢
      rcases Int.mul_eq_zero.mp hx with q | q
      · exact q
      · exact absurd q k
    · have := (pow_two h3 h1).1
      omega
  · have z2 : 2 ≤ z := by rcases h.two with q | q <;> omega
    obtain ⟨t, _, _, ht⟩ := tu_ex z2 (h.gcd e)
    have h1 := Int.dvd_sub_self_of_emod_eq ht
    have h2 : z ∣ x * l * t := Int.dvd_mul_of_dvd_left hx
    have h3 : z ∣ x * (1 - t * l) := Int.dvd_mul_of_dvd_right h1
    have e1 : x = x * l * t + x * (1 - t * l) := by
      rw [Int.mul_sub, Int.mul_one, Int.mul_comm t l, ← Int.mul_assoc]
      omega
    rw [e1]
    exact Int.dvd_add h2 h3
theorem Lead.no {z p l : Int} (h : Lead z p l) (a e : Int) (_ : L2.pl z a = a) (he : z ∣ a - e * l) : ov z a l ≠ none := by
  unfold ov
  by_cases c : z = 0
  · subst c
    rw [if_pos rfl]
    have l0 : l ≠ 0 := by
      rcases h with ⟨_, k⟩ | ⟨m, h1, h2, h3, _⟩
      · exact k
      · have := (pow_two h3 h1).1
        omega
    have ea : a = e * l := by
      have := Int.zero_dvd.mp he
      omega
    rw [if_neg]
    · intro q; cases q
    · rintro (q | q)
      · exact l0 q
      · exact q (by rw [ea]; exact Int.mul_fmod_left e l)
  · rw [if_neg c, if_pos (h.gcd c)]
    intro q; cases q
theorem Lead.ne {z p l : Int} (h : Lead z p l) : L2.pl z l ≠ 0 := fun e => by
  by_cases c : z = 0
  · subst c
    rcases h with ⟨_, k⟩ | ⟨m, h1, h2, h3, _⟩
    · exact k e
    · have := (pow_two h3 h1).1
      omega
  · have d : z ∣ l := by
      have := pl_dvd z l
      rw [e] at this
      have e2 : l = 0 - (0 - l) := by omega
      rw [e2]
      exact Int.dvd_sub (Int.dvd_zero z) this
    have := h.nz 1 (by rw [Int.one_mul]; exact d)
    have := Int.le_of_dvd (by decide) this
    rcases h.two with q | q <;> omega
/-- quotient and rest come back -/
theorem dv_back {C : Addr} {z p : Int} {Q g R f2 g2 : List Int} (hg0 : 0 < g.length) (hl : Lead z p (lastI g)) (hg : ∀ n, pl z (g2.getD n 0) = pl z (g.getD n 0)) (hf : ∀ n, pl z (f2.getD n 0) = pl z (cm Q g n + R.getD n 0)) (hQ : InForm Q) (hQr : ∀ n, pl z (Q.getD n 0) = Q.getD n 0) (hR : InForm R) (hRr : ∀ n, pl z (R.getD n 0) = R.getD n 0) (hRl : R.length < g.length) : dvR C z (Tz z f2) (Tz z g2) = .val (.tup [.ints Q, .ints R]) := by
  rw [Tz_same (a := g2) (b := g) hg]
  obtain ⟨e1, e2⟩ := Tz_full hg0 hl.ne
  have hl2 : Lead z p (lastI (Tz z g)) := by rw [e2]; exact hl.pl
  have hd : 0 < (Tz z g).length := by omega
  have key := dvN_pos (z := z) (ov := ov z) (f := Tz z f2) (d := Tz z g) (Q := Q) (R := R) hd (fun a c ha h => hov hl.two _ a c ha h) hl2.nz hl2.no (Tz_form _ _) (Tz_red _ _) hQ hQr hR hRr (by omega) (fun n => by
    rw [← pl_iff, Tz_get, pl_pl, hf, ← pl_add, cm_pl (f' := Q) (g' := g) (fun k => rfl) (fun k => by rw [Tz_get, pl_pl]) n, pl_add]) (fuel := (Tz z f2).length + 1) (Nat.lt_succ_self _)
  unfold dvR
  rw [if_neg (fun e => by rw [e] at hd; exact absurd hd (Nat.lt_irrefl 0))]
  have k2 : dvT z (Tz z f2) (Tz z g) = some (Q, R) := key
  rw [k2]
/-- a lead that cannot be divided by -/
theorem dv_bad {C : Addr} {z : Int} {f g : List Int} (hg0 : 0 < g.length) (hfg : g.length ≤ f.length) (hf : pl z (lastI f) ≠ 0) (hg : pl z (lastI g) ≠ 0) (ho : ov z (pl z (lastI f)) (pl z (lastI g)) = none) : dvR C z (Tz z f) (Tz z g) = .err C := by
  obtain ⟨a1, a2⟩ := Tz_full (by omega) hf
  obtain ⟨b1, b2⟩ := Tz_full hg0 hg
  unfold dvR
  by_cases e : Tz z g = []
  · rw [if_pos e]
  · rw [if_neg e]
    have k2 : dvT z (Tz z f) (Tz z g) = none := by
      unfold dvT
      rw [dv_more (by omega), a2, b2, ho]
    rw [k2]
theorem dv_short {C : Addr} {z : Int} {f g : List Int} (hfg : f.length < g.length) (hg : pl z (lastI g) ≠ 0) : dvR C z (Tz z f) (Tz z g) = .val (.tup [.ints [], .ints (Tz z f)]) := by
  obtain ⟨b1, b2⟩ := Tz_full (by omega) hg
  have fl := Tz_len z f
  unfold dvR
  rw [if_neg (fun e => by rw [e] at b1; have : (0 : Nat) = g.length := b1; omega)]
  have k2 : dvT z (Tz z f) (Tz z g) = some ([], Tz z f) := by
    unfold dvT
    rw [dv_done (by omega), show (Tz z f).length + 1 - (Tz z g).length = 0 by omega]
    rfl
  rw [k2]
theorem dv_nought {C : Addr} {z : Int} {f : List Int} {k : Nat} : dvR C z (Tz z f) (Tz z (List.replicate k z)) = .err C := by
  have e : Tz z (List.replicate k z) = [] := by
    rw [Tz_same (b := []) fun n => ?_]
    · rfl
    · by_cases h : n < k
      · rw [getD_lt (by rw [List.length_replicate]; exact h), List.getElem_replicate]
        refine (pl_iff z _ _).mpr ?_
        show z ∣ z - 0
        rw [Int.sub_zero]
        exact Int.dvd_refl z
      · rw [getD_ge (by rw [List.length_replicate]; omega)]
        rfl
  unfold dvR
  rw [if_pos e]
/-- the numbers moved by the kind's size, and multiples behind -/
theorem mov_get {z : Int} {xs : List Int} {h : Nat → Int → Int} {k : Nat} (hh : ∀ i n, z ∣ h i n - n) (n : Nat) : pl z ((xs.mapIdx h ++ List.replicate k z).getD n 0) = pl z (xs.getD n 0) := by
  by_cases c : n < xs.length
  · have e : (xs.mapIdx h ++ List.replicate k z).getD n 0 = h n (xs.getD n 0) := by
      rw [getD_lt (by rw [List.length_append, List.length_mapIdx]; omega), List.getElem_append_left (by rw [List.length_mapIdx]; exact c), List.getElem_mapIdx, getD_lt c]
    rw [e]
    exact (pl_iff z _ _).mpr (hh _ _)
  · rw [getD_ge (xs := xs) (by omega)]
    by_cases d : n < xs.length + k
    · rw [getD_lt (by rw [List.length_append, List.length_mapIdx, List.length_replicate]; exact d), List.getElem_append_right (by rw [List.length_mapIdx]; omega), List.getElem_replicate]
      refine (pl_iff z _ _).mpr ?_
      rw [Int.sub_zero]
      exact Int.dvd_refl z
    · rw [getD_ge (by rw [List.length_append, List.length_mapIdx, List.length_replicate]; omega)]
theorem lastI_snoc (xs : List Int) (x : Int) : lastI (xs ++ [x]) = x := by
  unfold lastI
  rw [snoc_get, if_pos (by rw [List.length_append, List.length_singleton]; omega)]
theorem led_ok {xs : List Int} {z p : Int} (hp : IsP p) (hz : z = 0 ∨ ∃ m : Nat, 1 ≤ m ∧ z = p ^ m) : 0 < (ledL xs z p).length ∧ (ledL xs z p).length ≤ xs.length + 1 ∧ Lead z p (lastI (ledL xs z p)) := by
  have p2 := hp.1
  have one : Lead z p 1 := by
    rcases hz with e | ⟨m, h1, h2⟩
    · exact .inl ⟨e, by decide⟩
    · exact .inr ⟨m, h1, h2, hp, by rw [Int.emod_eq_of_lt (by omega) (by omega)]; decide⟩
  unfold ledL
  split
  · exact ⟨by show 0 < 1; decide, by show 1 ≤ xs.length + 1; omega, one⟩
  · rename_i ne
    have lp := List.length_pos_iff.mpr ne
    split
    · rename_i h
      refine ⟨by rw [List.length_append, List.length_singleton]; omega, by rw [List.length_append, List.length_dropLast, List.length_singleton]; omega, ?_⟩
      rw [lastI_snoc]
      rcases hz with e | ⟨m, h1, h2⟩
      · refine .inl ⟨e, ?_⟩
        rcases h with h | h <;> omega
      · refine .inr ⟨m, h1, h2, hp, fun q => ?_⟩
        have z2 := (pow_two hp h1).1
        have h3 : lastI xs % p = 0 := by
          rcases h with h | h
          · omega
          · exact h.2
        have d1 := Int.dvd_of_emod_eq_zero h3
        have d2 := Int.dvd_of_emod_eq_zero q
        have d3 := Int.dvd_sub d2 d1
        have e : lastI xs + 1 - lastI xs = 1 := by omega
        rw [e] at d3
        have := Int.le_of_dvd (by decide) d3
        omega
    · rename_i h
      refine ⟨lp, by omega, ?_⟩
      rcases hz with e | ⟨m, h1, h2⟩
      · exact .inl ⟨e, fun q => h (.inl ⟨e, q⟩)⟩
      · have z2 := (pow_two hp h1).1
        exact .inr ⟨m, h1, h2, hp, fun q => h (.inr ⟨by omega, q⟩)⟩
theorem led_b {xs : List Int} {z p : Int} {B : Nat} (hB : 1 ≤ B) (h : ∀ m ∈ xs, m.natAbs ≤ B) : ∀ m ∈ ledL xs z p, m.natAbs ≤ B + 1 := by
  unfold ledL
  intro m hm
  split at hm
  · rw [List.mem_singleton.mp hm]
    show 1 ≤ B + 1
    omega
  · split at hm
    · rcases List.mem_append.mp hm with q | q
      · have := h m (by rw [List.dropLast_eq_take] at q; exact List.mem_of_mem_take q)
        omega
      · rw [List.mem_singleton.mp q]
        have := getD_b h (xs.length - 1)
        have e : lastI xs = xs.getD (xs.length - 1) 0 := rfl
        rw [e]
        omega
    · have := h m hm
      omega
theorem but_snoc {g : List Int} {x : Int} (hg : 0 < g.length) : (g.dropLast ++ [x]).length = g.length ∧ lastI (g.dropLast ++ [x]) = x := ⟨by rw [List.length_append, List.length_dropLast, List.length_singleton]; omega, lastI_snoc _ _⟩
theorem conv_full {q g : List Int} (hq : 0 < q.length) (hg : 0 < g.length) (h : lastI q * lastI g ≠ 0) : (Tz 0 (convL q g)).length = q.length + g.length - 1 := by
  have top : cm q g (q.length - 1 + (g.length - 1)) = lastI q * lastI g := by
    have := cm_top (z := 0) (E := q) (d := g) hg (i := q.length - 1) fun j hj => by rw [getD_ge (by omega)]; exact Int.dvd_refl 0
    have := Int.zero_dvd.mp this
    have e : q.getD (q.length - 1) 0 = lastI q := rfl
    rw [e] at this
    omega
  refine Nat.le_antisymm (form_len (Tz_form _ _) fun n hn => ?_) ?_
  · rw [Tz_get, convL_get, cm_ge (by omega), pl_0]
  · by_cases c : q.length + g.length - 1 ≤ (Tz 0 (convL q g)).length
    · exact c
    · exfalso
      have := Tz_get 0 (convL q g) (q.length - 1 + (g.length - 1))
      rw [getD_ge (by omega), convL_get, top, pl_zero] at this
      exact h this.symm
theorem amiss_at {q g : List Int} {n : Int} (hq : 0 < q.length) (hg : 0 < g.length) (hl : lastI q = 1) : (g.length : Int) - 1 + n % (q.length : Int) < ((amissF q g n).length : Int) := by
  have m0 := Int.emod_nonneg n (show (10 : Int) ^ 9 ≠ 0 by decide)
  obtain ⟨e1, e2⟩ := but_snoc (x := 2 + n % 10 ^ 9) hg
  have e := conv_full (q := q) (g := g.dropLast ++ [2 + n % 10 ^ 9]) hq (by omega) (by rw [hl, e2]; omega)
  have : (amissF q g n).length = q.length + g.length - 1 := by
    unfold amissF
    rw [e, e1]
  have r1 := Int.emod_lt_of_pos n (show (0 : Int) < (q.length : Int) by omega)
  omega
theorem amiss_get {q g : List Int} {n : Int} (hq : 0 < q.length) (hg : 0 < g.length) (hl : lastI q = 1) : ∃ k : Nat, g.length - 1 ≤ k ∧ (amissL q g n).length ≤ (amissF q g n).length + 1 ∧ ∀ i, (amissL q g n).getD i 0 = cm q (g.dropLast ++ [2 + n % 10 ^ 9]) i + if i = k then 1 else 0 := by
  have hat := amiss_at (n := n) hq hg hl
  have r0 := Int.emod_nonneg n (show (q.length : Int) ≠ 0 by omega)
  obtain ⟨k, ek⟩ : ∃ k : Nat, (g.length : Int) - 1 + n % (q.length : Int) = (k : Int) := ⟨((g.length : Int) - 1 + n % (q.length : Int)).toNat, by omega⟩
  have fg : ∀ i, (amissF q g n).getD i 0 = cm q (g.dropLast ++ [2 + n % 10 ^ 9]) i := fun i => by
    unfold amissF
    rw [Tz_get, convL_get, pl_zero]
  have e : amissL q g n = (amissF q g n).take k ++ [(amissF q g n).getD k 0 + 1] ++ (amissF q g n).drop (k + 1) := by
    unfold amissL
    rw [ek]
    have ix : ixO (amissF q g n).length (k : Int) = k := by unfold ixO; rw [if_pos (by omega)]; omega
    have c2 : ((k : Int) + 1) = ((k + 1 : Nat) : Int) := by omega
    rw [ix, c2, cutI_to, cutI_from]
  have kl : k < (amissF q g n).length := by omega
  refine ⟨k, by omega, ?_, fun i => ?_⟩
  · rw [e, List.length_append, List.length_append, List.length_take, List.length_drop, List.length_singleton]
    omega
  · rw [← fg, e]
    generalize amissF q g n = F at *
    have lt : (F.take k).length = k := by rw [List.length_take]; omega
    rw [List.getD_eq_getElem?_getD]
    by_cases c : i < k
    · rw [List.append_assoc, List.getElem?_append_left (by omega), List.getElem?_take_of_lt c, ← List.getD_eq_getElem?_getD, if_neg (by omega)]
      omega
    · by_cases d : i = k
      · subst d
        rw [if_pos rfl, List.append_assoc, List.getElem?_append_right (by omega), lt, Nat.sub_self]
        rfl
      · rw [if_neg d, List.getElem?_append_right (by rw [List.length_append, lt, List.length_singleton]; omega), List.length_append, lt, List.length_singleton, List.getElem?_drop, show k + 1 + (i - (k + 1)) = i by omega, ← List.getD_eq_getElem?_getD]
        omega
theorem dv_amiss {C : Addr} {q g : List Int} {n : Int} (hq : 0 < q.length) (hg : 0 < g.length) (hl : lastI q = 1) : dvR C 0 (Tz 0 (amissL q g n)) (Tz 0 (g.dropLast ++ [2 + n % 10 ^ 9])) = .err C := by
  have m0 := Int.emod_nonneg n (show (10 : Int) ^ 9 ≠ 0 by decide)
  obtain ⟨k, hk, _, ha⟩ := amiss_get (n := n) hq hg hl
  obtain ⟨e1, e2⟩ := but_snoc (x := 2 + n % 10 ^ 9) hg
  have l2 : 2 ≤ 2 + n % 10 ^ 9 := by omega
  generalize 2 + n % 10 ^ 9 = L at *
  obtain ⟨b1, b2⟩ := Tz_full (z := 0) (xs := g.dropLast ++ [L]) (by omega) (by rw [e2, pl_zero]; omega)
  rw [e2, pl_zero] at b2
  unfold dvR
  by_cases e : Tz 0 (g.dropLast ++ [L]) = []
  · rw [if_pos e]
  · rw [if_neg e]
    have key := dvN_neg (ov := ov 0) (f := Tz 0 (amissL q g n)) (d := Tz 0 (g.dropLast ++ [L])) (Q := q) (k := k) (by omega) (fun a c ha h => hov (.inl rfl) _ a c ha h) (by rw [b2]; exact l2) (Tz_form _ _) (by omega) (fun i => by
      rw [Tz_get, pl_zero, ha]
      congr 1
      unfold cm
      exact sm_congr fun j _ => by rw [Tz_get, pl_zero]) (fuel := (Tz 0 (amissL q g n)).length + 1) (Nat.lt_succ_self _)
    have k2 : dvT 0 (Tz 0 (amissL q g n)) (Tz 0 (g.dropLast ++ [L])) = none := key
    rw [k2]

theorem sz {n : Nat} (h : n ≤ 900) : n ≤ sizeLine := Nat.le_of_lt (small1000 (by omega))
theorem dlog {k : Int} (h : 0 < k ∧ k < 16000) : k.natAbs.log2 < 9000 := by
  have h1 : k.natAbs < 2 ^ 9000 := Nat.lt_of_lt_of_le (show k.natAbs < 2 ^ 14 by omega) (Nat.pow_le_pow_right (by decide) (by decide))
  exact (Nat.log2_lt (by omega)).mpr h1
theorem take_b {xs : List Int} {B : Nat} (h : ∀ m ∈ xs, m.natAbs ≤ B) (k : Nat) : ∀ m ∈ xs.take k, m.natAbs ≤ B := fun m hm => h m (List.mem_of_mem_take hm)
theorem drop_b {xs : List Int} {B : Nat} (h : ∀ m ∈ xs, m.natAbs ≤ B) (k : Nat) : ∀ m ∈ xs.drop k, m.natAbs ≤ B := fun m hm => h m (List.mem_of_mem_drop hm)
theorem Tz0_b {xs : List Int} {B : Nat} (h : ∀ m ∈ xs, m.natAbs ≤ B) : ∀ m ∈ Tz 0 xs, m.natAbs ≤ B := fun m hm => by
  obtain ⟨k, hk, e⟩ := Tz_mem hm
  have e : m = k := e
  rw [e]
  exact h k hk
theorem le600 {n k : Nat} (h : n ≤ 2 ^ k) (hk : k ≤ 600) : n ≤ 2 ^ 600 := Nat.le_trans h (Nat.pow_le_pow_right (by decide) hk)
theorem le9000 {n k : Nat} (h : n ≤ 2 ^ k) (hk : k < 9000) : n < 2 ^ 9000 :=
  Nat.lt_of_le_of_lt h (Nat.pow_lt_pow_right (by decide) hk)
theorem up1 : (10 : Nat) ^ 60 + 1 ≤ 2 ^ 200 := by decide +kernel
theorem cm_600 {q g : List Int} (hg : g.length ≤ 100) (hq : ∀ m ∈ q, m.natAbs ≤ 2 ^ 200) (hgb : ∀ m ∈ g, m.natAbs ≤ 2 ^ 200) (n : Nat) : (cm q g n).natAbs ≤ 2 ^ 500 := by
  refine Nat.le_trans (cm_abs hq hgb n) ?_
  have h1 : g.length * (2 ^ 200 * 2 ^ 200) ≤ 2 ^ 7 * (2 ^ 200 * 2 ^ 200) := Nat.mul_le_mul_right _ (by omega)
  refine Nat.le_trans h1 ?_
  rw [← Nat.pow_add, ← Nat.pow_add]
  exact Nat.pow_le_pow_right (by decide) (by decide)
theorem num60 (c k : Int) : (m_number c k).natAbs ≤ 10 ^ 60 := by
  have h1 : 0 ≤ c % 10 ^ 60 ∧ c % 10 ^ 60 < 10 ^ 60 := ⟨Int.emod_nonneg _ (by decide), Int.emod_lt_of_pos _ (by decide)⟩
  have h3 : 0 ≤ c % 5 ∧ c % 5 < 5 := ⟨Int.emod_nonneg _ (by decide), Int.emod_lt_of_pos _ (by decide)⟩
  have h2 : (10 : Int) ^ 60 ≤ ((10 ^ 60 : Nat) : Int) := by decide +kernel
  have h4 : (5 : Int) ≤ ((10 ^ 60 : Nat) : Int) := by decide +kernel
  unfold m_number
  generalize (10 : Nat) ^ 60 = N at h2 h4 ⊢
  generalize (10 : Int) ^ (60 : Nat) = M at h1 h2 ⊢
  generalize c % M = u at h1 ⊢
  generalize c % 5 = v at h3 ⊢
  repeat' split
  all_goals omega
theorem kx_law (T : Top K mg cFE cNO cK cW cR cP) {f : Addr} {fd : FuncData} (F : Fun K "law" "law" s_law f fd) : FnOk P w K mg base CX0 9 f fd ["_law_script"] (spLaw K) := by
  refine lawF (G := Gq cW cR cP) F sc_law (fun cdv A outer s H E hr => ⟨_, (xss_cons (xst_setI (i := 1) sc_law.nd rfl (Or.inl rfl) (rci (kx_head T) hr (ra_cons (rdX (xr 0)) ra_nil)))
 (xss_cons (xst_setI (i := 2) sc_law.nd rfl (Or.inl rfl) (rci (kx_prime T) hr (ra_cons (rdX (xn_mod (rci (kx_cell_at T) hr (ra_cons (rdX (xr 0)) (ra_cons (rdX xn_int) ra_nil))) (xn_pow xn_int xn_int))) ra_nil)))
 (xss_cons (xst_setI (i := 3) sc_law.nd rfl (Or.inl rfl) (xn_add xn_int (xn_mod (xn_div (xn 1) xn_int) xn_int)))
 (xss_cons (xst_setI (i := 4) sc_law.nd rfl (Or.inr rfl) (rci (kx_size T) hr (ra_cons (rdX (xn_mod (xn 1) xn_int)) (ra_cons (rdX (xn 2)) (ra_cons (rdX (xn 3)) ra_nil)))))
 (xss_cons (xst_setP (i := 5) sc_law.nd rfl (Or.inl rfl) (xc (kx_kind T) hr (xa_cons (xn_mod (xn 1) xn_int) (xa_cons (xn 2) (xa_cons (xn 3) xa_nil)))))
 (xss_cons (xst_lcEf (i := 6) sc_law.nd rfl rfl (N' := ["_law_k", "_law_cell"]) (cap := []) (lc_ok rfl rfl rfl rfl True.intro True.intro rfl) rfl (by rfl) T.b_enumerate (newL (xl_slice (xr 0) (xo_some xn_int) (xo_some xn_int) (fun _ _ => .inr rfl))) (fun _ _ _ => (pg_tup rfl (pgs_cons (pg_name (i := 0) (show (["_law_k", "_law_cell"] : List Str).Nodup by decide +kernel) rfl (Or.inl rfl) (.inr rfl)) (pgs_cons (pg_name (i := 1) (show (["_law_k", "_law_cell"] : List Str).Nodup by decide +kernel) rfl (Or.inl rfl) (.inr rfl)) pgs_nil)))) (fun _ _ _ => (rci (kx_number T) hr (ra_cons (rdX (xn 1)) (ra_cons (rdX (xn 0)) ra_nil)))) rfl)
 (xss_cons (xst_setI (i := 7) sc_law.nd rfl (Or.inl rfl) (xn_mod (xn_mod (rci (kx_cell_at T) hr (ra_cons (rdX (xr 0)) (ra_cons (rdX xn_int) ra_nil))) xn_int) (xn_add (xn_len 6 T.b_len) xn_int)))
 (xss_cons (xst_setI (i := 8) sc_law.nd rfl (Or.inl rfl) (xn_add (xn 7) (xn_div (xn_sub (xn_len 6 T.b_len) (xn 7)) xn_int)))
 (xss_cons (xst_setL (i := 9) sc_law.nd rfl (Or.inl rfl) (xcL (kx_led T) hr (xa_cons (newL (xl_slice (xl 6) xo_none (xo_some (xn 7)) (fun _ _ => .inl rfl))) (xa_cons (xn 4) (xa_cons (xn 2) xa_nil)))))
 (xss_cons (xst_setI (i := 10) sc_law.nd rfl (Or.inl rfl) (xn_mod (xn_div (xn 1) xn_int) xn_int))
 (xss_cons (xst_if (xt_eq (xn 10) xn_int)
 (xss_one (xst_ret (rcb (kx_refused T) hr (ra_cons (rdX (xv 5)) (ra_cons (rdX (xl 6)) (ra_cons (rdX (newL (xl_rep (xl_lst (xa_cons (xn 4) xa_nil)) (xn_mod (xn_div (xn 1) xn_int) xn_int) (fun _ => rfl)))) ra_nil))))))
 xss_nil)
 (xss_cons (xst_if (L2.PW.pt (xw_and (xt_eq (xn 10) xn_int) (xw_and1 (xt_ne (xn_mod (xn 1) xn_int) xn_int))))
 (xss_cons (xst_setL (i := 9) sc_law.nd rfl (Or.inl rfl) (newL (xl_cat (newL (xl_slice (xl 9) xo_none (xo_some (xn_neg xn_int)) (fun _ _ => .inl rfl))) (newL (xl_lst (xa_cons (xn_max rfl T.b_max xn_int (xn_mul (xn 2) (xn_div (xn_mod (xn 1) xn_int) xn_int))) xa_nil))))))
 (xss_cons (xst_setL (i := 11) sc_law.nd rfl (Or.inl rfl) (newL (xl_cat (newL (xl_slice (xl 6) (xo_some (xn 7)) xo_none (fun _ _ => .inl rfl))) (newL (xl_lst (xa_cons xn_int xa_nil))))))
 (xss_cons (xst_if (xt_ge (xn_len 11 T.b_len) (xn_len 9 T.b_len))
 (xss_one (xst_ret (rcb (kx_refused T) hr (ra_cons (rdX (xv 5)) (ra_cons (rdX (xl 11)) (ra_cons (rdX (xl 9)) ra_nil))))))
 xss_nil)
 (xss_one (xst_ret (rcb (kx_pair T) hr (ra_cons (rdX (rcnV (kx_divided T) hr (ra_cons (rdX (xv 5)) (ra_cons (rdX (newL (xl_list T.b_list (xl 11) (fun _ => .inl rfl)))) (ra_cons (rdX (newL (xl_list T.b_list (xl 9) (fun _ => .inl rfl)))) ra_nil))))) (ra_cons (rdX (newL (xl_lst xa_nil))) (ra_cons (rdX (newL (rcl (kx_trim T) hr (ra_cons (rdX (xl 11)) (ra_cons (rdX (xn 4)) ra_nil))))) ra_nil)))))))))
 xss_nil)
 (xss_cons (xst_setL (i := 12) sc_law.nd rfl (Or.inl rfl) (newL (rcl (kx_trim T) hr (ra_cons (rdX (newL (xl_slice (xl 6) (xo_some (xn 8)) xo_none (fun _ _ => .inl rfl)))) (ra_cons (rdX (xn 4)) ra_nil)))))
 (xss_cons (xst_if (L2.PW.pt (xw_and (xt_eq (xn 10) xn_int) (xw_and1 (xt_eq (xn_mod (xn 1) xn_int) xn_int))))
 (xss_one (xst_ret (rcb (kx_refused T) hr (ra_cons (rdX (xv 5)) (ra_cons (rdX (newL (rcl (kx_amiss T) hr (ra_cons (rdX (newL (xl_cat (xl 12) (newL (xl_lst (xa_cons xn_int xa_nil)))))) (ra_cons (rdX (xl 9)) (ra_cons (rdX (xn_div (xn 1) xn_int)) ra_nil)))))) (ra_cons (rdX (newL (xl_cat (newL (xl_slice (xl 9) xo_none (xo_some (xn_neg xn_int)) (fun _ _ => .inl rfl))) (newL (xl_lst (xa_cons (xn_add xn_int (xn_mod (xn_div (xn 1) xn_int) (xn_pow xn_int xn_int))) xa_nil)))))) ra_nil))))))
 xss_nil)
 (xss_cons (xst_setL (i := 13) sc_law.nd rfl (Or.inl rfl) (newL (rcl (kx_trim T) hr (ra_cons (rdX (newL (xl_slice (newL (xl_slice (xl 6) (xo_some (xn 7)) (xo_some (xn 8)) (fun _ _ => .inl rfl))) xo_none (xo_some (xn_sub (xn_len 9 T.b_len) xn_int)) (fun _ _ => .inl rfl)))) (ra_cons (rdX (xn 4)) ra_nil)))))
 (xss_cons (xst_setL (i := 11) sc_law.nd rfl (Or.inl rfl) (newL (rcl (kx_sum T) hr (ra_cons (rdX (newL (rcl (kx_times T) hr (ra_cons (rdX (xl 12)) (ra_cons (rdX (xl 9)) (ra_cons (rdX (xn 4)) ra_nil)))))) (ra_cons (rdX (xl 13)) (ra_cons (rdX (xn 4)) ra_nil))))))
 (xss_cons (xst_setL (i := 11) sc_law.nd rfl (Or.inl rfl) (newL (xl_cat (newL (xl_lcE (N' := ["_law_k", "_law_number_here", "_law_size_here"]) (cap := [some 4]) (lc_ok rfl rfl rfl rfl ⟨⟨rfl, Or.inr (Or.inl rfl), (fun z => nomatch (show (some NameKind.cell : Option NameKind) = some NameKind.local from z)), Or.inl rfl, _, rfl, rfl⟩, True.intro⟩ ⟨rfl, True.intro⟩ rfl) rfl (by rfl) T.b_enumerate (xl 11) (fun _ _ _ => (pg_tup rfl (pgs_cons (pg_name (i := 0) (show (["_law_k", "_law_number_here", "_law_size_here"] : List Str).Nodup by decide +kernel) rfl (Or.inl rfl) (.inr rfl)) (pgs_cons (pg_name (i := 1) (show (["_law_k", "_law_number_here", "_law_size_here"] : List Str).Nodup by decide +kernel) rfl (Or.inl rfl) (.inr rfl)) pgs_nil)))) (fun _ _ _ => (xn_add (xn 1) (xn_mul (xn 2) (xn_sub (xn_mod (xn 0) xn_int) xn_int)))))) (newL (xl_rep (xl_lst (xa_cons (xn 4) xa_nil)) (xn_mod (xn_div (xn 1) xn_int) xn_int) (fun _ => rfl))))))
 (xss_cons (xst_setL (i := 9) sc_law.nd rfl (Or.inl rfl) (newL (xl_cat (newL (xl_lcE (N' := ["_law_k", "_law_number_here", "_law_size_here"]) (cap := [some 4]) (lc_ok rfl rfl rfl rfl ⟨⟨rfl, Or.inr (Or.inl rfl), (fun z => nomatch (show (some NameKind.cell : Option NameKind) = some NameKind.local from z)), Or.inl rfl, _, rfl, rfl⟩, True.intro⟩ ⟨rfl, True.intro⟩ rfl) rfl (by rfl) T.b_enumerate (xl 9) (fun _ _ _ => (pg_tup rfl (pgs_cons (pg_name (i := 0) (show (["_law_k", "_law_number_here", "_law_size_here"] : List Str).Nodup by decide +kernel) rfl (Or.inl rfl) (.inr rfl)) (pgs_cons (pg_name (i := 1) (show (["_law_k", "_law_number_here", "_law_size_here"] : List Str).Nodup by decide +kernel) rfl (Or.inl rfl) (.inr rfl)) pgs_nil)))) (fun _ _ _ => (xn_sub (xn 1) (xn_mul (xn 2) (xn_sub (xn_mod (xn 0) xn_int) xn_int)))))) (newL (xl_rep (xl_lst (xa_cons (xn 4) xa_nil)) (xn_mod (xn_div (xn 1) xn_int) xn_int) (fun _ => rfl))))))
 (xss_cons (xst_two (i := 14) sc_law.nd rfl (Or.inl rfl) (xl_list T.b_list (xl 11) (fun _ => .inl rfl)) (xl_list T.b_list (xl 9) (fun _ => .inl rfl)))
 (xss_cons (xst_setP (i := 15) sc_law.nd rfl (Or.inl rfl) (rcnV (kx_divided T) hr (ra_cons (rdX (xv 5)) (ra_cons (rd2 14 0 (Or.inl rfl)) (ra_cons (rd2 14 1 (Or.inr rfl)) ra_nil)))))
 (xss_cons (xst_if (L2.PW.pt (xw_or (xt_not (xt_V (rcb (kx_alike T) hr (ra_cons (rd2 14 0 (Or.inl rfl)) (ra_cons (rdX (xl 11)) ra_nil))))) (xw_or1 (xt_not (xt_V (rcb (kx_alike T) hr (ra_cons (rd2 14 1 (Or.inr rfl)) (ra_cons (rdX (xl 9)) ra_nil))))))))
 (xss_one (xst_ret xb_bl))
 xss_nil)
 (xss_cons (xst_app2 14 0 (Or.inl rfl) xn_int)
 (xss_cons (xst_app2 14 1 (Or.inr rfl) xn_int)
 (xss_one (xst_ret (rcb (kx_pair T) hr (ra_cons (rdX (xv 15)) (ra_cons (rdX (xl 12)) (ra_cons (rdX (xl 13)) ra_nil))))))))))))))))))))))))))))), fun ns h63 => ?_⟩)
  refine ⟨⟨⟨rfl, True.intro⟩, True.intro, rfl, True.intro⟩, fun hd eh => ?_⟩
  have eh : hd = headN (ns.getD 0 0) := eh
  have hd0 : 0 ≤ hd := by rw [eh]; exact headN_nn _
  refine ⟨⟨⟨⟨⟨⟨rfl, True.intro, True.intro⟩, True.intro, rfl, by show (0 : Int) ≤ 1; decide⟩, by walk_at "xs", by show (0 : Int) < 10 ^ 9; decide⟩, True.intro⟩, _, rfl⟩, fun p ep => ?_⟩
  have hp : IsP p := by
    have ep : p = drawP _ := ep
    rw [ep]; exact drawP_isP _
  clear ep eh
  refine ⟨by walk_at "xs", fun many em => ?_⟩
  have hm2 : 2 ≤ many ∧ many ≤ 40 := by
    have em : many = 2 + hd / 3 % 39 := em
    omega
  have hmany : 1 ≤ many ∧ many ≤ 400 := by omega
  clear em
  refine ⟨⟨by walk_at "xs", True.intro, rfl, ?_⟩, fun z ez => ?_⟩
  · show 0 ≤ hd % 3 ∧ hd % 3 ≤ 2 ∧ 2 ≤ p ∧ p ≤ 9973 ∧ 1 ≤ many ∧ many ≤ 400
    have := hp.1
    have := hp.2.1
    omega
  have ez : z = sizeOf (hd % 3) p many := ez
  have hz : 0 ≤ z ∧ z < ((2 ^ 9000 : Nat) : Int) := by rw [ez]; exact sizeOf_b hp hmany.1 hmany.2
  refine ⟨⟨by walk_at "xs", _, _, _, rfl, ?_⟩, fun pk epk => ?_⟩
  · show 0 ≤ hd % 3 ∧ hd % 3 ≤ 2 ∧ IsP p ∧ 1 ≤ many ∧ many ≤ 400
    exact ⟨by clear hz; omega, by clear hz; omega, hp, hmany.1, hmany.2⟩
  have epk : pk = .ob 0 z := by rw [ez]; exact epk
  subst epk
  have p2 := hp.1
  have p9 := hp.2.1
  have w0 : hd % 3 = 0 → z = 0 := fun e => by rw [ez]; unfold sizeOf; rw [if_pos e]
  have w2 : hd % 3 = 2 → z = p ^ many.toNat := fun e => by rw [ez]; unfold sizeOf; rw [if_neg (by omega), if_pos e]
  have w1 : hd % 3 = 1 → z = p ^ 1 := fun e => by rw [ez, Int.pow_one]; unfold sizeOf; rw [if_neg (by omega), if_neg (by omega)]
  have zc : z = 0 ∨ ∃ m : Nat, 1 ≤ m ∧ z = p ^ m := by
    clear hz
    have h3 : hd % 3 = 0 ∨ hd % 3 = 1 ∨ hd % 3 = 2 := by omega
    rcases h3 with e | e | e
    · exact .inl (w0 e)
    · exact .inr ⟨1, Nat.le_refl _, w1 e⟩
    · exact .inr ⟨many.toNat, by omega, w2 e⟩
  have z02 : z = 0 ∨ 2 ≤ z := by
    rcases zc with e | ⟨m, h1, h2⟩
    · exact .inl e
    · exact .inr (by rw [h2]; exact (pow_two hp h1).1)
  obtain ⟨hz0, hz9⟩ := hz
  clear ez
  refine to_lit (ρ' := [.fr (.scr ns), .fr (.int hd), .fr (.int p), .fr (.int many), .fr (.int z), .fr (.ob 0 z), .un, .un, .un, .un, .un, .un, .un, .un, .un, .un]) rfl ?_
  refine ⟨⟨⟨rfl, by walk_at "xs", by walk_at "xs"⟩, ?_, fun k c e => ⟨by walk_at "xs", True.intro, rfl, ?_⟩⟩, fun row erow => ?_⟩
  · refine Nat.le_trans (cutI_len _ _ _) ?_
    show ns.length ≤ 1000
    omega
  · have hc : (cutI ns (some 3) (some 63)).length ≤ ns.length := cutI_len _ _ _
    have hk : k < (cutI ns (some 3) (some 63)).length := (List.getElem?_eq_some_iff.mp e).1
    show 0 ≤ (k : Int) ∧ (k : Int) ≤ 1000
    omega
  have erow : row = (cutI ns (some 3) (some 63)).mapIdx fun k c => m_number c (k : Int) := erow
  have rl : row.length ≤ 63 := by rw [erow, List.length_mapIdx]; exact Nat.le_trans (cutI_len _ _ _) h63
  have rb : ∀ m ∈ row, m.natAbs ≤ 10 ^ 60 := by
    intro m hm
    rw [erow] at hm
    obtain ⟨i, hi, rfl⟩ := List.mem_mapIdx.mp hm
    exact num60 _ _
  clear erow
  refine ⟨⟨⟨⟨⟨rfl, True.intro, True.intro⟩, True.intro, rfl, by show (0 : Int) ≤ 2; decide⟩, True.intro, by show (0 : Int) < 97; decide⟩, ⟨.inl rfl, True.intro⟩, by show (0 : Int) < (row.length : Int) + 1; omega⟩, fun cut ecut => ?_⟩
  have hcut : 0 ≤ cut ∧ cut ≤ (row.length : Int) := by
    have ecut : cut = ns.getD 2 0 % 97 % ((row.length : Int) + 1) := ecut
    have h1 := Int.emod_nonneg (ns.getD 2 0 % 97) (show (row.length : Int) + 1 ≠ 0 by omega)
    have h2 := Int.emod_lt_of_pos (ns.getD 2 0 % 97) (show 0 < (row.length : Int) + 1 by omega)
    rw [← ecut] at h1 h2
    omega
  clear ecut
  obtain ⟨cn, rfl⟩ : ∃ cn : Nat, cut = (cn : Int) := ⟨cut.toNat, by omega⟩
  refine ⟨⟨rfl, ⟨.inl rfl, rfl⟩, True.intro, by show (0 : Int) < 3; decide, dlog (by decide)⟩, fun re ere => ?_⟩
  have ere : re = (cn : Int) + ((row.length : Int) - (cn : Int)) / 3 := ere
  obtain ⟨rn, rfl⟩ : ∃ rn : Nat, re = (rn : Int) := ⟨re.toNat, by omega⟩
  have hrn : cn ≤ rn ∧ rn ≤ row.length := by omega
  clear ere
  refine ⟨⟨⟨⟨rfl, True.intro, rfl⟩, rfl, rfl, True.intro⟩, _, z, p, rfl, by omega, ?_⟩, fun g eg => ?_⟩
  · refine Nat.le_trans (cutI_len _ _ _) ?_
    show row.length ≤ 200
    omega
  have eg : g = ledL (cutI row none (some (cn : Int))) z p := eg
  rw [cutI_to] at eg
  obtain ⟨g1, g2, gL⟩ := led_ok (xs := row.take cn) hp zc
  have gb := led_b (xs := row.take cn) (z := z) (p := p) (B := 10 ^ 60) (by decide +kernel) (take_b rb cn)
  rw [← eg] at g1 g2 gL gb
  have gl : g.length ≤ 64 := by rw [List.length_take] at g2; omega
  have gb : ∀ m ∈ g, m.natAbs ≤ 2 ^ 200 := fun m hm => Nat.le_trans (gb m hm) up1
  have rb : ∀ m ∈ row, m.natAbs ≤ 2 ^ 200 := fun m hm => Nat.le_trans (rb m hm) (Nat.le_trans (Nat.le_succ _) up1)
  have gbut : ∀ x : Int, x.natAbs ≤ 2 ^ 200 → ∀ m ∈ g.dropLast ++ [x], m.natAbs ≤ 2 ^ 200 := fun x hx m hm => by
    rcases List.mem_append.mp hm with h | h
    · exact gb m (by rw [List.dropLast_eq_take] at h; exact List.mem_of_mem_take h)
    · rw [List.mem_singleton.mp h]; exact hx
  have le200 : ∀ x : Int, x.natAbs ≤ 2 ^ 40 → x.natAbs ≤ 2 ^ 200 := fun x hx => Nat.le_trans hx (Nat.pow_le_pow_right (by decide) (by decide))
  clear eg g2
  refine ⟨⟨⟨rfl, True.intro, by show (0 : Int) < 120; decide, dlog (by decide)⟩, True.intro, by show (0 : Int) < 7; decide⟩, fun way eway => ?_⟩
  clear eway
  refine to_lit (ρ' := [.fr (.scr ns), .fr (.int hd), .fr (.int p), .fr (.int many), .fr (.int z), .fr (.ob 0 z), .fr (.ints row), .fr (.int (cn : Int)), .fr (.int (rn : Int)), .fr (.ints g), .fr (.int way), .un, .un, .un, .un, .un]) rfl ?_
  refine ⟨⟨rfl, True.intro⟩, fun q => ?_, fun q => ?_⟩
  · clear q
    have k4 : 0 ≤ hd / 840 % 4 ∧ hd / 840 % 4 < 4 := by omega
    refine ⟨⟨⟨rfl, rfl, ⟨⟨⟨rfl, True.intro⟩, True.intro⟩, ⟨⟨rfl, True.intro, by show (0 : Int) < 840; decide, dlog (by decide)⟩, True.intro, by show (0 : Int) < 4; decide⟩, ?_, ?_⟩, True.intro⟩, ?_⟩, rfl⟩
    · show -(2 : Int) ^ 63 ≤ hd / 840 % 4
      omega
    · show (hd / 840 % 4).toNat ≤ 1000
      omega
    · show preD [.ob 0 z, .ints row, .ints (List.replicate (hd / 840 % 4).toNat z)] ∧ F_dv cNO [.ob 0 z, .ints row, .ints (List.replicate (hd / 840 % 4).toNat z)] = .err cNO
      refine ⟨⟨z, _, _, rfl, z02, hz9, by omega, by rw [List.length_replicate]; omega, fun e => ⟨fun m hm => le600 (rb m hm) (by decide), fun m hm => ?_⟩⟩, dv_nought⟩
      rw [List.eq_of_mem_replicate hm, e]
      exact Nat.zero_le _
  clear q
  refine ⟨⟨⟨rfl, True.intro⟩, fun _ => ⟨⟨rfl, True.intro, by show (0 : Int) < 3; decide⟩, True.intro⟩⟩, fun q => ?_, fun q => ?_⟩
  · have q : way = 2 ∧ ¬ hd % 3 = 1 := q
    have q3 : hd % 3 = 0 ∨ hd % 3 = 2 := by omega
    have mo : IntMulOk p (hd % 3 / 2) := mul_okR ⟨by omega, by omega⟩
    refine ⟨⟨⟨rfl, True.intro, True.intro⟩, ⟨⟨⟨True.intro, rfl, ⟨⟨rfl, True.intro, by show (0 : Int) < 3; decide⟩, True.intro, by show (0 : Int) < 2; decide, dlog (by decide)⟩, mo⟩, True.intro⟩, True.intro⟩, ?_⟩, fun gg egg => ?_⟩
    · show (cutI g none (some (-1))).length + 1 ≤ sizeLine
      have := cutI_len g none (some (-1))
      exact sz (by omega)
    have egg : gg = cutI g none (some (-1)) ++ [if p * (hd % 3 / 2) > 2 then p * (hd % 3 / 2) else 2] := egg
    rw [cutI_but] at egg
    obtain ⟨L, eL, hL0, hL2⟩ : ∃ L : Int, (if p * (hd % 3 / 2) > 2 then p * (hd % 3 / 2) else 2) = L ∧ (hd % 3 = 0 → L = 2) ∧ (hd % 3 = 2 → L = p) := by
      refine ⟨_, rfl, fun e => ?_, fun e => ?_⟩
      · rw [e]
        show (if p * 0 > 2 then p * 0 else 2) = 2
        rw [Int.mul_zero]
        rfl
      · rw [e]
        show (if p * 1 > 2 then p * 1 else 2) = p
        rw [Int.mul_one]
        split <;> omega
    rw [eL] at egg
    obtain ⟨l1, l2⟩ := but_snoc (x := L) g1
    rw [← egg] at l1 l2
    have Lb : L.natAbs ≤ 2 ^ 200 := le200 L (by
      have e40 : (2 : Nat) ^ 40 = 1099511627776 := by decide
      rw [e40]
      rcases q3 with e | e
      · rw [hL0 e]; decide
      · rw [hL2 e]; omega)
    have ggb : ∀ m ∈ gg, m.natAbs ≤ 2 ^ 200 := by rw [egg]; exact gbut L Lb
    refine ⟨⟨⟨rfl, rfl, True.intro⟩, ⟨⟨True.intro, True.intro⟩, True.intro⟩, ?_⟩, fun ff eff => ?_⟩
    · show (cutI row (some (cn : Int)) none).length + 1 ≤ sizeLine
      have := cutI_len row (some (cn : Int)) none
      exact sz (by omega)
    have eff : ff = cutI row (some (cn : Int)) none ++ [1] := eff
    rw [cutI_from] at eff
    have lff : ff.length ≤ 64 := by rw [eff, List.length_append, List.length_drop, List.length_singleton]; omega
    have lf1 : lastI ff = 1 := by rw [eff]; exact lastI_snoc _ _
    have ffb : ∀ m ∈ ff, m.natAbs ≤ 2 ^ 200 := fun m hm => by
      rw [eff] at hm
      rcases List.mem_append.mp hm with h | h
      · exact rb m (List.mem_of_mem_drop h)
      · rw [List.mem_singleton.mp h]; exact Nat.one_le_two_pow
    have pre : preD [.ob 0 z, .ints ff, .ints gg] := ⟨z, _, _, rfl, z02, hz9, by omega, by omega, fun _ => ⟨fun m hm => le600 (ffb m hm) (by decide), ggb⟩⟩
    have pL : pl z L = L ∧ L ≠ 0 ∧ ov z 1 L = none := by
      rcases q3 with e | e
      · rw [w0 e, hL0 e]
        refine ⟨rfl, by decide, ?_⟩
        unfold ov
        rw [if_pos rfl, if_pos (.inr (by decide))]
      · have m1 : 1 ≤ many.toNat := by omega
        obtain ⟨k, ek⟩ : ∃ k, many.toNat = k + 1 + 1 := ⟨many.toNat - 2, by omega⟩
        have zb := (pow_two hp (show 1 ≤ k + 1 by omega)).1
        have zl : p < z := by
          rw [w2 e, ek, Int.pow_succ]
          have := Int.mul_le_mul_of_nonneg_right zb (show 0 ≤ p by omega)
          omega
        rw [hL2 e]
        refine ⟨by rw [pl_pos (by omega)]; exact Int.emod_eq_of_lt (by omega) zl, by omega, ?_⟩
        unfold ov
        rw [if_neg (by omega), if_neg]
        rw [w2 e]
        exact gcd_pow_no hp (Int.emod_self) m1
    have p1 : pl z 1 = 1 := by
      rcases z02 with e | e
      · rw [e]; rfl
      · rw [pl_pos (by omega)]; exact Int.emod_eq_of_lt (by omega) (by omega)
    refine to_lit (ρ' := [.fr (.scr ns), .fr (.int hd), .fr (.int p), .fr (.int many), .fr (.int z), .fr (.ob 0 z), .fr (.ints row), .fr (.int (cn : Int)), .fr (.int (rn : Int)), .fr (.ints gg), .fr (.int way), .fr (.ints ff), .un, .un, .un, .un]) rfl ?_
    refine ⟨⟨.inl rfl, .inl rfl⟩, fun k => ?_, fun k => ?_⟩
    · have k : (gg.length : Int) ≤ (ff.length : Int) := k
      refine ⟨⟨⟨rfl, rfl, rfl, True.intro⟩, ?_⟩, rfl⟩
      show preD [.ob 0 z, .ints ff, .ints gg] ∧ F_dv cNO [.ob 0 z, .ints ff, .ints gg] = .err cNO
      refine ⟨pre, dv_bad (by omega) (by omega) (by rw [lf1, p1]; decide) (by rw [l2, pL.1]; exact pL.2.1) ?_⟩
      rw [lf1, l2, p1, pL.1]
      exact pL.2.2
    · have k : ¬ (gg.length : Int) ≤ (ff.length : Int) := k
      have ed : F_dv cNO [.ob 0 z, .ints ff, .ints gg] = .val (.tup [.ints [], .ints (Tz z ff)]) := dv_short (by omega) (by rw [l2, pL.1]; exact pL.2.1)
      have lt := Tz_len z ff
      refine ⟨⟨⟨⟨⟨rfl, rfl, rfl, True.intro⟩, pre, ?_⟩, ⟨True.intro, True.intro⟩, ⟨⟨rfl, rfl, True.intro⟩, ff, z, rfl, hz0, by omega⟩, True.intro⟩, [], Tz z ff, ?_, by show 0 ≤ 1000; omega, by omega⟩, rfl⟩
      · show (F_dv cNO [.ob 0 z, .ints ff, .ints gg]).isV
        rw [ed]; exact True.intro
      · show [(F_dv cNO [.ob 0 z, .ints ff, .ints gg]).get, PV.ints [], PV.ints (Tz z ff)] = [PV.tup [.ints [], .ints (Tz z ff)], PV.ints [], PV.ints (Tz z ff)]
        rw [ed]
        rfl
  clear q
  refine ⟨⟨⟨⟨rfl, rfl, True.intro⟩, rfl, True.intro⟩, _, z, rfl, hz0, ?_⟩, fun qu equ => ?_⟩
  · refine Nat.le_trans (cutI_len _ _ _) ?_
    show row.length ≤ 1000
    omega
  have equ : qu = Tz z (cutI row (some (rn : Int)) none) := equ
  rw [cutI_from] at equ
  have quf : InForm qu := by rw [equ]; exact Tz_form _ _
  have qur : ∀ n, pl z (qu.getD n 0) = qu.getD n 0 := by rw [equ]; exact Tz_red _ _
  have qul : qu.length ≤ 63 := by
    rw [equ]
    refine Nat.le_trans (Tz_len _ _) ?_
    rw [List.length_drop]
    omega
  have qub : z = 0 → ∀ m ∈ qu, m.natAbs ≤ 2 ^ 200 := fun e => by
    rw [equ, e]
    exact Tz0_b (drop_b rb rn)
  have qub9 : ∀ m ∈ qu, m.natAbs < 2 ^ 9000 := fun m hm => by
    rcases z02 with e | e
    · exact le9000 (qub e m hm) (by decide)
    · refine red_b e hz9 ?_
      rw [equ] at hm
      exact Tz_red' hm
  clear equ
  refine ⟨⟨⟨rfl, True.intro⟩, fun _ => ⟨⟨rfl, True.intro, by show (0 : Int) < 3; decide⟩, True.intro⟩⟩, fun q => ?_, fun q => ?_⟩
  · have q : way = 3 ∧ hd % 3 = 0 := q
    have z0 := w0 q.2
    have m0 := Int.emod_nonneg (hd / 840) (show (10 : Int) ^ 9 ≠ 0 by decide)
    have m1 := Int.emod_lt_of_pos (hd / 840) (show (0 : Int) < 10 ^ 9 by decide)
    have Lb : (2 + hd / 840 % 10 ^ 9).natAbs ≤ 2 ^ 200 := le200 _ (by
      have e40 : (2 : Nat) ^ 40 = 1099511627776 := by decide
      have e9 : (10 : Int) ^ 9 = 1000000000 := by decide
      rw [e40]
      rw [e9] at m0 m1 ⊢
      omega)
    have q1l : 0 < (qu ++ [1]).length := by rw [List.length_append, List.length_singleton]; omega
    have q1l2 : (qu ++ [1]).length ≤ 64 := by rw [List.length_append, List.length_singleton]; omega
    have q1b : ∀ m ∈ qu ++ [1], m.natAbs ≤ 2 ^ 200 := fun m hm => by
      rcases List.mem_append.mp hm with h | h
      · exact qub z0 m h
      · rw [List.mem_singleton.mp h]; exact Nat.one_le_two_pow
    obtain ⟨gl1, _⟩ := but_snoc (x := 2 + hd / 840 % 10 ^ 9) g1
    obtain ⟨k, _, al, aget⟩ := amiss_get (n := hd / 840) q1l g1 (lastI_snoc qu 1)
    have afl : (amissF (qu ++ [1]) g (hd / 840)).length ≤ 128 := by
      unfold amissF
      refine Nat.le_trans (Tz_len _ _) ?_
      unfold convL
      rw [List.length_map, List.length_range, gl1]
      omega
    refine ⟨⟨⟨rfl, ⟨⟨⟨rfl, ⟨⟨True.intro, True.intro⟩, True.intro⟩, ?_⟩, rfl, ⟨rfl, True.intro, by show (0 : Int) < 840; decide, dlog (by decide)⟩, True.intro⟩, qu ++ [1], g, hd / 840, rfl, q1l, by omega, g1, by omega, fun m hm => le9000 (q1b m hm) (by decide), fun m hm => le9000 (gb m hm) (by decide), amiss_at q1l g1 (lastI_snoc qu 1)⟩, ⟨⟨rfl, True.intro, True.intro⟩, ⟨⟨⟨True.intro, ⟨rfl, True.intro, by show (0 : Int) < 840; decide, dlog (by decide)⟩, by walk_at "xs", by show (0 : Int) < 10 ^ 9; decide⟩, True.intro⟩, True.intro⟩, ?_⟩, True.intro⟩, ?_⟩, rfl⟩
    · show qu.length + 1 ≤ sizeLine
      exact sz (by omega)
    · show (cutI g none (some (-1))).length + 1 ≤ sizeLine
      have := cutI_len g none (some (-1))
      exact sz (by omega)
    · show preD [.ob 0 z, .ints (amissL (qu ++ [1]) g (hd / 840)), .ints (cutI g none (some (-1)) ++ [2 + hd / 840 % 10 ^ 9])] ∧ F_dv cNO [.ob 0 z, .ints (amissL (qu ++ [1]) g (hd / 840)), .ints (cutI g none (some (-1)) ++ [2 + hd / 840 % 10 ^ 9])] = .err cNO
      rw [cutI_but]
      refine ⟨⟨z, _, _, rfl, z02, hz9, by omega, by omega, fun _ => ⟨fun m hm => ?_, gbut _ Lb⟩⟩, ?_⟩
      · obtain ⟨i, _, rfl⟩ := FM.mem_getD hm
        rw [aget]
        have h1 := cm_600 (q := qu ++ [1]) (g := g.dropLast ++ [2 + hd / 840 % 10 ^ 9]) (by omega) q1b (gbut _ Lb) i
        have h2 : (2 : Nat) ^ 500 + 1 ≤ 2 ^ 600 := by decide +kernel
        generalize cm (qu ++ [1]) (g.dropLast ++ [2 + hd / 840 % 10 ^ 9]) i = u at h1 ⊢
        generalize (2 : Nat) ^ 500 = A at h1 h2
        generalize (2 : Nat) ^ 600 = B at h2 ⊢
        split <;> omega
      · show dvR cNO z (Tz z (amissL (qu ++ [1]) g (hd / 840))) (Tz z (g.dropLast ++ [2 + hd / 840 % 10 ^ 9])) = .err cNO
        rw [z0]
        exact dv_amiss q1l g1 (lastI_snoc qu 1)
  clear q
  refine ⟨⟨⟨⟨⟨rfl, rfl, rfl⟩, True.intro, ⟨.inl rfl, True.intro⟩⟩, rfl, True.intro⟩, _, z, rfl, hz0, ?_⟩, fun re ere => ?_⟩
  · refine Nat.le_trans (cutI_len _ _ _) (Nat.le_trans (cutI_len _ _ _) ?_)
    show row.length ≤ 1000
    omega
  have ere : re = Tz z (cutI (cutI row (some (cn : Int)) (some (rn : Int))) none (some ((g.length : Int) - 1))) := ere
  rw [show (g.length : Int) - 1 = ((g.length - 1 : Nat) : Int) by omega, cutI_to, cutI_mid] at ere
  have ref : InForm re := by rw [ere]; exact Tz_form _ _
  have rer : ∀ n, pl z (re.getD n 0) = re.getD n 0 := by rw [ere]; exact Tz_red _ _
  have rel : re.length < g.length := by
    rw [ere]
    refine Nat.lt_of_le_of_lt (Tz_len _ _) ?_
    rw [List.length_take]
    omega
  have reb : z = 0 → ∀ m ∈ re, m.natAbs ≤ 2 ^ 200 := fun e => by
    rw [ere, e]
    exact Tz0_b (take_b (take_b (drop_b rb cn) _) _)
  clear ere
  refine to_lit (ρ' := [.fr (.scr ns), .fr (.int hd), .fr (.int p), .fr (.int many), .fr (.int z), .fr (.ob 0 z), .fr (.ints row), .fr (.int (cn : Int)), .fr (.int (rn : Int)), .fr (.ints g), .fr (.int way), .un, .fr (.ints qu), .fr (.ints re), .un, .un]) rfl ?_
  have tl : (Tz z (convL qu g)).length ≤ 130 := by
    refine Nat.le_trans (Tz_len _ _) ?_
    unfold convL
    rw [List.length_map, List.length_range]
    omega
  refine ⟨⟨⟨⟨⟨rfl, rfl, rfl, True.intro⟩, qu, g, z, rfl, hz0, by omega, qub9, fun m hm => le9000 (gb m hm) (by decide)⟩, rfl, rfl, True.intro⟩, _, re, z, rfl, hz0, ?_, by omega⟩, fun f1 ef1 => ?_⟩
  · show (Tz z (convL qu g)).length ≤ 400
    omega
  have ef1 : f1 = Tz z (addL (Tz z (convL qu g)) re) := ef1
  have f1g : ∀ n, pl z (f1.getD n 0) = pl z (cm qu g n + re.getD n 0) := fun n => by
    rw [ef1, Tz_get, pl_pl, addL_get, Tz_get, convL_get, pl_add]
  have f1l : f1.length ≤ 130 := by
    rw [ef1]
    refine Nat.le_trans (Tz_len _ _) ?_
    unfold addL
    rw [List.length_map, List.length_range]
    omega
  have f1b : z = 0 → ∀ m ∈ f1, m.natAbs ≤ 2 ^ 600 := fun e m hm => by
    obtain ⟨n, _, rfl⟩ := FM.mem_getD hm
    have h := f1g n
    rw [e] at h
    rw [pl_zero, pl_zero] at h
    rw [h]
    have h1 := cm_600 (q := qu) (g := g) (by omega) (qub e) gb n
    have h2 := getD_b (reb e) n
    have h3 := Int.natAbs_add_le (cm qu g n) (re.getD n 0)
    have h4 : (2 : Nat) ^ 500 + 2 ^ 200 ≤ 2 ^ 600 := by decide +kernel
    generalize (2 : Nat) ^ 500 = A at *
    generalize (2 : Nat) ^ 200 = B at *
    generalize (2 : Nat) ^ 600 = D at *
    omega
  clear ef1
  have dvz : ∀ (i : Nat) (n : Int), z ∣ n + z * ((i : Int) % 3 - 1) - n := fun i n => by
    have e : n + z * ((i : Int) % 3 - 1) - n = z * ((i : Int) % 3 - 1) := by omega
    rw [e]
    exact Int.dvd_mul_right _ _
  have dvz' : ∀ (i : Nat) (n : Int), z ∣ n - z * ((i : Int) % 3 - 1) - n := fun i n => by
    have e : n - z * ((i : Int) % 3 - 1) - n = 0 - z * ((i : Int) % 3 - 1) := by omega
    rw [e]
    exact Int.dvd_sub (Int.dvd_zero z) (Int.dvd_mul_right _ _)
  have ka : 0 ≤ hd / 3360 % 3 ∧ hd / 3360 % 3 < 3 := by omega
  have kb : 0 ≤ hd / 10080 % 3 ∧ hd / 10080 % 3 < 3 := by omega
  have mk : ∀ i : Nat, IntMulOk z ((i : Int) % 3 - 1) := fun i => mul_okR ⟨by omega, by omega⟩
  refine ⟨⟨⟨rfl, ?_, fun k n _ => ⟨rfl, rfl, ⟨⟨rfl, True.intro, by show (0 : Int) < 3; decide⟩, True.intro⟩, mk k⟩⟩, ⟨⟨⟨rfl, True.intro⟩, True.intro⟩, ⟨⟨rfl, True.intro, by show (0 : Int) < 3360; decide, dlog (by decide)⟩, True.intro, by show (0 : Int) < 3; decide⟩, ?_, ?_⟩, ?_⟩, fun f2 ef2 => ?_⟩
  · show f1.length ≤ 1000
    omega
  · show -(2 : Int) ^ 63 ≤ hd / 3360 % 3
    omega
  · show (hd / 3360 % 3).toNat ≤ 1000
    omega
  · show (f1.mapIdx fun k n => n + z * ((k : Int) % 3 - 1)).length + (List.replicate (hd / 3360 % 3).toNat z).length ≤ sizeLine
    rw [List.length_mapIdx, List.length_replicate]
    exact sz (by omega)
  have ef2 : f2 = (f1.mapIdx fun k n => n + z * ((k : Int) % 3 - 1)) ++ List.replicate (hd / 3360 % 3).toNat z := ef2
  have f2g : ∀ n, pl z (f2.getD n 0) = pl z (cm qu g n + re.getD n 0) := fun n => by rw [ef2, mov_get dvz, f1g]
  have f2l : f2.length ≤ 140 := by rw [ef2, List.length_append, List.length_mapIdx, List.length_replicate]; omega
  have f2b : z = 0 → ∀ m ∈ f2, m.natAbs ≤ 2 ^ 600 := fun e m hm => by
    obtain ⟨n, _, rfl⟩ := FM.mem_getD hm
    have h := mov_get (xs := f1) (k := (hd / 3360 % 3).toNat) dvz n
    rw [← ef2, e, pl_zero, pl_zero] at h
    rw [h]
    exact getD_b (f1b e) n
  clear ef2
  refine to_lit (ρ' := [.fr (.scr ns), .fr (.int hd), .fr (.int p), .fr (.int many), .fr (.int z), .fr (.ob 0 z), .fr (.ints row), .fr (.int (cn : Int)), .fr (.int (rn : Int)), .fr (.ints g), .fr (.int way), .fr (.ints f2), .fr (.ints qu), .fr (.ints re), .un, .un]) rfl ?_
  refine ⟨⟨⟨rfl, ?_, fun k n _ => ⟨rfl, rfl, ⟨⟨rfl, True.intro, by show (0 : Int) < 3; decide⟩, True.intro⟩, mk k⟩⟩, ⟨⟨⟨rfl, True.intro⟩, True.intro⟩, ⟨⟨rfl, True.intro, by show (0 : Int) < 10080; decide, dlog (by decide)⟩, True.intro, by show (0 : Int) < 3; decide⟩, ?_, ?_⟩, ?_⟩, fun g2 eg2 => ?_⟩
  · show g.length ≤ 1000
    omega
  · show -(2 : Int) ^ 63 ≤ hd / 10080 % 3
    omega
  · show (hd / 10080 % 3).toNat ≤ 1000
    omega
  · show (g.mapIdx fun k n => n - z * ((k : Int) % 3 - 1)).length + (List.replicate (hd / 10080 % 3).toNat z).length ≤ sizeLine
    rw [List.length_mapIdx, List.length_replicate]
    exact sz (by omega)
  have eg2 : g2 = (g.mapIdx fun k n => n - z * ((k : Int) % 3 - 1)) ++ List.replicate (hd / 10080 % 3).toNat z := eg2
  have g2g : ∀ n, pl z (g2.getD n 0) = pl z (g.getD n 0) := fun n => by rw [eg2, mov_get dvz']
  have g2l : g2.length ≤ 140 := by rw [eg2, List.length_append, List.length_mapIdx, List.length_replicate]; omega
  have g2b : z = 0 → ∀ m ∈ g2, m.natAbs ≤ 2 ^ 200 := fun e m hm => by
    obtain ⟨n, _, rfl⟩ := FM.mem_getD hm
    have h := g2g n
    rw [e, pl_zero, pl_zero] at h
    rw [h]
    exact getD_b gb n
  clear eg2
  refine ⟨rfl, rfl, rfl, ?_⟩
  refine to_lit (ρ' := [.fr (.scr ns), .fr (.int hd), .fr (.int p), .fr (.int many), .fr (.int z), .fr (.ob 0 z), .fr (.ints row), .fr (.int (cn : Int)), .fr (.int (rn : Int)), .fr (.ints g2), .fr (.int way), .fr (.ints f2), .fr (.ints qu), .fr (.ints re), .o2 f2 g2, .un]) rfl ?_
  have pre : preD [.ob 0 z, .ints f2, .ints g2] := ⟨z, _, _, rfl, z02, hz9, by omega, by omega, fun e => ⟨f2b e, g2b e⟩⟩
  have ed : F_dv cNO [.ob 0 z, .ints f2, .ints g2] = .val (.tup [.ints qu, .ints re]) := dv_back g1 gL g2g f2g quf qur ref rer rel
  refine ⟨⟨⟨rfl, rfl, rfl, True.intro⟩, pre, ?_⟩, fun fo efo => ?_⟩
  · show (F_dv cNO [.ob 0 z, .ints f2, .ints g2]).isV
    rw [ed]; exact True.intro
  have efo : fo = .tup [.ints qu, .ints re] := by
    have efo : fo = (F_dv cNO [.ob 0 z, .ints f2, .ints g2]).get := efo
    rw [ed] at efo
    exact efo
  subst efo
  refine ⟨⟨⟨⟨rfl, rfl, True.intro⟩, f2, f2, rfl, by omega⟩, fun _ => ⟨⟨rfl, rfl, True.intro⟩, g2, g2, rfl, by omega⟩⟩, fun q => ?_, fun q => ?_⟩
  · have q : ¬ (decide (f2 = f2)) = true ∨ ¬ (decide (g2 = g2)) = true := q
    rcases q with q | q <;> exact absurd (decide_eq_true rfl) q
  clear q
  refine ⟨rfl, True.intro, ?_, ?_⟩
  · show f2.length < sizeLine
    exact small1000 (by omega)
  refine to_lit (ρ' := [.fr (.scr ns), .fr (.int hd), .fr (.int p), .fr (.int many), .fr (.int z), .fr (.ob 0 z), .fr (.ints row), .fr (.int (cn : Int)), .fr (.int (rn : Int)), .fr (.ints g2), .fr (.int way), .fr (.ints f2), .fr (.ints qu), .fr (.ints re), .o2 (f2 ++ [1]) g2, .fr (.tup [.ints qu, .ints re])]) rfl ?_
  refine ⟨rfl, True.intro, ?_, ?_⟩
  · show g2.length < sizeLine
    exact small1000 (by omega)
  refine to_lit (ρ' := [.fr (.scr ns), .fr (.int hd), .fr (.int p), .fr (.int many), .fr (.int z), .fr (.ob 0 z), .fr (.ints row), .fr (.int (cn : Int)), .fr (.int (rn : Int)), .fr (.ints g2), .fr (.int way), .fr (.ints f2), .fr (.ints qu), .fr (.ints re), .o2 (f2 ++ [1]) (g2 ++ [1]), .fr (.tup [.ints qu, .ints re])]) rfl ?_
  exact ⟨⟨⟨rfl, rfl, rfl, True.intro⟩, qu, re, rfl, by omega, by omega⟩, rfl⟩

end
theorem all_mk {l : PySem.W.OpenLaw} {w : World} {K : PySem.W.Frag} {h : Heap} {mg : Str → Option Value} {fa : Addr} {cFE : Addr} {cNO : Addr} {cK : Addr} {cW : Addr} {cR : Addr} {cP : Addr} (X : K.In h) (G : h.Ns mainGlobals mg) (hfa : mg "law" = some (.ref fa))
    {f0 : Addr} {od0 an0 : Option Addr} {sl0 : Array (Option Value)} {oc0 kV0 dc0 pm0 cd0 ct0 : Value}
    {f1 : Addr} {od1 an1 : Option Addr} {sl1 : Array (Option Value)} {oc1 kV1 dc1 pm1 cd1 ct1 : Value}
    {f2 : Addr} {od2 an2 : Option Addr} {sl2 : Array (Option Value)} {oc2 kV2 dc2 pm2 cd2 ct2 : Value}
    {f3 : Addr} {od3 an3 : Option Addr} {sl3 : Array (Option Value)} {oc3 kV3 dc3 pm3 cd3 ct3 : Value}
    {f4 : Addr} {od4 an4 : Option Addr} {sl4 : Array (Option Value)} {oc4 kV4 dc4 pm4 cd4 ct4 : Value}
    {f5 : Addr} {od5 an5 : Option Addr} {sl5 : Array (Option Value)} {oc5 kV5 dc5 pm5 cd5 ct5 : Value}
    {f6 : Addr} {od6 an6 : Option Addr} {sl6 : Array (Option Value)} {oc6 kV6 dc6 pm6 cd6 ct6 : Value}
    {f7 : Addr} {od7 an7 : Option Addr} {sl7 : Array (Option Value)} {oc7 kV7 dc7 pm7 cd7 ct7 : Value}
    {f8 : Addr} {od8 an8 : Option Addr} {sl8 : Array (Option Value)} {oc8 kV8 dc8 pm8 cd8 ct8 : Value}
    {f9 : Addr} {od9 an9 : Option Addr} {sl9 : Array (Option Value)} {oc9 kV9 dc9 pm9 cd9 ct9 : Value}
    {f10 : Addr} {od10 an10 : Option Addr} {sl10 : Array (Option Value)} {oc10 kV10 dc10 pm10 cd10 ct10 : Value}
    {f11 : Addr} {od11 an11 : Option Addr} {sl11 : Array (Option Value)} {oc11 kV11 dc11 pm11 cd11 ct11 : Value}
    {f12 : Addr} {od12 an12 : Option Addr} {sl12 : Array (Option Value)} {oc12 kV12 dc12 pm12 cd12 ct12 : Value}
    {f13 : Addr} {od13 an13 : Option Addr} {sl13 : Array (Option Value)} {oc13 kV13 dc13 pm13 cd13 ct13 : Value}
    {f14 : Addr} {od14 an14 : Option Addr} {sl14 : Array (Option Value)} {oc14 kV14 dc14 pm14 cd14 ct14 : Value}
    {f15 : Addr} {od15 an15 : Option Addr} {sl15 : Array (Option Value)} {oc15 kV15 dc15 pm15 cd15 ct15 : Value}
    {f16 : Addr} {od16 an16 : Option Addr} {sl16 : Array (Option Value)} {oc16 kV16 dc16 pm16 cd16 ct16 : Value}
    {f17 : Addr} {od17 an17 : Option Addr} {sl17 : Array (Option Value)} {oc17 kV17 dc17 pm17 cd17 ct17 : Value}
    {f18 : Addr} {od18 an18 : Option Addr} {sl18 : Array (Option Value)} {oc18 kV18 dc18 pm18 cd18 ct18 : Value}
    {f19 : Addr} {od19 an19 : Option Addr} {sl19 : Array (Option Value)} {oc19 kV19 dc19 pm19 cd19 ct19 : Value}
    {f20 : Addr} {od20 an20 : Option Addr} {sl20 : Array (Option Value)} {oc20 kV20 dc20 pm20 cd20 ct20 : Value}
    {f21 : Addr} {od21 an21 : Option Addr} {sl21 : Array (Option Value)} {oc21 kV21 dc21 pm21 cd21 ct21 : Value}
    {f22 : Addr} {od22 an22 : Option Addr} {sl22 : Array (Option Value)} {oc22 kV22 dc22 pm22 cd22 ct22 : Value}
    {f23 : Addr} {od23 an23 : Option Addr} {sl23 : Array (Option Value)} {oc23 kV23 dc23 pm23 cd23 ct23 : Value}
    {f24 : Addr} {od24 an24 : Option Addr} {sl24 : Array (Option Value)} {oc24 kV24 dc24 pm24 cd24 ct24 : Value}
    {tk0 : Tok}
    {tk1 : Tok}
    {fm0 : Addr} {odm0 anm0 : Option Addr} {slm0 : Array (Option Value)} {ocm0 kVm0 dcm0 pmm0 cdm0 ctm0 : Value}
    {fm1 : Addr} {odm1 anm1 : Option Addr} {slm1 : Array (Option Value)} {ocm1 kVm1 dcm1 pmm1 cdm1 ctm1 : Value}
    {fm2 : Addr} {odm2 anm2 : Option Addr} {slm2 : Array (Option Value)} {ocm2 kVm2 dcm2 pmm2 cdm2 ctm2 : Value}
    {fm3 : Addr} {odm3 anm3 : Option Addr} {slm3 : Array (Option Value)} {ocm3 kVm3 dcm3 pmm3 cdm3 ctm3 : Value}
    {fm4 : Addr} {odm4 anm4 : Option Addr} {slm4 : Array (Option Value)} {ocm4 kVm4 dcm4 pmm4 cdm4 ctm4 : Value}
    {fm5 : Addr} {odm5 anm5 : Option Addr} {slm5 : Array (Option Value)} {ocm5 kVm5 dcm5 pmm5 cdm5 ctm5 : Value}
    {fm6 : Addr} {odm6 anm6 : Option Addr} {slm6 : Array (Option Value)} {ocm6 kVm6 dcm6 pmm6 cdm6 ctm6 : Value}
    {fm7 : Addr} {odm7 anm7 : Option Addr} {slm7 : Array (Option Value)} {ocm7 kVm7 dcm7 pmm7 cdm7 ctm7 : Value}
    (a0 : PySem.W.nsIn K mainGlobals "cut_noughts" = some (some (.ref f0)))
    (l0 : K.lookup f0 = some ⟨oc0, od0, .func (PySem.W.fnOf "cut_noughts" "cut_noughts" (defArgs s_cut_noughts) (defBody s_cut_noughts) (defScope s_cut_noughts) .none kV0 dc0 pm0 an0 cd0 ct0), sl0⟩)
    (c0 : PySem.W.codeIn K cd0 "cut_noughts" = true) (k0 : PySem.W.keepIn K (.ref f0) = true)
    (a1 : PySem.W.nsIn K mainGlobals "trimmed" = some (some (.ref f1)))
    (l1 : K.lookup f1 = some ⟨oc1, od1, .func (PySem.W.fnOf "trimmed" "trimmed" (defArgs s_trimmed) (defBody s_trimmed) (defScope s_trimmed) .none kV1 dc1 pm1 an1 cd1 ct1), sl1⟩)
    (c1 : PySem.W.codeIn K cd1 "trimmed" = true) (k1 : PySem.W.keepIn K (.ref f1) = true)
    (a2 : PySem.W.nsIn K mainGlobals "divided" = some (some (.ref f2)))
    (l2 : K.lookup f2 = some ⟨oc2, od2, .func (PySem.W.fnOf "divided" "divided" (defArgs s_divided) (defBody s_divided) (defScope s_divided) .none kV2 dc2 pm2 an2 cd2 ct2), sl2⟩)
    (c2 : PySem.W.codeIn K cd2 "divided" = true) (k2 : PySem.W.keepIn K (.ref f2) = true)
    (a3 : PySem.W.nsIn K mainGlobals "is_prime" = some (some (.ref f3)))
    (l3 : K.lookup f3 = some ⟨oc3, od3, .func (PySem.W.fnOf "is_prime" "is_prime" (defArgs s_is_prime) (defBody s_is_prime) (defScope s_is_prime) .none kV3 dc3 pm3 an3 cd3 ct3), sl3⟩)
    (c3 : PySem.W.codeIn K cd3 "is_prime" = true) (k3 : PySem.W.keepIn K (.ref f3) = true)
    (a4 : PySem.W.nsIn K mainGlobals "turned" = some (some (.ref f4)))
    (l4 : K.lookup f4 = some ⟨oc4, od4, .func (PySem.W.fnOf "turned" "turned" (defArgs s_turned) (defBody s_turned) (defScope s_turned) .none kV4 dc4 pm4 an4 cd4 ct4), sl4⟩)
    (c4 : PySem.W.codeIn K cd4 "turned" = true) (k4 : PySem.W.keepIn K (.ref f4) = true)
    (a5 : PySem.W.nsIn K mainGlobals "refuse_no_prime" = some (some (.ref f5)))
    (l5 : K.lookup f5 = some ⟨oc5, od5, .func (PySem.W.fnOf "refuse_no_prime" "refuse_no_prime" (defArgs s_refuse_no_prime) (defBody s_refuse_no_prime) (defScope s_refuse_no_prime) .none kV5 dc5 pm5 an5 cd5 ct5), sl5⟩)
    (c5 : PySem.W.codeIn K cd5 "refuse_no_prime" = true) (k5 : PySem.W.keepIn K (.ref f5) = true)
    (a6 : PySem.W.nsIn K mainGlobals "taken_times" = some (some (.ref f6)))
    (l6 : K.lookup f6 = some ⟨oc6, od6, .func (PySem.W.fnOf "taken_times" "taken_times" (defArgs s_taken_times) (defBody s_taken_times) (defScope s_taken_times) .none kV6 dc6 pm6 an6 cd6 ct6), sl6⟩)
    (c6 : PySem.W.codeIn K cd6 "taken_times" = true) (k6 : PySem.W.keepIn K (.ref f6) = true)
    (a7 : PySem.W.nsIn K mainGlobals "_law_cell_at" = some (some (.ref f7)))
    (l7 : K.lookup f7 = some ⟨oc7, od7, .func (PySem.W.fnOf "_law_cell_at" "_law_cell_at" (defArgs s_cell_at) (defBody s_cell_at) (defScope s_cell_at) .none kV7 dc7 pm7 an7 cd7 ct7), sl7⟩)
    (c7 : PySem.W.codeIn K cd7 "_law_cell_at" = true) (k7 : PySem.W.keepIn K (.ref f7) = true)
    (a8 : PySem.W.nsIn K mainGlobals "_law_head" = some (some (.ref f8)))
    (l8 : K.lookup f8 = some ⟨oc8, od8, .func (PySem.W.fnOf "_law_head" "_law_head" (defArgs s_head) (defBody s_head) (defScope s_head) .none kV8 dc8 pm8 an8 cd8 ct8), sl8⟩)
    (c8 : PySem.W.codeIn K cd8 "_law_head" = true) (k8 : PySem.W.keepIn K (.ref f8) = true)
    (a9 : PySem.W.nsIn K mainGlobals "_law_is_prime" = some (some (.ref f9)))
    (l9 : K.lookup f9 = some ⟨oc9, od9, .func (PySem.W.fnOf "_law_is_prime" "_law_is_prime" (defArgs s_law_is_prime) (defBody s_law_is_prime) (defScope s_law_is_prime) .none kV9 dc9 pm9 an9 cd9 ct9), sl9⟩)
    (c9 : PySem.W.codeIn K cd9 "_law_is_prime" = true) (k9 : PySem.W.keepIn K (.ref f9) = true)
    (a10 : PySem.W.nsIn K mainGlobals "_law_prime" = some (some (.ref f10)))
    (l10 : K.lookup f10 = some ⟨oc10, od10, .func (PySem.W.fnOf "_law_prime" "_law_prime" (defArgs s_prime) (defBody s_prime) (defScope s_prime) .none kV10 dc10 pm10 an10 cd10 ct10), sl10⟩)
    (c10 : PySem.W.codeIn K cd10 "_law_prime" = true) (k10 : PySem.W.keepIn K (.ref f10) = true)
    (a11 : PySem.W.nsIn K mainGlobals "_law_size" = some (some (.ref f11)))
    (l11 : K.lookup f11 = some ⟨oc11, od11, .func (PySem.W.fnOf "_law_size" "_law_size" (defArgs s_size) (defBody s_size) (defScope s_size) .none kV11 dc11 pm11 an11 cd11 ct11), sl11⟩)
    (c11 : PySem.W.codeIn K cd11 "_law_size" = true) (k11 : PySem.W.keepIn K (.ref f11) = true)
    (a12 : PySem.W.nsIn K mainGlobals "_law_kind" = some (some (.ref f12)))
    (l12 : K.lookup f12 = some ⟨oc12, od12, .func (PySem.W.fnOf "_law_kind" "_law_kind" (defArgs s_kind) (defBody s_kind) (defScope s_kind) .none kV12 dc12 pm12 an12 cd12 ct12), sl12⟩)
    (c12 : PySem.W.codeIn K cd12 "_law_kind" = true) (k12 : PySem.W.keepIn K (.ref f12) = true)
    (a13 : PySem.W.nsIn K mainGlobals "_law_plain" = some (some (.ref f13)))
    (l13 : K.lookup f13 = some ⟨oc13, od13, .func (PySem.W.fnOf "_law_plain" "_law_plain" (defArgs s_plain) (defBody s_plain) (defScope s_plain) .none kV13 dc13 pm13 an13 cd13 ct13), sl13⟩)
    (c13 : PySem.W.codeIn K cd13 "_law_plain" = true) (k13 : PySem.W.keepIn K (.ref f13) = true)
    (a14 : PySem.W.nsIn K mainGlobals "_law_trim" = some (some (.ref f14)))
    (l14 : K.lookup f14 = some ⟨oc14, od14, .func (PySem.W.fnOf "_law_trim" "_law_trim" (defArgs s_trim) (defBody s_trim) (defScope s_trim) .none kV14 dc14 pm14 an14 cd14 ct14), sl14⟩)
    (c14 : PySem.W.codeIn K cd14 "_law_trim" = true) (k14 : PySem.W.keepIn K (.ref f14) = true)
    (a15 : PySem.W.nsIn K mainGlobals "_law_whole" = some (some (.ref f15)))
    (l15 : K.lookup f15 = some ⟨oc15, od15, .func (PySem.W.fnOf "_law_whole" "_law_whole" (defArgs s_whole) (defBody s_whole) (defScope s_whole) .none kV15 dc15 pm15 an15 cd15 ct15), sl15⟩)
    (c15 : PySem.W.codeIn K cd15 "_law_whole" = true) (k15 : PySem.W.keepIn K (.ref f15) = true)
    (a16 : PySem.W.nsIn K mainGlobals "_law_alike" = some (some (.ref f16)))
    (l16 : K.lookup f16 = some ⟨oc16, od16, .func (PySem.W.fnOf "_law_alike" "_law_alike" (defArgs s_alike) (defBody s_alike) (defScope s_alike) .none kV16 dc16 pm16 an16 cd16 ct16), sl16⟩)
    (c16 : PySem.W.codeIn K cd16 "_law_alike" = true) (k16 : PySem.W.keepIn K (.ref f16) = true)
    (a17 : PySem.W.nsIn K mainGlobals "_law_number" = some (some (.ref f17)))
    (l17 : K.lookup f17 = some ⟨oc17, od17, .func (PySem.W.fnOf "_law_number" "_law_number" (defArgs s_number) (defBody s_number) (defScope s_number) .none kV17 dc17 pm17 an17 cd17 ct17), sl17⟩)
    (c17 : PySem.W.codeIn K cd17 "_law_number" = true) (k17 : PySem.W.keepIn K (.ref f17) = true)
    (a18 : PySem.W.nsIn K mainGlobals "_law_times" = some (some (.ref f18)))
    (l18 : K.lookup f18 = some ⟨oc18, od18, .func (PySem.W.fnOf "_law_times" "_law_times" (defArgs s_times) (defBody s_times) (defScope s_times) .none kV18 dc18 pm18 an18 cd18 ct18), sl18⟩)
    (c18 : PySem.W.codeIn K cd18 "_law_times" = true) (k18 : PySem.W.keepIn K (.ref f18) = true)
    (a19 : PySem.W.nsIn K mainGlobals "_law_sum" = some (some (.ref f19)))
    (l19 : K.lookup f19 = some ⟨oc19, od19, .func (PySem.W.fnOf "_law_sum" "_law_sum" (defArgs s_sum) (defBody s_sum) (defScope s_sum) .none kV19 dc19 pm19 an19 cd19 ct19), sl19⟩)
    (c19 : PySem.W.codeIn K cd19 "_law_sum" = true) (k19 : PySem.W.keepIn K (.ref f19) = true)
    (a20 : PySem.W.nsIn K mainGlobals "_law_refused" = some (some (.ref f20)))
    (l20 : K.lookup f20 = some ⟨oc20, od20, .func (PySem.W.fnOf "_law_refused" "_law_refused" (defArgs s_refused) (defBody s_refused) (defScope s_refused) .none kV20 dc20 pm20 an20 cd20 ct20), sl20⟩)
    (c20 : PySem.W.codeIn K cd20 "_law_refused" = true) (k20 : PySem.W.keepIn K (.ref f20) = true)
    (a21 : PySem.W.nsIn K mainGlobals "_law_pair" = some (some (.ref f21)))
    (l21 : K.lookup f21 = some ⟨oc21, od21, .func (PySem.W.fnOf "_law_pair" "_law_pair" (defArgs s_pair) (defBody s_pair) (defScope s_pair) .none kV21 dc21 pm21 an21 cd21 ct21), sl21⟩)
    (c21 : PySem.W.codeIn K cd21 "_law_pair" = true) (k21 : PySem.W.keepIn K (.ref f21) = true)
    (a22 : PySem.W.nsIn K mainGlobals "_law_amiss" = some (some (.ref f22)))
    (l22 : K.lookup f22 = some ⟨oc22, od22, .func (PySem.W.fnOf "_law_amiss" "_law_amiss" (defArgs s_amiss) (defBody s_amiss) (defScope s_amiss) .none kV22 dc22 pm22 an22 cd22 ct22), sl22⟩)
    (c22 : PySem.W.codeIn K cd22 "_law_amiss" = true) (k22 : PySem.W.keepIn K (.ref f22) = true)
    (a23 : PySem.W.nsIn K mainGlobals "_law_led" = some (some (.ref f23)))
    (l23 : K.lookup f23 = some ⟨oc23, od23, .func (PySem.W.fnOf "_law_led" "_law_led" (defArgs s_led) (defBody s_led) (defScope s_led) .none kV23 dc23 pm23 an23 cd23 ct23), sl23⟩)
    (c23 : PySem.W.codeIn K cd23 "_law_led" = true) (k23 : PySem.W.keepIn K (.ref f23) = true)
    (a24 : PySem.W.nsIn K mainGlobals "law" = some (some (.ref f24)))
    (l24 : K.lookup f24 = some ⟨oc24, od24, .func (PySem.W.fnOf "law" "law" (defArgs s_law) (defBody s_law) (defScope s_law) .none kV24 dc24 pm24 an24 cd24 ct24), sl24⟩)
    (c24 : PySem.W.codeIn K cd24 "law" = true) (k24 : PySem.W.keepIn K (.ref f24) = true)
    (z0 : PySem.W.nsIn K mainGlobals "len" = some none)
    (z1 : PySem.W.nsIn K mainGlobals "range" = some none)
    (z2 : PySem.W.nsIn K mainGlobals "isinstance" = some none)
    (z3 : PySem.W.nsIn K mainGlobals "bool" = some none)
    (z4 : PySem.W.nsIn K mainGlobals "int" = some none)
    (z5 : PySem.W.nsIn K mainGlobals "list" = some none)
    (z6 : PySem.W.nsIn K mainGlobals "enumerate" = some none)
    (z7 : PySem.W.nsIn K mainGlobals "max" = some none)
    (z8 : PySem.W.nsIn K mainGlobals "tuple" = some none)
    (z9 : PySem.W.nsIn K mainGlobals "ValueError" = some none)
    (y0 : PySem.W.nsIn K mainGlobals "LARGEST_PRIME" = some (some (.int 9973 tk0)))
    (y1 : PySem.W.nsIn K mainGlobals "LARGEST_MANY" = some (some (.int 400 tk1)))
    (q_ForgeError : PySem.W.nsIn K mainGlobals "ForgeError" = some (some (.ref cFE)))
    (q_NoOver : PySem.W.nsIn K mainGlobals "NoOver" = some (some (.ref cNO)))
    (e_NoOver : PySem.W.excIn K cNO bmV "ValueError.__new__" = true)
    (ag_NoOver : PySem.W.findIn K (.ref cNO) "__getattribute__" = some (some (.builtin "BaseException.__getattribute__")))
    (ak_NoOver : PySem.W.findIn K (.ref cNO) "__getattr__" = some none)
    (ab_NoOver : PySem.W.mroIn K cNO (.type "BaseException") = some true)
    (ad_NoOver : PySem.W.hasDictIn K cNO = true)
    (aa_NoOver : PySem.W.findIn K (.ref cNO) "__class__" = some (some (.builtin "object.__class__")))
    (an_NoOver : PySem.W.specialIn K (.builtin "object.__class__") "__get__" = some (some (.builtin "getset_descriptor.__get__")))
    (at_NoOver : PySem.W.takesIn K (.builtin "object.__class__") = some true)
    (am_NoOver : PySem.W.mroIn K cNO (.type "object") = some true)
    (q_Kind : PySem.W.nsIn K mainGlobals "Kind" = some (some (.ref cK)))
    (q_Wholes : PySem.W.nsIn K mainGlobals "Wholes" = some (some (.ref cW)))
    (pg_Wholes : PySem.W.plainGet K cW Str.empty = true)
    (hd_Wholes : PySem.W.hasDictIn K cW = true)
    (po_Wholes : PySem.W.plainOver K cW = true)
    (sa_Wholes : PySem.W.findIn K (.ref cW) "__setattr__" = some (some (.builtin "object.__setattr__")))
    (na_Wholes_size : PySem.W.findIn K (.ref cW) "size" = some none)
    (q_Rests : PySem.W.nsIn K mainGlobals "Rests" = some (some (.ref cR)))
    (pg_Rests : PySem.W.plainGet K cR Str.empty = true)
    (hd_Rests : PySem.W.hasDictIn K cR = true)
    (po_Rests : PySem.W.plainOver K cR = true)
    (sa_Rests : PySem.W.findIn K (.ref cR) "__setattr__" = some (some (.builtin "object.__setattr__")))
    (na_Rests_size : PySem.W.findIn K (.ref cR) "size" = some none)
    (q_Powers : PySem.W.nsIn K mainGlobals "Powers" = some (some (.ref cP)))
    (pg_Powers : PySem.W.plainGet K cP Str.empty = true)
    (hd_Powers : PySem.W.hasDictIn K cP = true)
    (po_Powers : PySem.W.plainOver K cP = true)
    (sa_Powers : PySem.W.findIn K (.ref cP) "__setattr__" = some (some (.builtin "object.__setattr__")))
    (na_Powers_size : PySem.W.findIn K (.ref cP) "size" = some none)
    (na_Powers_prime : PySem.W.findIn K (.ref cP) "prime" = some none)
    (fcm0 : PySem.W.findCls K (.ref cK) (.type "type") "__init__" = some (.val (.ref fm0)))
    (lm0 : K.lookup fm0 = some ⟨ocm0, odm0, .func (PySem.W.fnOf "__init__" "Kind.__init__" (defArgs s_Kind_init) (defBody s_Kind_init) (defScope s_Kind_init) .none kVm0 dcm0 pmm0 anm0 cdm0 ctm0), slm0⟩)
    (cm0 : PySem.W.codeIn K cdm0 "Kind.__init__" = true) (km0 : PySem.W.keepIn K (.ref fm0) = true)
    (gam0 : PySem.W.specialIn K (.ref cK) "__getattribute__" = some (some (.builtin "type.__getattribute__")))
    (rdm0 : PySem.W.readsIn K cK (.type "type") = true)
    (gm1_Rests : PySem.W.findIn K (.ref cR) "plain" = some (some (.ref fm1)))
    (gm1_Powers : PySem.W.findIn K (.ref cP) "plain" = some (some (.ref fm1)))
    (lm1 : K.lookup fm1 = some ⟨ocm1, odm1, .func (PySem.W.fnOf "plain" "Kind.plain" (defArgs s_Kind_plain) (defBody s_Kind_plain) (defScope s_Kind_plain) .none kVm1 dcm1 pmm1 anm1 cdm1 ctm1), slm1⟩)
    (cm1 : PySem.W.codeIn K cdm1 "Kind.plain" = true) (km1 : PySem.W.keepIn K (.ref fm1) = true)
    (fnm1 : PySem.W.isFn K (.ref fm1) = true)
    (gm2_Rests : PySem.W.findIn K (.ref cR) "over" = some (some (.ref fm2)))
    (gm2_Powers : PySem.W.findIn K (.ref cP) "over" = some (some (.ref fm2)))
    (lm2 : K.lookup fm2 = some ⟨ocm2, odm2, .func (PySem.W.fnOf "over" "Kind.over" (defArgs s_Kind_over) (defBody s_Kind_over) (defScope s_Kind_over) .none kVm2 dcm2 pmm2 anm2 cdm2 ctm2), slm2⟩)
    (cm2 : PySem.W.codeIn K cdm2 "Kind.over" = true) (km2 : PySem.W.keepIn K (.ref fm2) = true)
    (fnm2 : PySem.W.isFn K (.ref fm2) = true)
    (fim3 : PySem.W.findIn K (.ref cW) "__init__" = some (some (.ref fm3)))
    (lm3 : K.lookup fm3 = some ⟨ocm3, odm3, .func (PySem.W.fnOf "__init__" "Wholes.__init__" (defArgs s_Wholes_init) (defBody s_Wholes_init) (defScope s_Wholes_init) .none kVm3 dcm3 pmm3 anm3 cdm3 ctm3), slm3⟩)
    (cm3 : PySem.W.codeIn K cdm3 "Wholes.__init__" = true) (km3 : PySem.W.keepIn K (.ref fm3) = true)
    (mkm3 : PySem.W.makesIn K cW = true)
    (fnm3 : PySem.W.isFn K (.ref fm3) = true)
    (kcm3 : PySem.W.keepIn K (.ref cW) = true)
    (gm4_Wholes : PySem.W.findIn K (.ref cW) "plain" = some (some (.ref fm4)))
    (lm4 : K.lookup fm4 = some ⟨ocm4, odm4, .func (PySem.W.fnOf "plain" "Wholes.plain" (defArgs s_Wholes_plain) (defBody s_Wholes_plain) (defScope s_Wholes_plain) .none kVm4 dcm4 pmm4 anm4 cdm4 ctm4), slm4⟩)
    (cm4 : PySem.W.codeIn K cdm4 "Wholes.plain" = true) (km4 : PySem.W.keepIn K (.ref fm4) = true)
    (fnm4 : PySem.W.isFn K (.ref fm4) = true)
    (gm5_Wholes : PySem.W.findIn K (.ref cW) "over" = some (some (.ref fm5)))
    (lm5 : K.lookup fm5 = some ⟨ocm5, odm5, .func (PySem.W.fnOf "over" "Wholes.over" (defArgs s_Wholes_over) (defBody s_Wholes_over) (defScope s_Wholes_over) .none kVm5 dcm5 pmm5 anm5 cdm5 ctm5), slm5⟩)
    (cm5 : PySem.W.codeIn K cdm5 "Wholes.over" = true) (km5 : PySem.W.keepIn K (.ref fm5) = true)
    (fnm5 : PySem.W.isFn K (.ref fm5) = true)
    (fim6 : PySem.W.findIn K (.ref cR) "__init__" = some (some (.ref fm6)))
    (lm6 : K.lookup fm6 = some ⟨ocm6, odm6, .func (PySem.W.fnOf "__init__" "Rests.__init__" (defArgs s_Rests_init) (defBody s_Rests_init) (defScope s_Rests_init) .none kVm6 dcm6 pmm6 anm6 cdm6 ctm6), slm6⟩)
    (cm6 : PySem.W.codeIn K cdm6 "Rests.__init__" = true) (km6 : PySem.W.keepIn K (.ref fm6) = true)
    (mkm6 : PySem.W.makesIn K cR = true)
    (fnm6 : PySem.W.isFn K (.ref fm6) = true)
    (kcm6 : PySem.W.keepIn K (.ref cR) = true)
    (fim7 : PySem.W.findIn K (.ref cP) "__init__" = some (some (.ref fm7)))
    (lm7 : K.lookup fm7 = some ⟨ocm7, odm7, .func (PySem.W.fnOf "__init__" "Powers.__init__" (defArgs s_Powers_init) (defBody s_Powers_init) (defScope s_Powers_init) .none kVm7 dcm7 pmm7 anm7 cdm7 ctm7), slm7⟩)
    (cm7 : PySem.W.codeIn K cdm7 "Powers.__init__" = true) (km7 : PySem.W.keepIn K (.ref fm7) = true)
    (mkm7 : PySem.W.makesIn K cP = true)
    (fnm7 : PySem.W.isFn K (.ref fm7) = true)
    (kcm7 : PySem.W.keepIn K (.ref cP) = true)
    (i0 : PySem.W.kitOne K (.type "int") (.type "int") = some true)
    (i1 : PySem.W.kitOne K (.type "int") (.type "bool") = some false)
    (i2 : PySem.W.kitOne K (.type "list") (.type "list") = some true)
    (i3 : PySem.W.kitOne K (.type "tuple") (.type "tuple") = some true)
    (i4 : PySem.W.kitOne K (.ref cNO) (.ref cFE) = some true)
    (i5 : PySem.W.kitOne K (.ref cNO) (.type "ValueError") = some true)
    (yy0 : PySem.W.exmOne K (.ref cNO) (.ref cNO) = some true) :
    ∃ fd : FuncData, (∀ (s : Shared) (v : Value), BindsTo s fd ⟨[v], []⟩ [("_law_script", v)]) ∧ ∀ base : Heap, K.In base → base.Ns mainGlobals mg → FnOk l.prog w K mg base CX0 9 fa fd ["_law_script"] (spLaw K) := by
  have e := hfa.symm.trans (PySem.W.mg_of X G a24)
  cases e
  have F0 := fun_mk (st := s_cut_noughts) l0 c0 k0
  have b0 := F0.binds (ps := ["numbers"]) fun _ _ _ _ _ _ us hl => match us, hl with | [_], _ => rfl
  have F1 := fun_mk (st := s_trimmed) l1 c1 k1
  have b1 := F1.binds (ps := ["kind", "f"]) fun _ _ _ _ _ _ us hl => match us, hl with | [_, _], _ => rfl
  have F2 := fun_mk (st := s_divided) l2 c2 k2
  have b2 := F2.binds (ps := ["kind", "f", "g"]) fun _ _ _ _ _ _ us hl => match us, hl with | [_, _, _], _ => rfl
  have F3 := fun_mk (st := s_is_prime) l3 c3 k3
  have b3 := F3.binds (ps := ["number"]) fun _ _ _ _ _ _ us hl => match us, hl with | [_], _ => rfl
  have F4 := fun_mk (st := s_turned) l4 c4 k4
  have b4 := F4.binds (ps := ["number", "size"]) fun _ _ _ _ _ _ us hl => match us, hl with | [_, _], _ => rfl
  have F5 := fun_mk (st := s_refuse_no_prime) l5 c5 k5
  have b5 := F5.binds (ps := ["number"]) fun _ _ _ _ _ _ us hl => match us, hl with | [_], _ => rfl
  have F6 := fun_mk (st := s_taken_times) l6 c6 k6
  have b6 := F6.binds (ps := ["number", "many"]) fun _ _ _ _ _ _ us hl => match us, hl with | [_, _], _ => rfl
  have F7 := fun_mk (st := s_cell_at) l7 c7 k7
  have b7 := F7.binds (ps := ["_law_script", "_law_k"]) fun _ _ _ _ _ _ us hl => match us, hl with | [_, _], _ => rfl
  have F8 := fun_mk (st := s_head) l8 c8 k8
  have b8 := F8.binds (ps := ["_law_script"]) fun _ _ _ _ _ _ us hl => match us, hl with | [_], _ => rfl
  have F9 := fun_mk (st := s_law_is_prime) l9 c9 k9
  have b9 := F9.binds (ps := ["_law_number_here"]) fun _ _ _ _ _ _ us hl => match us, hl with | [_], _ => rfl
  have F10 := fun_mk (st := s_prime) l10 c10 k10
  have b10 := F10.binds (ps := ["_law_cell"]) fun _ _ _ _ _ _ us hl => match us, hl with | [_], _ => rfl
  have F11 := fun_mk (st := s_size) l11 c11 k11
  have b11 := F11.binds (ps := ["_law_way", "_law_prime_here", "_law_many"]) fun _ _ _ _ _ _ us hl => match us, hl with | [_, _, _], _ => rfl
  have F12 := fun_mk (st := s_kind) l12 c12 k12
  have b12 := F12.binds (ps := ["_law_way", "_law_prime_here", "_law_many"]) fun _ _ _ _ _ _ us hl => match us, hl with | [_, _, _], _ => rfl
  have F13 := fun_mk (st := s_plain) l13 c13 k13
  have b13 := F13.binds (ps := ["_law_number_here", "_law_size_here"]) fun _ _ _ _ _ _ us hl => match us, hl with | [_, _], _ => rfl
  have F14 := fun_mk (st := s_trim) l14 c14 k14
  have b14 := F14.binds (ps := ["_law_row", "_law_size_here"]) fun _ _ _ _ _ _ us hl => match us, hl with | [_, _], _ => rfl
  have F15 := fun_mk (st := s_whole) l15 c15 k15
  have b15 := F15.binds (ps := ["_law_found"]) fun _ _ _ _ _ _ us hl => match us, hl with | [_], _ => rfl
  have F16 := fun_mk (st := s_alike) l16 c16 k16
  have b16 := F16.binds (ps := ["_law_found", "_law_due"]) fun _ _ _ _ _ _ us hl => match us, hl with | [_, _], _ => rfl
  have F17 := fun_mk (st := s_number) l17 c17 k17
  have b17 := F17.binds (ps := ["_law_cell", "_law_place"]) fun _ _ _ _ _ _ us hl => match us, hl with | [_, _], _ => rfl
  have F18 := fun_mk (st := s_times) l18 c18 k18
  have b18 := F18.binds (ps := ["_law_f", "_law_g", "_law_size_here"]) fun _ _ _ _ _ _ us hl => match us, hl with | [_, _, _], _ => rfl
  have F19 := fun_mk (st := s_sum) l19 c19 k19
  have b19 := F19.binds (ps := ["_law_f", "_law_g", "_law_size_here"]) fun _ _ _ _ _ _ us hl => match us, hl with | [_, _, _], _ => rfl
  have F20 := fun_mk (st := s_refused) l20 c20 k20
  have b20 := F20.binds (ps := ["_law_kind_here", "_law_f", "_law_g"]) fun _ _ _ _ _ _ us hl => match us, hl with | [_, _, _], _ => rfl
  have F21 := fun_mk (st := s_pair) l21 c21 k21
  have b21 := F21.binds (ps := ["_law_found", "_law_quotient", "_law_rest"]) fun _ _ _ _ _ _ us hl => match us, hl with | [_, _, _], _ => rfl
  have F22 := fun_mk (st := s_amiss) l22 c22 k22
  have b22 := F22.binds (ps := ["_law_quotient", "_law_g", "_law_number_here"]) fun _ _ _ _ _ _ us hl => match us, hl with | [_, _, _], _ => rfl
  have F23 := fun_mk (st := s_led) l23 c23 k23
  have b23 := F23.binds (ps := ["_law_row", "_law_size_here", "_law_prime_here"]) fun _ _ _ _ _ _ us hl => match us, hl with | [_, _, _], _ => rfl
  have F24 := fun_mk (st := s_law) l24 c24 k24
  have Fm0 := fun_mk (st := s_Kind_init) lm0 cm0 km0
  have bm0 := Fm0.binds (ps := ["self", "size"]) fun _ _ _ _ _ _ us hl => match us, hl with | [_, _], _ => rfl
  have Fm1 := fun_mk (st := s_Kind_plain) lm1 cm1 km1
  have bm1 := Fm1.binds (ps := ["self", "number"]) fun _ _ _ _ _ _ us hl => match us, hl with | [_, _], _ => rfl
  have Fm2 := fun_mk (st := s_Kind_over) lm2 cm2 km2
  have bm2 := Fm2.binds (ps := ["self", "a", "b"]) fun _ _ _ _ _ _ us hl => match us, hl with | [_, _, _], _ => rfl
  have Fm3 := fun_mk (st := s_Wholes_init) lm3 cm3 km3
  have bm3 := Fm3.binds (ps := ["self"]) fun _ _ _ _ _ _ us hl => match us, hl with | [_], _ => rfl
  have Fm4 := fun_mk (st := s_Wholes_plain) lm4 cm4 km4
  have bm4 := Fm4.binds (ps := ["self", "number"]) fun _ _ _ _ _ _ us hl => match us, hl with | [_, _], _ => rfl
  have Fm5 := fun_mk (st := s_Wholes_over) lm5 cm5 km5
  have bm5 := Fm5.binds (ps := ["self", "a", "b"]) fun _ _ _ _ _ _ us hl => match us, hl with | [_, _, _], _ => rfl
  have Fm6 := fun_mk (st := s_Rests_init) lm6 cm6 km6
  have bm6 := Fm6.binds (ps := ["self", "prime"]) fun _ _ _ _ _ _ us hl => match us, hl with | [_, _], _ => rfl
  have Fm7 := fun_mk (st := s_Powers_init) lm7 cm7 km7
  have bm7 := Fm7.binds (ps := ["self", "prime", "many"]) fun _ _ _ _ _ _ us hl => match us, hl with | [_, _, _], _ => rfl
  have T : Top K mg cFE cNO cK cW cR cP := ⟨Def.mk' F0 b0 (PySem.W.mg_of X G a0),
    Def.mk' F1 b1 (PySem.W.mg_of X G a1),
    Def.mk' F2 b2 (PySem.W.mg_of X G a2),
    Def.mk' F3 b3 (PySem.W.mg_of X G a3),
    Def.mk' F4 b4 (PySem.W.mg_of X G a4),
    Def.mk' F5 b5 (PySem.W.mg_of X G a5),
    Def.mk' F6 b6 (PySem.W.mg_of X G a6),
    Def.mk' F7 b7 (PySem.W.mg_of X G a7),
    Def.mk' F8 b8 (PySem.W.mg_of X G a8),
    Def.mk' F9 b9 (PySem.W.mg_of X G a9),
    Def.mk' F10 b10 (PySem.W.mg_of X G a10),
    Def.mk' F11 b11 (PySem.W.mg_of X G a11),
    Def.mk' F12 b12 (PySem.W.mg_of X G a12),
    Def.mk' F13 b13 (PySem.W.mg_of X G a13),
    Def.mk' F14 b14 (PySem.W.mg_of X G a14),
    Def.mk' F15 b15 (PySem.W.mg_of X G a15),
    Def.mk' F16 b16 (PySem.W.mg_of X G a16),
    Def.mk' F17 b17 (PySem.W.mg_of X G a17),
    Def.mk' F18 b18 (PySem.W.mg_of X G a18),
    Def.mk' F19 b19 (PySem.W.mg_of X G a19),
    Def.mk' F20 b20 (PySem.W.mg_of X G a20),
    Def.mk' F21 b21 (PySem.W.mg_of X G a21),
    Def.mk' F22 b22 (PySem.W.mg_of X G a22),
    Def.mk' F23 b23 (PySem.W.mg_of X G a23),
    PySem.W.mg_none_of X G z0,
    PySem.W.mg_none_of X G z1,
    PySem.W.mg_none_of X G z2,
    PySem.W.mg_none_of X G z3,
    PySem.W.mg_none_of X G z4,
    PySem.W.mg_none_of X G z5,
    PySem.W.mg_none_of X G z6,
    PySem.W.mg_none_of X G z7,
    PySem.W.mg_none_of X G z8,
    PySem.W.mg_none_of X G z9,
    ⟨_, PySem.W.mg_of X G y0⟩,
    ⟨_, PySem.W.mg_of X G y1⟩,
    i0,
    i1,
    i2,
    i3,
    i4,
    i5,
    PySem.W.mg_of X G q_ForgeError,
    PySem.W.mg_of X G q_NoOver,
    e_NoOver,
    ⟨ag_NoOver, ak_NoOver, ab_NoOver, ad_NoOver, aa_NoOver, an_NoOver, at_NoOver, am_NoOver⟩,
    PySem.W.mg_of X G q_Kind,
    PySem.W.mg_of X G q_Wholes,
    ⟨pg_Wholes, hd_Wholes, po_Wholes, sa_Wholes⟩,
    na_Wholes_size,
    PySem.W.mg_of X G q_Rests,
    ⟨pg_Rests, hd_Rests, po_Rests, sa_Rests⟩,
    na_Rests_size,
    PySem.W.mg_of X G q_Powers,
    ⟨pg_Powers, hd_Powers, po_Powers, sa_Powers⟩,
    na_Powers_size,
    na_Powers_prime,
    yy0,
    ⟨_, _, Fm0, bm0, gam0, rdm0, fcm0, km0⟩,
    ⟨_, _, Fm1, bm1, ⟨gm1_Rests, fnm1, km1⟩, ⟨gm1_Powers, fnm1, km1⟩⟩,
    ⟨_, _, Fm2, bm2, ⟨gm2_Rests, fnm2, km2⟩, ⟨gm2_Powers, fnm2, km2⟩⟩,
    ⟨_, _, Fm3, bm3, mkm3, fim3, fnm3, kcm3⟩,
    ⟨_, _, Fm4, bm4, ⟨gm4_Wholes, fnm4, km4⟩⟩,
    ⟨_, _, Fm5, bm5, ⟨gm5_Wholes, fnm5, km5⟩⟩,
    ⟨_, _, Fm6, bm6, mkm6, fim6, fnm6, kcm6⟩,
    ⟨_, _, Fm7, bm7, mkm7, fim7, fnm7, kcm7⟩⟩
  exact ⟨_, fun s v => .of_eq rfl, fun base _ _ => kx_law T F24⟩
theorem walk {l : PySem.W.OpenLaw} {q : Program} {loose : List Str} {XP : (Str → Option Value) → Heap → Prop} {YP : World → Heap → Prop} {d : DefRec} {K : Params → PySem.W.Frag} (hn : l.most = some 63) (hdf : d.params.defaults = [])
    (hY : ∀ (w : World) (h : Heap), YP w h → (K w.params).In h)
    (F : ∀ (w : World) (mg : Str → Option Value) (fa : Addr) (h : Heap), (K w.params).In h → h.Ns mainGlobals mg → mg d.name = some (.ref fa) →
      ∃ fd : FuncData, (∀ (s : Shared) (u : Value), BindsTo s fd ⟨[u], []⟩ [("_law_script", u)]) ∧ ∀ base : Heap, (K w.params).In base → base.Ns mainGlobals mg → FnOk l.prog w (K w.params) mg base CX0 9 fa fd ["_law_script"] (spLaw (K w.params))) :
    PySem.W.WalkO q loose XP YP l.row.toRowW d [] (fun f vs => PySem.call f vs) :=
  L2.walk_of (n := 63) (k := 9) (x := "_law_script") (CX := fun _ => CX0) (sp := fun w => spLaw (K w.params)) hn (by decide) hdf ⟨rfl, by decide, by decide⟩ hY F (fun _ _ a ns hl _ hS => ⟨a, ns, rfl, hS, hl, fun _ => rfl⟩) fun _ _ _ _ _ z => z
end K13
local macro_rules | `(tactic| o_head $H) => `(tactic| (refine PySem.W.holds_open (q := K13.view) (loose := []) (Xt := fun s => PySem.W.xlAt K13.view [] s && PySem.W.recOk (PySem.W.RowW.records PySem.Challenge.rw_factorforge_k13_divided.row.toRowW) s) (XP := PySem.W.XL K13.view []) (Yf := PySem.W.Hook.obs $H) (Ya := PySem.W.Hook.val $H) (YP := PySem.W.Hook.says $H) (N := 20000) ?hl (PySem.W.Hook.of $H) (PySem.W.Hook.keeps $H) (fun s e => PySem.W.xl_of s (Bool.and_eq_true_iff.mp e).1) PySem.W.XL.keeps (by rfl) (by rfl) (by rfl) (fun s e => PySem.W.recFacts_of (Bool.and_eq_true_iff.mp e).2) (by rfl) (by first | assumption | decide +kernel) (by decide +kernel) ⟨rfl, rfl, rfl, rfl, rfl, by decide +kernel⟩ ?hw ?hc; (case hl => (intro w; exact K13.opt4 (K13.hA1 w) (K13.hA2 w) (K13.hB w) (by kernel_rfl)))))
open PySem PySem.W PyProof.Rows
set_option maxRecDepth 100000 in
set_option maxHeartbeats 0 in
theorem PySem.Challenge.cw_factorforge_k13_divided_holds : PySem.Challenge.rw_factorforge_k13_divided.Holds := by
  w_on; o_law; k_head; (rotate_left; rotate_right); (· w_witness2)
  k_fill
  refine K13.walk (l := PySem.Challenge.rw_factorforge_k13_divided) rfl rfl (fun w h Y => PySem.W.kIn_of Y) ?F
  case F =>
    intro w mg fa h KX G hmg
    refine' K13.all_mk KX G hmg ?a0 ?l0 ?c0 ?k0 ?a1 ?l1 ?c1 ?k1 ?a2 ?l2 ?c2 ?k2 ?a3 ?l3 ?c3 ?k3 ?a4 ?l4 ?c4 ?k4 ?a5 ?l5 ?c5 ?k5 ?a6 ?l6 ?c6 ?k6 ?a7 ?l7 ?c7 ?k7 ?a8 ?l8 ?c8 ?k8 ?a9 ?l9 ?c9 ?k9 ?a10 ?l10 ?c10 ?k10 ?a11 ?l11 ?c11 ?k11 ?a12 ?l12 ?c12 ?k12 ?a13 ?l13 ?c13 ?k13 ?a14 ?l14 ?c14 ?k14 ?a15 ?l15 ?c15 ?k15 ?a16 ?l16 ?c16 ?k16 ?a17 ?l17 ?c17 ?k17 ?a18 ?l18 ?c18 ?k18 ?a19 ?l19 ?c19 ?k19 ?a20 ?l20 ?c20 ?k20 ?a21 ?l21 ?c21 ?k21 ?a22 ?l22 ?c22 ?k22 ?a23 ?l23 ?c23 ?k23 ?a24 ?l24 ?c24 ?k24 ?z0 ?z1 ?z2 ?z3 ?z4 ?z5 ?z6 ?z7 ?z8 ?z9 ?y0 ?y1 ?q_ForgeError ?q_NoOver ?e_NoOver ?ag_NoOver ?ak_NoOver ?ab_NoOver ?ad_NoOver ?aa_NoOver ?an_NoOver ?at_NoOver ?am_NoOver ?q_Kind ?q_Wholes ?pg_Wholes ?hd_Wholes ?po_Wholes ?sa_Wholes ?na_Wholes_size ?q_Rests ?pg_Rests ?hd_Rests ?po_Rests ?sa_Rests ?na_Rests_size ?q_Powers ?pg_Powers ?hd_Powers ?po_Powers ?sa_Powers ?na_Powers_size ?na_Powers_prime ?fcm0 ?lm0 ?cm0 ?km0 ?gam0 ?rdm0 ?gm1_Rests ?gm1_Powers ?lm1 ?cm1 ?km1 ?fnm1 ?gm2_Rests ?gm2_Powers ?lm2 ?cm2 ?km2 ?fnm2 ?fim3 ?lm3 ?cm3 ?km3 ?mkm3 ?fnm3 ?kcm3 ?gm4_Wholes ?lm4 ?cm4 ?km4 ?fnm4 ?gm5_Wholes ?lm5 ?cm5 ?km5 ?fnm5 ?fim6 ?lm6 ?cm6 ?km6 ?mkm6 ?fnm6 ?kcm6 ?fim7 ?lm7 ?cm7 ?km7 ?mkm7 ?fnm7 ?kcm7 ?i0 ?i1 ?i2 ?i3 ?i4 ?i5 ?yy0
    (case a0 => k_is)
    (case l0 => k_is)
    (case c0 => k_is)
    (case k0 => k_is)
    (case a1 => k_is)
    (case l1 => k_is)
    (case c1 => k_is)
    (case k1 => k_is)
    (case a2 => k_is)
    (case l2 => k_is)
    (case c2 => k_is)
    (case k2 => k_is)
    (case a3 => k_is)
    (case l3 => k_is)
    (case c3 => k_is)
    (case k3 => k_is)
    (case a4 => k_is)
    (case l4 => k_is)
    (case c4 => k_is)
    (case k4 => k_is)
    (case a5 => k_is)
    (case l5 => k_is)
    (case c5 => k_is)
    (case k5 => k_is)
    (case a6 => k_is)
    (case l6 => k_is)
    (case c6 => k_is)
    (case k6 => k_is)
    (case a7 => k_is)
    (case l7 => k_is)
    (case c7 => k_is)
    (case k7 => k_is)
    (case a8 => k_is)
    (case l8 => k_is)
    (case c8 => k_is)
    (case k8 => k_is)
    (case a9 => k_is)
    (case l9 => k_is)
    (case c9 => k_is)
    (case k9 => k_is)
    (case a10 => k_is)
    (case l10 => k_is)
    (case c10 => k_is)
    (case k10 => k_is)
    (case a11 => k_is)
    (case l11 => k_is)
    (case c11 => k_is)
    (case k11 => k_is)
    (case a12 => k_is)
    (case l12 => k_is)
    (case c12 => k_is)
    (case k12 => k_is)
    (case a13 => k_is)
    (case l13 => k_is)
    (case c13 => k_is)
    (case k13 => k_is)
    (case a14 => k_is)
    (case l14 => k_is)
    (case c14 => k_is)
    (case k14 => k_is)
    (case a15 => k_is)
    (case l15 => k_is)
    (case c15 => k_is)
    (case k15 => k_is)
    (case a16 => k_is)
    (case l16 => k_is)
    (case c16 => k_is)
    (case k16 => k_is)
    (case a17 => k_is)
    (case l17 => k_is)
    (case c17 => k_is)
    (case k17 => k_is)
    (case a18 => k_is)
    (case l18 => k_is)
    (case c18 => k_is)
    (case k18 => k_is)
    (case a19 => k_is)
    (case l19 => k_is)
    (case c19 => k_is)
    (case k19 => k_is)
    (case a20 => k_is)
    (case l20 => k_is)
    (case c20 => k_is)
    (case k20 => k_is)
    (case a21 => k_is)
    (case l21 => k_is)
    (case c21 => k_is)
    (case k21 => k_is)
    (case a22 => k_is)
    (case l22 => k_is)
    (case c22 => k_is)
    (case k22 => k_is)
    (case a23 => k_is)
    (case l23 => k_is)
    (case c23 => k_is)
    (case k23 => k_is)
    (case a24 => k_is)
    (case l24 => k_is)
    (case c24 => k_is)
    (case k24 => k_is)
    (case z0 => k_is)
    (case z1 => k_is)
    (case z2 => k_is)
    (case z3 => k_is)
    (case z4 => k_is)
    (case z5 => k_is)
    (case z6 => k_is)
    (case z7 => k_is)
    (case z8 => k_is)
    (case z9 => k_is)
    (case y0 => k_is)
    (case y1 => k_is)
    (case q_ForgeError => k_is)
    (case q_NoOver => k_is)
    (case e_NoOver => k_exc)
    (case ag_NoOver => k_is)
    (case ak_NoOver => k_is)
    (case ab_NoOver => k_is)
    (case ad_NoOver => k_is)
    (case aa_NoOver => k_is)
    (case an_NoOver => k_is)
    (case at_NoOver => k_is)
    (case am_NoOver => k_is)
    (case q_Kind => k_is)
    (case q_Wholes => k_is)
    (case pg_Wholes => k_is)
    (case hd_Wholes => k_is)
    (case po_Wholes => k_is)
    (case sa_Wholes => k_is)
    (case na_Wholes_size => k_is)
    (case q_Rests => k_is)
    (case pg_Rests => k_is)
    (case hd_Rests => k_is)
    (case po_Rests => k_is)
    (case sa_Rests => k_is)
    (case na_Rests_size => k_is)
    (case q_Powers => k_is)
    (case pg_Powers => k_is)
    (case hd_Powers => k_is)
    (case po_Powers => k_is)
    (case sa_Powers => k_is)
    (case na_Powers_size => k_is)
    (case na_Powers_prime => k_is)
    (case fcm0 => k_is)
    (case lm0 => k_is)
    (case cm0 => k_is)
    (case km0 => k_is)
    (case gam0 => k_is)
    (case rdm0 => k_is)
    (case gm1_Rests => k_is)
    (case gm1_Powers => k_is)
    (case lm1 => k_is)
    (case cm1 => k_is)
    (case km1 => k_is)
    (case fnm1 => k_is)
    (case gm2_Rests => k_is)
    (case gm2_Powers => k_is)
    (case lm2 => k_is)
    (case cm2 => k_is)
    (case km2 => k_is)
    (case fnm2 => k_is)
    (case fim3 => k_is)
    (case lm3 => k_is)
    (case cm3 => k_is)
    (case km3 => k_is)
    (case mkm3 => k_is)
    (case fnm3 => k_is)
    (case kcm3 => k_is)
    (case gm4_Wholes => k_is)
    (case lm4 => k_is)
    (case cm4 => k_is)
    (case km4 => k_is)
    (case fnm4 => k_is)
    (case gm5_Wholes => k_is)
    (case lm5 => k_is)
    (case cm5 => k_is)
    (case km5 => k_is)
    (case fnm5 => k_is)
    (case fim6 => k_is)
    (case lm6 => k_is)
    (case cm6 => k_is)
    (case km6 => k_is)
    (case mkm6 => k_is)
    (case fnm6 => k_is)
    (case kcm6 => k_is)
    (case fim7 => k_is)
    (case lm7 => k_is)
    (case cm7 => k_is)
    (case km7 => k_is)
    (case mkm7 => k_is)
    (case fnm7 => k_is)
    (case kcm7 => k_is)
    (case i0 => kit_is)
    (case i1 => kit_is)
    (case i2 => kit_is)
    (case i3 => kit_is)
    (case i4 => kit_is)
    (case i5 => kit_is)
    (case yy0 => kts_exm)
