import PyProof.Rows.All
import Wide.All
import KE.KNestM
import KE.KUnpack
import KE.KEqDeep
import KE.KPassesOwn
import KE.RegKIsAll
import KE.RegKTryMore
import OpenK.KOwn
import KE.KItem
import Wide.FinOn
import Lean
import PyProof.EqAt
import PyProof.EqKinds
import PyProof.TupleCall
import PySem.Challenge.RW_factorforge_k67_good_prime
set_option Elab.async false
set_option linter.all false
set_option maxRecDepth 100000
set_option maxHeartbeats 4000000
local macro_rules | `(tactic| omega) => `(tactic| lia)
section
open PySem PySem.W PyProof.Rows
namespace K67
noncomputable def top (i : Nat) : Stmt := PySem.Challenge.pw_factorforge_k67_good_prime.main.body.getD i (.Pass ⟨0, 0, 0, 0⟩)
end K67
noncomputable def K67.view : PySem.Program := { PySem.Challenge.rw_factorforge_k67_good_prime.row.toRowW.prog with main := { PySem.Challenge.rw_factorforge_k67_good_prime.row.toRowW.prog.main with body := [K67.top 0, K67.top 2, K67.top 3, K67.top 4, K67.top 6, K67.top 7, K67.top 8, K67.top 9, K67.top 10, K67.top 12, K67.top 13, K67.top 14, K67.top 16, K67.top 17, K67.top 18, K67.top 19, K67.top 20, K67.top 21, K67.top 22, K67.top 24, K67.top 25, K67.top 27, K67.top 28, K67.top 29, K67.top 30, K67.top 31, K67.top 32, K67.top 33, K67.top 34, K67.top 35, K67.top 36, K67.top 37, K67.top 38, K67.top 39, K67.top 40] } }
theorem K67.opt4 {S A B C D : Type} {o : Option S} {f : S → A × B × C} {y : S → D} {g : A × B × C} {z : D} (h1 : o.map (fun s => (f s).1) = some g.1) (h2 : o.map (fun s => (f s).2.1) = some g.2.1) (h3 : o.map (fun s => (f s).2.2) = some g.2.2) (h4 : o.map y = some z) : o.map (fun s => (f s, y s)) = some (g, z) := by
  cases o with
  | none => cases h4
  | some s =>
    have e1 := Option.some.inj h1
    have e2 := Option.some.inj h2
    have e3 := Option.some.inj h3
    have e4 := Option.some.inj h4
    have e : f s = g := Prod.ext e1 (Prod.ext e2 e3)
    show some (f s, y s) = some (g, z)
    rw [e, e4]
noncomputable abbrev K67.seenT (s : Shared) := openSeen K67.view [] (importedModules PySem.Challenge.rw_factorforge_k67_good_prime.row.toRowW.prog.main.body) (fun s => xlAt K67.view [] s && recOk (RowW.records PySem.Challenge.rw_factorforge_k67_good_prime.row.toRowW) s) true s
theorem K67.hA1 : ∀ w, (openEnds treeTable PySem.Challenge.rw_factorforge_k67_good_prime.row.toRowW.prog w 20000).map (fun s => (K67.seenT s).1) = some (openGood K67.view []).1 := by intro w; kernel_rfl
theorem K67.hA2 : ∀ w, (openEnds treeTable PySem.Challenge.rw_factorforge_k67_good_prime.row.toRowW.prog w 20000).map (fun s => (K67.seenT s).2.1) = some (openGood K67.view []).2.1 := by intro w; kernel_rfl
theorem K67.hB : ∀ w, (openEnds treeTable PySem.Challenge.rw_factorforge_k67_good_prime.row.toRowW.prog w 20000).map (fun s => (K67.seenT s).2.2) = some (openGood K67.view []).2.2 := by intro w; kernel_rfl
end
/-! THE HAND LAYER, for ints, bools, texts, own classes, LISTS and tuples (index, slices, in, append, pop ..), calls, loops. Paste it whole ahead of your own text; what your proof does not reach may be deleted. -/
namespace L2
open PySem PySem.Spec PyProof.Rows

/-- a key: an int or a str -/
noncomputable abbrev Key := Sum Int Str
noncomputable def keyIs : Key → Value → Bool
  | .inl k, v => Value.isInt k v
  | .inr x, v => Value.isStrOf x v
noncomputable def keyH (w : World) : Key → Int
  | .inl k => hashInt k
  | .inr x => hashStr w x
theorem keyIs_shape : ∀ {k : Key} {v : Value}, keyIs k v = true → (∃ i t, k = Sum.inl i ∧ v = Value.int i t) ∨ (∃ x t, k = Sum.inr x ∧ v = Value.str x t)
  | .inl i, v, h => by
    obtain ⟨t, e⟩ := Value.isInt_shape (k := i) (v := v) h
    exact .inl ⟨i, t, rfl, e⟩
  | .inr x, v, h => by
    obtain ⟨t, e⟩ := Value.isStrOf_shape (x := x) (v := v) h
    exact .inr ⟨x, t, rfl, e⟩
theorem key_ll (a b : Int) : decide ((Sum.inl a : Key) = Sum.inl b) = (a == b) := by
  by_cases e : a = b
  · subst e; simp
  · have h : ¬ (Sum.inl a : Key) = Sum.inl b := fun q => e (Sum.inl.inj q)
    rw [decide_eq_false h]
    exact (beq_eq_false_iff_ne.mpr e).symm
theorem key_rr (a b : Str) : decide ((Sum.inr a : Key) = Sum.inr b) = decide (a = b) := by
  by_cases e : a = b
  · subst e; simp
  · have h : ¬ (Sum.inr a : Key) = Sum.inr b := fun q => e (Sum.inr.inj q)
    rw [decide_eq_false h, decide_eq_false e]
theorem key_lr (a : Int) (b : Str) : decide ((Sum.inl a : Key) = Sum.inr b) = false := decide_eq_false (fun q => nomatch q)
theorem key_rl (a : Str) (b : Int) : decide ((Sum.inr a : Key) = Sum.inl b) = false := decide_eq_false (fun q => nomatch q)

noncomputable def mixKind (prog : Program) (w : World) : PySem.KeyKind prog w Key where
  is := keyIs
  hash := keyH w
  inj := fun v a b ha hb => by
    rcases keyIs_shape ha with ⟨i, t, rfl, rfl⟩ | ⟨x, t, rfl, rfl⟩
    · rcases keyIs_shape hb with ⟨j, u, rfl, e⟩ | ⟨y, u, rfl, e⟩
      · injection e with e1 _; rw [e1]
      · exact nomatch e
    · rcases keyIs_shape hb with ⟨j, u, rfl, e⟩ | ⟨y, u, rfl, e⟩
      · exact nomatch e
      · injection e with e1 _; rw [e1]
  byValue := fun k v h => by
    rcases keyIs_shape h with ⟨i, t, rfl, rfl⟩ | ⟨x, t, rfl, rfl⟩ <;> rfl
  pyHash := fun hv h => by
    rcases keyIs_shape hv with ⟨i, t, rfl, rfl⟩ | ⟨x, t, rfl, rfl⟩
    · exact wpAny_pyHash_int h
    · exact wpAny_pyHash_str h
  eqBool := fun hu hv h => by
    rcases keyIs_shape hu with ⟨i, t, rfl, rfl⟩ | ⟨x, t, rfl, rfl⟩
    · rcases keyIs_shape hv with ⟨j, u, rfl, rfl⟩ | ⟨y, u, rfl, rfl⟩
      · rw [key_ll] at h; exact wpAny_eqBool_int h
      · rw [key_lr] at h; exact SeqAt.EqAt.int_str i t y u _ _ _ _ h
    · rcases keyIs_shape hv with ⟨j, u, rfl, rfl⟩ | ⟨y, u, rfl, rfl⟩
      · rw [key_rl] at h; exact SeqAt.EqAt.str_int x t j u _ _ _ _ h
      · rw [key_rr] at h; exact wpAny_eqBool_str h
  «strs» := fun k x t v h => by
    rcases keyIs_shape h with ⟨i, u, rfl, e⟩ | ⟨y, u, rfl, e⟩
    · exact nomatch e
    · injection e with e1 _
      subst e1
      cases v <;> rfl

end L2

namespace L2
open PySem PySem.Spec PyProof.Rows

/-- a value, without the heap -/
inductive V where
  | non | bl (b : Bool) | int (i : Int) | str (x : Str) | byt (b : Array UInt8) | flt (b : UInt64) | ref (a : Addr) | ty (n : String)
  deriving DecidableEq

noncomputable def RelV : V → Value → Prop
  | .non, u => u = Value.none
  | .bl b, u => u = Value.bool b
  | .int i, u => ∃ t, u = Value.int i t
  | .str x, u => ∃ t, u = Value.str x t
  | .byt b, u => ∃ t, u = Value.bytes b t
  | .flt b, u => ∃ t, u = Value.float b t
  | .ref a, u => u = Value.ref a
  | .ty n, u => u = Value.type n

noncomputable abbrev Vals : List V → List Value → Prop := Paired RelV
theorem Vals.length {xs : List V} {us : List Value} (r : Vals xs us) : xs.length = us.length := Paired.length r
theorem Vals.get : ∀ {xs : List V} {us : List Value} {i : Nat} {x : V}, Vals xs us → xs[i]? = some x → ∃ u, us[i]? = some u ∧ RelV x u
  | _, _, _, _, .nil, e => by simp at e
  | _, _, 0, _, .cons r _, e => by simp at e; subst e; exact ⟨_, rfl, r⟩
  | _, _, i + 1, x, .cons _ t, e => by
    obtain ⟨u, h1, h2⟩ := Vals.get (i := i) (x := x) t (by simpa using e)
    exact ⟨u, by simpa using h1, h2⟩
theorem Vals.set {x : V} {u : Value} (r : RelV x u) : ∀ {xs : List V} {us : List Value} (i : Nat), Vals xs us → Vals (xs.set i x) (us.set i u)
  | _, _, _, .nil => .nil
  | _, _, 0, .cons _ t => .cons r t
  | _, _, i + 1, .cons q t => .cons q (Vals.set r i t)
theorem Vals.append : ∀ {xs ys : List V} {us ws : List Value}, Vals xs us → Vals ys ws → Vals (xs ++ ys) (us ++ ws)
  | _, _, _, _, .nil, s => s
  | _, _, _, _, .cons r t, s => .cons r (Vals.append t s)
theorem Vals.take : ∀ {xs : List V} {us : List Value} (n : Nat), Vals xs us → Vals (xs.take n) (us.take n)
  | _, _, 0, _ => .nil
  | _, _, _ + 1, .nil => .nil
  | _, _, n + 1, .cons r t => .cons r (Vals.take n t)
theorem Vals.drop : ∀ {xs : List V} {us : List Value} (n : Nat), Vals xs us → Vals (xs.drop n) (us.drop n)
  | _, _, 0, r => r
  | _, _, _ + 1, .nil => .nil
  | _, _, n + 1, .cons _ t => Vals.drop n t
theorem Vals.none_of : ∀ {xs : List V} {us : List Value} {i : Nat}, Vals xs us → xs[i]? = none → us[i]? = none := fun {xs us i} r e => by
  have h1 := r.length
  have h2 : xs.length ≤ i := List.getElem?_eq_none_iff.mp e
  exact List.getElem?_eq_none_iff.mpr (by omega)

noncomputable def RelO : Option V → Option Value → Prop
  | some v, some u => RelV v u
  | none, none => True
  | _, _ => False
noncomputable def KV {κ : Type} : List (κ × V) → List (κ × Value) → Prop := Paired fun (p : κ × V) (q : κ × Value) => p.1 = q.1 ∧ RelV p.2 q.2

/-- a key of a dict (00_mix): an int or a text -/
noncomputable def kV : Key → V
  | .inl i => .int i
  | .inr x => .str x

/-- what stands at a tracked address -/
inductive HO where
  /-- a list -/
  | lst (xs : List V)
  /-- a tuple (never changes) -/
  | tup (xs : List V)
  /-- a dict whose keys are ints and texts; one whose keys are tuples of ints and texts (the empty one is both) -/
  | dK (kvs : List (Key × V)) | dT (kvs : List (List Key × V))
  /-- a set of ints: its members, its size -/
  | set (S : Int → Bool) (n : Nat)
  /-- an instance of the class at C, its dict at dx, its attributes -/
  | ins (C dx : Addr) (fs : List (Str × V))
  /-- the dict of the instance at x -/
  | own (x : Addr)
  /-- the dict of an exception -/
  | xd (fs : List (Str × V))
  /-- a bound method, f of x -/
  | met (f x : Addr)
  /-- a range object lo, lo + 1, .. below hi -/
  | rng (lo hi : Int)
  /-- a thing that is known to the object (the script; a dict while a loop walks it): read, never written while it is so -/
  | frz (o : Obj) (u : HO)
  /-- a code object's table -/
  | tbl (ps : Array Value)
  /-- any other thing, by what is true of its one object (a def of one's own: SetO a S n := HO.ext fun h => ..) -/
  | ext (φ : Heap → Prop)

noncomputable abbrev Hp := Addr → Option HO
noncomputable def upd (H : Hp) (a : Addr) (o : HO) : Hp := fun b => if b = a then some o else H b
theorem upd_same {H : Hp} {a : Addr} {o : HO} : upd H a o a = some o := by unfold upd; rw [if_pos rfl]
theorem upd_ne {H : Hp} {a b : Addr} {o : HO} (h : b ≠ a) : upd H a o b = H b := by unfold upd; rw [if_neg h]
theorem upd_upd {H : Hp} {a : Addr} {o u : HO} : upd (upd H a o) a u = upd H a u := by
  funext b; unfold upd; split <;> rfl
theorem ne_of_none {H : Hp} {a b : Addr} {o : HO} (h : H a = some o) (h' : H b = none) : a ≠ b := by
  intro e; subst e; rw [h] at h'; cases h'

section
variable (P : Program) (w : World)
noncomputable def ObjOk (H : Hp) (h : Heap) (a : Addr) : HO → Prop
  | .lst xs => xs.length ≤ sizeLine ∧ ∃ (its : List Value) (n : Nat), Vals xs its ∧ h.get? a = some { cls := .type "list", data := .seq its.toArray n }
  | .tup xs => xs.length ≤ sizeLine ∧ ∃ its : List Value, Vals xs its ∧ IsTup h a its.toArray
  | .dK kvs => kvs.length ≤ sizeLine ∧ (a == sysModules) = false ∧ ∃ vs, KV kvs vs ∧ h.DictOf (mixKind P w) a vs
  | .dT kvs => kvs.length ≤ sizeLine ∧ (a == sysModules) = false ∧ ∃ xs : List (List Key × Addr × Value),
      Paired (fun (p : List Key × V) (q : List Key × Addr × Value) => p.1 = q.1 ∧ H q.2.1 = some (.tup (p.1.map kV)) ∧ RelV p.2 q.2.2) kvs xs ∧
      ∃ o es ep, h.get? a = some o ∧ o.ExactDict ∧ o.data = .dict es ep ∧ es.toList = xs.map (entryOfKey (tupleKind (mixKind P w))) ∧ (xs.map (·.1)).Nodup
  | .set S n => h.SetOf (intKind P w) a S n
  | .ins C dx fs => H dx = some (.own a) ∧ fs.length ≤ 1000 ∧ dx ≠ a ∧ h.get? a = some (PySem.W.instObj C dx) ∧
      ∃ mA, h.Ns1 dx mA ∧ (∀ f, RelO (fs.lookup f) (mA f)) ∧ PySem.Within mA (fs.map (·.1))
  | .own _ => ∃ o, h.get? a = some o
  | .xd fs => ∃ mA, h.Ns1 a mA ∧ ∀ f, RelO (fs.lookup f) (mA f)
  | .rng lo hi => ∃ t u v, h.get? a = some { cls := .type "range", data := .fields #[.int lo t, .int hi u, .int 1 v] }
  | .frz o u => h.get? a = some o ∧ ObjOk H h a u
  | .tbl ps => h.get? a = some { cls := .none, data := .fields ps }
  | .met f x => h.get? a = some (PySem.W.methodObj (.ref f) (.ref x))
  | .ext φ => φ h ∧ (∃ o, h.get? a = some o) ∧ ∀ h1 h2 : Heap, φ h1 → (∀ o, h1.get? a = some o → h2.get? a = some o) → φ h2
/-- the abstract heap is held -/
noncomputable def HOk (H : Hp) (h : Heap) : Prop := ∀ a o, H a = some o → ObjOk P w H h a o
end

section
variable {P : Program} {w : World} {H H' : Hp} {h h' : Heap} {a : Addr} {o : HO}
theorem ObjOk.lt (x : ObjOk P w H h a o) : a < h.objs.size := by
  cases o with
  | lst xs => obtain ⟨_, _, _, _, e⟩ := x; exact Heap.lt_size e
  | tup xs => obtain ⟨_, _, _, p⟩ := x; exact p.lt
  | dK kvs => obtain ⟨_, _, _, _, o, _, _, e, _⟩ := x; exact Heap.lt_size e
  | dT kvs => obtain ⟨_, _, _, _, o, _, _, e, _⟩ := x; exact Heap.lt_size e
  | set S n => obtain ⟨o, _, _, _, e, _⟩ := x; exact Heap.lt_size e
  | ins C dx fs => obtain ⟨_, _, _, e, _⟩ := x; exact Heap.lt_size e
  | own y => obtain ⟨_, e⟩ := x; exact Heap.lt_size e
  | xd fs => obtain ⟨_, ⟨_, _, _, e, _⟩, _⟩ := x; exact Heap.lt_size e
  | rng lo hi => obtain ⟨_, _, _, e⟩ := x; exact Heap.lt_size e
  | frz ob u => obtain ⟨e, _⟩ := x; exact Heap.lt_size e
  | tbl ps => exact Heap.lt_size (show h.get? a = some _ from x)
  | met f y => exact Heap.lt_size (show h.get? a = some _ from x)
  | ext φ => obtain ⟨_, ⟨_, e⟩, _⟩ := x; exact Heap.lt_size e
theorem Paired.mapP {α β : Type} {F G : α → β → Prop} : ∀ {l₁ : List α} {l₂ : List β}, Paired F l₁ l₂ → (∀ a b, F a b → G a b) → Paired G l₁ l₂
  | _, _, .nil, _ => .nil
  | _, _, .cons r t, f => .cons (f _ _ r) (Paired.mapP t f)
/-- what an object's description leans on: its own object, its own dict, the tuples -/
theorem ObjOk.stay (x : ObjOk P w H h a o) (k : ∀ b u, (b = a ∨ H b = some (.own a)) → h.get? b = some u → h'.get? b = some u)
    (ho : ∀ b, H b = some (.own a) → H' b = some (.own a)) (ht : ∀ b xs, H b = some (.tup xs) → H' b = some (.tup xs)) : ObjOk P w H' h' a o := by
  induction o with
  | lst xs => obtain ⟨z, its, n, r, e⟩ := x; exact ⟨z, its, n, r, k _ _ (.inl rfl) e⟩
  | tup xs => obtain ⟨z, its, r, ob, e, c⟩ := x; exact ⟨z, its, r, ob, k _ _ (.inl rfl) e, c⟩
  | dK kvs => obtain ⟨z, y, vs, r, ob, es, ep, e, c⟩ := x; exact ⟨z, y, vs, r, ob, es, ep, k _ _ (.inl rfl) e, c⟩
  | dT kvs =>
    obtain ⟨z, y, xs, r, ob, es, ep, e, c⟩ := x
    exact ⟨z, y, xs, Paired.mapP r fun p q z => ⟨z.1, ht _ _ z.2.1, z.2.2⟩, ob, es, ep, k _ _ (.inl rfl) e, c⟩
  | set S n => obtain ⟨ob, es, ep, t, e, c⟩ := x; exact ⟨ob, es, ep, t, k _ _ (.inl rfl) e, c⟩
  | ins C dx fs =>
    obtain ⟨d, z, ne, e, mA, ⟨od, es, ep, e2, c⟩, r⟩ := x
    exact ⟨ho _ d, z, ne, k _ _ (.inl rfl) e, mA, ⟨od, es, ep, k _ _ (.inr d) e2, c⟩, r⟩
  | own y => obtain ⟨ob, e⟩ := x; exact ⟨ob, k _ _ (.inl rfl) e⟩
  | xd fs => obtain ⟨mA, ⟨od, es, ep, e, c⟩, r⟩ := x; exact ⟨mA, ⟨od, es, ep, k _ _ (.inl rfl) e, c⟩, r⟩
  | rng lo hi => obtain ⟨t, u, v, e⟩ := x; exact ⟨t, u, v, k _ _ (.inl rfl) e⟩
  | frz ob u ih => obtain ⟨e, q⟩ := x; exact ⟨k _ _ (.inl rfl) e, ih q⟩
  | tbl ps =>
    have e : h.get? a = some { cls := .none, data := .fields ps } := x
    show h'.get? a = some { cls := .none, data := .fields ps }
    exact k a _ (.inl rfl) e
  | met f y =>
    have e : h.get? a = some (PySem.W.methodObj (.ref f) (.ref y)) := x
    show h'.get? a = some (PySem.W.methodObj (.ref f) (.ref y))
    exact k a _ (.inl rfl) e
  | ext φ => obtain ⟨p, ⟨o, e⟩, st⟩ := x; exact ⟨st _ _ p fun o q => k _ _ (.inl rfl) q, ⟨o, k _ _ (.inl rfl) e⟩, st⟩
theorem HOk.lt (x : HOk P w H h) (e : H a = some o) : a < h.objs.size := (x a o e).lt
theorem HOk.fresh (x : HOk P w H h) (e : h.objs.size ≤ a) : H a = none := by
  cases q : H a with
  | none => rfl
  | some u => exact absurd (Nat.lt_of_lt_of_le (x.lt q) e) (Nat.lt_irrefl _)
/-- every object of the heap is kept -/
theorem HOk.kept (x : HOk P w H h) (k : ∀ b u, h.get? b = some u → h'.get? b = some u) : HOk P w H h' := fun a o e =>
  (x a o e).stay (fun b u _ q => k b u q) (fun _ q => q) fun _ _ q => q
/-- a new object is laid and tracked -/
theorem HOk.laid (x : HOk P w H h) (k : ∀ b u, h.get? b = some u → h'.get? b = some u) (hp : h.objs.size ≤ a) (new : ObjOk P w (upd H a o) h' a o) : HOk P w (upd H a o) h' := fun b u e => by
  have hn := x.fresh hp
  by_cases hb : b = a
  · subst hb; rw [upd_same] at e; cases e; exact new
  · rw [upd_ne hb] at e
    exact (x b u e).stay (fun c v _ q => k c v q) (fun c q => by rw [upd_ne (ne_of_none q hn)]; exact q) fun c xs q => by rw [upd_ne (ne_of_none q hn)]; exact q
end

/-- what may be read as u: it is u, or a known u -/
noncomputable def Rd (H : Hp) (a : Addr) (u : HO) : Prop := H a = some u ∨ ∃ o, H a = some (.frz o u)
theorem Rd.of {H : Hp} {a : Addr} {u : HO} (h : H a = some u) : Rd H a u := .inl h
theorem Rd.ok {P : Program} {w : World} {H : Hp} {h : Heap} {a : Addr} {u : HO} (r : Rd H a u) (x : HOk P w H h) : ObjOk P w H h a u := by
  rcases r with r | ⟨o, r⟩
  · exact x a u r
  · obtain ⟨_, q⟩ := x a _ r
    exact q
/-- what may be written -/
noncomputable def Mut : Option HO → Prop
  | some (.lst _) => True
  | some (.dK _) => True
  | some (.dT _) => True
  | some (.set _ _) => True
  | some (.ins _ _ _) => True
  | some (.ext _) => True
  | _ => False
section
variable {P : Program} {w : World} {H : Hp} {h h' : Heap} {x e : Addr} {o' : HO}
/-- the object at e is changed: x itself, or the dict of the instance x -/
theorem HOk.write (ok : HOk P w H h) (mu : Mut (H x)) (he : e = x ∨ H e = some (.own x)) (k : ∀ b u, b ≠ e → h.get? b = some u → h'.get? b = some u) (heo : ∃ u, h'.get? e = some u)
    (new : ObjOk P w (upd H x o') h' x o') : HOk P w (upd H x o') h' := fun b u q => by
  have nown : ∀ c y, H c = some (.own y) → c ≠ x := fun c y r z => by subst z; rw [r] at mu; exact mu
  have ntup : ∀ c xs, H c = some (.tup xs) → c ≠ x := fun c xs r z => by subst z; rw [r] at mu; exact mu
  by_cases hb : b = x
  · subst hb; rw [upd_same] at q; cases q; exact new
  · rw [upd_ne hb] at q
    by_cases hbe : b = e
    · have q' : H b = some (.own x) := by
        rcases he with z | z
        · exact absurd (hbe.trans z) hb
        · rw [hbe]; exact z
      rw [q] at q'; cases q'
      obtain ⟨v, hv⟩ := heo
      exact ⟨v, by rw [hbe]; exact hv⟩
    · refine (ok b u q).stay (fun c v hc r => k c v ?_ r) (fun c r => by rw [upd_ne (nown c b r)]; exact r) fun c xs r => by rw [upd_ne (ntup c xs r)]; exact r
      rcases hc with rfl | hc
      · exact hbe
      · rintro rfl
        rcases he with z | z
        · exact nown c b hc z
        · rw [hc] at z; cases z; exact hb rfl
end

/-! ### kept unless tracked; of the frames at fs (the callers') the slots may change (an exception that passes writes there); of the records at ex (iterators) nothing is said -/
structure Un (fs ex : List Addr) (H H' : Hp) (h h' : Heap) : Prop where
  keep : ∀ b o, h.get? b = some o → H b = none → b ∉ fs → b ∉ ex → h'.get? b = some o
  slot : ∀ b o, h.get? b = some o → H b = none → b ∈ fs → b ∉ ex → ∃ sl, h'.get? b = some { o with slots := sl }
  free : ∀ b o, h.get? b = some o → H b = none → b ∉ ex → H' b = none
  there : ∀ b o, h.get? b = some o → b ∉ ex → ∃ o', h'.get? b = some o'
  tups : ∀ b xs, H b = some (.tup xs) → H' b = some (.tup xs)
  frzs : ∀ b o u, H b = some (.frz o u) → H' b = some (.frz o u)
  tbls : ∀ b ps, H b = some (.tbl ps) → ∃ more, H' b = some (.tbl (ps ++ more))
section
variable {fs fs' ex ex' : List Addr} {H H1 H2 : Hp} {h h1 h2 h' : Heap} {a x e : Addr} {o : HO}
theorem Un.any (u : Un fs ex H H1 h h1) {b : Addr} {ob : Obj} (q : h.get? b = some ob) (n : H b = none) (hx : b ∉ ex) : ∃ sl, h1.get? b = some { ob with slots := sl } := by
  by_cases hb : b ∈ fs
  · exact u.slot b ob q n hb hx
  · exact ⟨ob.slots, u.keep b ob q n hb hx⟩
theorem Un.trans (a : Un fs ex H H1 h h1) (b : Un fs ex H1 H2 h1 h2) : Un fs ex H H2 h h2 where
  keep := fun c ob q n hc hx => b.keep c ob (a.keep c ob q n hc hx) (a.free c ob q n hx) hc hx
  slot := fun c ob q n hc hx => by
    obtain ⟨sl, e1⟩ := a.slot c ob q n hc hx
    obtain ⟨sl', e2⟩ := b.slot c _ e1 (a.free c ob q n hx) hc hx
    exact ⟨sl', e2⟩
  free := fun c ob q n hx => by
    obtain ⟨o', e1⟩ := a.there c ob q hx
    exact b.free c o' e1 (a.free c ob q n hx) hx
  there := fun c ob q hx => by
    obtain ⟨o', e1⟩ := a.there c ob q hx
    exact b.there c o' e1 hx
  tups := fun c xs q => b.tups c xs (a.tups c xs q)
  frzs := fun c ob xs q => b.frzs c ob xs (a.frzs c ob xs q)
  tbls := fun c ps q => by
    obtain ⟨m1, e1⟩ := a.tbls c ps q
    obtain ⟨m2, e2⟩ := b.tbls c _ e1
    exact ⟨m1 ++ m2, by rw [e2, Array.append_assoc]⟩
theorem Un.kept (k : ∀ b u, h.get? b = some u → h'.get? b = some u) : Un fs ex H H h h' :=
  ⟨fun b ob q _ _ _ => k b ob q, fun b ob q _ _ _ => ⟨ob.slots, k b ob q⟩, fun _ _ _ n _ => n, fun b ob q _ => ⟨ob, k b ob q⟩, fun _ _ q => q, fun _ _ _ q => q, fun _ ps q => ⟨#[], by rw [q]; simp⟩⟩
theorem Un.refl : Un fs ex H H h h := Un.kept fun _ _ q => q
theorem Un.laid (k : ∀ b u, h.get? b = some u → h'.get? b = some u) (hp : h.objs.size ≤ a) (hn : H a = none) : Un fs ex H (upd H a o) h h' where
  keep := fun b u q _ _ _ => k b u q
  slot := fun b u q _ _ _ => ⟨u.slots, k b u q⟩
  free := fun b u q n _ => by rw [upd_ne (Nat.ne_of_lt (Nat.lt_of_lt_of_le (Heap.lt_size q) hp))]; exact n
  there := fun b u q _ => ⟨u, k b u q⟩
  tups := fun b xs q => by rw [upd_ne (ne_of_none q hn)]; exact q
  frzs := fun b u xs q => by rw [upd_ne (ne_of_none q hn)]; exact q
  tbls := fun b ps q => ⟨#[], by rw [upd_ne (ne_of_none q hn), q]; simp⟩
theorem Un.write (mu : Mut (H x)) (he : e = x ∨ H e = some (.own x)) (k : ∀ b u, b ≠ e → h.get? b = some u → h'.get? b = some u) (heo : ∃ u, h'.get? e = some u) : Un fs ex H (upd H x o) h h' := by
  have hx : ∀ b, H b = none → b ≠ x := fun b n z => by subst z; rw [n] at mu; exact mu
  have hb : ∀ b, H b = none → b ≠ e := fun b n z => by
    subst z
    rcases he with r | r
    · exact hx b n r
    · rw [n] at r; cases r
  have hm : ∀ b u, H b = some u → ¬ Mut (some u) → b ≠ x := fun b u q nm z => by subst z; rw [q] at mu; exact nm mu
  refine ⟨fun b u q n _ _ => k b u (hb b n) q, fun b u q n _ _ => ⟨u.slots, k b u (hb b n) q⟩, fun b u q n _ => by rw [upd_ne (hx b n)]; exact n, fun b u q _ => ?_,
    fun b xs q => by rw [upd_ne (hm b _ q fun z => z)]; exact q, fun b u xs q => by rw [upd_ne (hm b _ q fun z => z)]; exact q, fun b ps q => ⟨#[], by rw [upd_ne (hm b _ q fun z => z), q]; simp⟩⟩
  by_cases hbe : b = e
  · subst hbe; exact heo
  · exact ⟨u, k b u hbe q⟩
theorem Un.mono (u : Un fs ex H H1 h h1) (hs : ∀ b ∈ fs, b ∈ fs') (hx : ∀ b ∈ ex, b ∈ ex') : Un fs' ex' H H1 h h1 :=
  ⟨fun b ob q n hb he => u.keep b ob q n (fun z => hb (hs b z)) fun z => he (hx b z), fun _ _ q n _ he => u.any q n fun z => he (hx _ z), fun b ob q n he => u.free b ob q n fun z => he (hx b z), fun b ob q he => u.there b ob q fun z => he (hx b z), u.tups, u.frzs, u.tbls⟩
end

/-! ### the heap without what is tracked -/
noncomputable def trk (h : Heap) (H : Hp) : List Addr := (List.range h.objs.size).filter fun a => (H a).isSome
noncomputable def hidT (h : Heap) (H : Hp) : Heap := PySem.W.hideAll h (trk h H)
theorem hidT_size (h : Heap) (H : Hp) : (hidT h H).objs.size = h.objs.size := PySem.W.hideAll_size _ _
theorem hidT_get {h : Heap} {H : Hp} {b : Addr} {o : Obj} (e : h.get? b = some o) (n : H b = none) : (hidT h H).get? b = some o :=
  PySem.W.hideAll_get _ e fun hm => by
    have q : (H b).isSome = true := (List.mem_filter.mp hm).2
    rw [n] at q; simp at q
theorem of_hidT {h : Heap} {H : Hp} {b : Addr} {o : Obj} (e : (hidT h H).get? b = some o) : h.get? b = some o ∧ H b = none := by
  have e' : h.get? b = some o := PySem.W.of_hideAll (trk h H) e
  refine ⟨e', ?_⟩
  cases q : H b with
  | none => rfl
  | some x =>
    have hm : b ∈ trk h H := List.mem_filter.mpr ⟨List.mem_range.mpr (Heap.lt_size e'), by simp [q]⟩
    have z : (hidT h H).get? b = none := PySem.W.hideAll_none (trk h H) hm
    rw [z] at e; cases e

/-! ### OpenK's ledger, filled with every new object but one -/
noncomputable def allNews (g h : Heap) (L : Addr) : List (Addr × Obj) := (List.range h.objs.size).filterMap fun a => if a = L ∨ (g.get? a).isSome = true then none else (h.get? a).map fun o => (a, o)
noncomputable def rest (g h : Heap) (L d : Addr) : List (Addr × Obj) := (allNews g h L).filter fun p => decide (p.1 ≠ d)
end L2

namespace L2
open PySem PySem.Spec PyProof.Rows

/-- the module's facts, over the base: the heap at the law's entry without what is tracked there -/
structure Mod (K : PySem.W.Frag) (mg : Str → Option Value) (base : Heap) : Prop where
  kin : K.In base
  glob : base.Ns mainGlobals mg
  blt : ∃ mb, base.Ns builtinsNs mb ∧ ∀ x : Str, x ≠ "__name__" → mb x = bootBuiltins x
  nolimit : base.NoLimit

/-- the context: a def's body (or a comprehension's block) running. base: fixed through the whole law; s₀, H₀: the entry; outer: the frames whose slots others may change (a def's callers); stack: all frames that run;
   ex: iterators that were made ahead of the entry and are walked here (a comprehension's); fn: the names whose cells were made at the entry (a def: all; a comprehension's block: its own); calm: not within an except suite; pn: pins that every state bears; xe: what is wanted of an exception that leaves the code -/
structure Cx where
  prog : Program
  w : World
  K : PySem.W.Frag
  mg : Str → Option Value
  base : Heap
  A : Around
  N : List Str
  s₀ : Shared
  H₀ : Hp
  env : Env
  outer : List Env
  stack : List Env
  ex : List Addr
  fn : Str → Bool
  calm : Bool
  pn : List (Addr × Obj)
  xe : Value → Shared → Prop
/-- the callers' frames -/
noncomputable def frs (l : List Env) : List Addr := l.filterMap (·.frame)
noncomputable abbrev Cx.fs (X : Cx) : List Addr := frs X.outer

noncomputable def Vis (sc : Scope) (x : Str) : Prop := sc.names.lookup x = some .local ∨ sc.names.lookup x = some .cell ∨ sc.names.lookup x = some .free
noncomputable def Loc (sc : Scope) (x : Str) : Prop := sc.names.lookup x = some .local ∨ sc.names.lookup x = some .cell
noncomputable def Look (env : Env) (h : Heap) (m : Str → Option Value) (x : Str) (u : Value) : Prop :=
  (env.kindOf x = some .local ∧ m x = some u) ∨ ((env.kindOf x = some .cell ∨ env.kindOf x = some .free) ∧ ∃ c, env.cells.lookup x = some c ∧ h.IsCell c (some u))

structure Cx.Ok (X : Cx) : Prop where
  mod : Mod X.K X.mg X.base
  kind : X.env.scope.kind = .function
  glob : X.env.globals = mainGlobals
  blt : X.env.builtins = builtinsNs
  above : X.s₀.heap.objs.size ≤ X.env.locals
  inj : ∀ x y c, X.env.cells.lookup x = some c → X.env.cells.lookup y = some c → x = y
  has : ∀ x, (X.env.kindOf x = some .cell ∨ X.env.kindOf x = some .free) → ∃ c, X.env.cells.lookup x = some c
  cab : ∀ x c, X.fn x = true → X.env.cells.lookup x = some c → X.s₀.heap.objs.size ≤ c
  hd : X.calm = true → X.A.handled = none
  frames : X.A.frames = some X.stack
  stk : X.stack = X.outer ∨ (X.stack = X.env :: X.outer ∧ X.env.frame = some X.env.locals)
  exf : ∀ b ∈ X.ex, b ≠ X.env.locals ∧ ∀ x c, X.env.cells.lookup x = some c → c ≠ b
  bs : ∀ b o, X.base.get? b = some o → X.s₀.heap.get? b = some o ∧ X.H₀ b = none
  bsz : X.base.objs.size ≤ X.s₀.heap.objs.size
  noex : ∀ b o, X.base.get? b = some o → b ∉ X.ex
  exfs : ∀ b ∈ X.ex, b ∉ X.fs
  funs : X.s₀.heap.FunFrames X.base X.outer
  frf : ∀ b ∈ X.fs, X.H₀ b = none

structure Inv (X : Cx) (pins : List (Addr × Obj)) (σ : List (Option V)) (H : Hp) (s : Shared) : Prop where
  ok : X.Ok
  os : s.os = X.s₀.os
  bare : AllBare s.gens
  base : Un X.fs X.ex X.H₀ H X.s₀.heap s.heap
  loc : ∃ m, s.heap.Ns X.env.locals m ∧ ∀ (i : Nat) (x : Str) (v : V), X.N[i]? = some x → σ[i]? = some (some v) → Vis X.env.scope x → ∃ u, RelV v u ∧ Look X.env s.heap m x u
  cell : ∀ x c, X.env.cells.lookup x = some c → ∃ v, s.heap.IsCell c v
  free : H X.env.locals = none
  freeC : ∀ x c, X.env.cells.lookup x = some c → H c = none
  pin : ∀ p ∈ X.pn ++ pins, s.heap.get? p.1 = some p.2 ∧ H p.1 = none ∧ p.1 ≠ X.env.locals ∧ p.1 ∉ X.fs ∧ ∀ v, p.2.data ≠ .cell v
  hok : HOk X.prog X.w H s.heap
  len : σ.length = X.N.length

section
variable {X : Cx} {pins : List (Addr × Obj)} {σ : List (Option V)} {H H' : Hp} {s : Shared} {h' : Heap}

theorem Cx.Ok.nofr (ok : X.Ok) {b : Addr} {o : Obj} (e : X.base.get? b = some o) : b ∉ X.fs := fun hb => by
  have := (ok.funs.mem hb).1
  rw [e] at this; cases this
theorem Inv.bs (I : Inv X pins σ H s) : ∀ b o, X.base.get? b = some o → s.heap.get? b = some o ∧ H b = none := fun b o e =>
  ⟨I.base.keep b o (I.ok.bs b o e).1 (I.ok.bs b o e).2 (I.ok.nofr e) (I.ok.noex b o e), I.base.free b o (I.ok.bs b o e).1 (I.ok.bs b o e).2 (I.ok.noex b o e)⟩
theorem Inv.bk (I : Inv X pins σ H s) : ∀ b o, X.base.get? b = some o → s.heap.get? b = some o := fun b o e => (I.bs b o e).1
theorem Inv.mod (I : Inv X pins σ H s) : Mod X.K X.mg X.base := I.ok.mod
theorem Inv.kIn (I : Inv X pins σ H s) : X.K.In s.heap := I.ok.mod.kin.keeps I.bk
theorem Inv.nolimit (I : Inv X pins σ H s) : s.heap.NoLimit := I.ok.mod.nolimit.keeps I.bk
/-- the frame over the base: for OpenK's rules (K.In X.base is I.mod.kin) -/
theorem Inv.fr (I : Inv X pins σ H s) : ∃ m, Fr X.base X.env.locals s.heap m :=
  let ⟨m, hn, _⟩ := I.loc
  ⟨m, hn, I.bk, Nat.le_trans I.ok.bsz I.ok.above⟩
theorem Inv.lt (I : Inv X pins σ H s) : X.env.locals < s.heap.objs.size := let ⟨_, hn, _⟩ := I.loc; hn.lt
theorem Inv.sz (I : Inv X pins σ H s) : X.s₀.heap.objs.size ≤ s.heap.objs.size := Nat.le_trans I.ok.above (Nat.le_of_lt I.lt)
theorem Inv.nofs (I : Inv X pins σ H s) {a : Addr} (h : s.heap.objs.size ≤ a) : a ∉ X.fs := fun hb => by
  obtain ⟨_, o, ho, _⟩ := I.ok.funs.mem hb
  exact absurd (Nat.lt_of_lt_of_le (Heap.lt_size ho) (Nat.le_trans I.sz h)) (Nat.lt_irrefl _)
theorem Inv.cne (I : Inv X pins σ H s) : ∀ x c, X.env.cells.lookup x = some c → c ≠ X.env.locals := fun x c e z => by
  obtain ⟨v, o, ho, hd⟩ := I.cell x c e
  obtain ⟨m, ⟨o', es, ep, ho', hd', _⟩, _⟩ := I.loc
  rw [z, ho'] at ho; cases ho; rw [hd'] at hd; cases hd
theorem Inv.funs (I : Inv X pins σ H s) : s.heap.FunFrames X.base X.outer := by
  have all : ∀ (l : List Env), (∀ b ∈ frs l, b ∈ X.fs) → X.s₀.heap.FunFrames X.base l → s.heap.FunFrames X.base l := by
    intro l
    induction l with
    | nil => intro _ _; trivial
    | cons env r ih =>
      intro hs hl
      obtain ⟨hk, ⟨L, o, hf, hn, ho, hd⟩, hr⟩ := hl
      have hL : L ∈ X.fs := hs L (by unfold frs; rw [List.filterMap_cons, hf]; exact List.mem_cons_self)
      obtain ⟨sl, e⟩ := I.base.slot L o ho (I.ok.frf L hL) hL fun z => I.ok.exfs L z hL
      exact ⟨hk, ⟨L, _, hf, hn, e, hd⟩, ih (fun b hb => hs b (by unfold frs; rw [List.filterMap_cons, hf]; exact List.mem_cons_of_mem _ hb)) hr⟩
  exact all X.outer (fun _ hb => hb) I.ok.funs

/-- the frames that run, for a call -/
theorem Inv.stack (I : Inv X pins σ H s) : s.heap.FunFrames X.base X.stack := by
  rcases I.ok.stk with e | ⟨e, hf⟩
  · rw [e]; exact I.funs
  · rw [e]
    obtain ⟨m, hn, _⟩ := I.loc
    refine .cons (by rw [I.ok.kind]; decide) hf hn ?_ I.funs
    exact Heap.get?_none_of_le (Nat.le_trans I.ok.bsz I.ok.above)
theorem Inv.stkSub (I : Inv X pins σ H s) : ∀ b ∈ frs X.stack, b ∈ X.env.locals :: X.fs := fun b hb => by
  rcases I.ok.stk with e | ⟨e, hf⟩
  · rw [e] at hb; exact List.mem_cons_of_mem _ hb
  · rw [e] at hb
    unfold frs at hb
    rw [List.filterMap_cons, hf] at hb
    exact hb
theorem Inv.stkFree (I : Inv X pins σ H s) : ∀ b ∈ frs X.stack, H b = none := fun b hb => by
  rcases List.mem_cons.mp (I.stkSub b hb) with e | hb
  · rw [e]; exact I.free
  · obtain ⟨_, o, ho, _⟩ := I.ok.funs.mem hb
    exact I.base.free b o ho (I.ok.frf b hb) fun z => I.ok.exfs b z hb

/-- THE STEP: the untracked objects but the frame and the records at ch are kept (the callers' frames up to slots), the frame's map is kept, the new abstract heap is held -/
theorem Inv.step {g' : Array GenState} {t' : Nat} {d' : Drawn} {ch : List Addr} (I : Inv X pins σ H s)
    (hch : ∀ b ∈ ch, (b ∈ X.ex ∨ X.s₀.heap.objs.size ≤ b) ∧ b ≠ X.env.locals ∧ (∀ x c, X.env.cells.lookup x = some c → c ≠ b) ∧ ∀ p ∈ X.pn ++ pins, p.1 ≠ b)
    (keep : ∀ b o, b ≠ X.env.locals → b ∉ X.fs → b ∉ ch → s.heap.get? b = some o → H b = none → h'.get? b = some o)
    (slot : ∀ b o, b ≠ X.env.locals → b ∈ X.fs → b ∉ ch → s.heap.get? b = some o → H b = none → ∃ sl, h'.get? b = some { o with slots := sl }) (free : ∀ b o, b ∉ ch → s.heap.get? b = some o → H b = none → H' b = none)
    (there : ∀ b o, b ∉ ch → s.heap.get? b = some o → ∃ o', h'.get? b = some o')
    (tups : ∀ b xs, H b = some (.tup xs) → H' b = some (.tup xs)) (frzs : ∀ b o u, H b = some (.frz o u) → H' b = some (.frz o u)) (tbls : ∀ b ps, H b = some (.tbl ps) → ∃ more, H' b = some (.tbl (ps ++ more)))
    (ns : ∀ m, s.heap.Ns X.env.locals m → h'.Ns X.env.locals m) (hok : HOk X.prog X.w H' h') (hg : AllBare g') :
    Inv X pins σ H' { s with heap := h', gens := g', drawn := d', toks := t' } := by
  have neL : ∀ b o, X.s₀.heap.get? b = some o → b ≠ X.env.locals := fun b o e => Nat.ne_of_lt (Nat.lt_of_lt_of_le (Heap.lt_size e) I.ok.above)
  have neC : ∀ b o, X.s₀.heap.get? b = some o → b ∉ X.ex → b ∉ ch := fun b o e hx hb => by
    rcases (hch b hb).1 with z | z
    · exact hx z
    · exact absurd (Nat.lt_of_lt_of_le (Heap.lt_size e) z) (Nat.lt_irrefl _)
  have cellK : ∀ x c, X.env.cells.lookup x = some c → ∀ v, s.heap.IsCell c v → h'.IsCell c v := fun x c e v ⟨o, ho, hd⟩ => by
    have nch : c ∉ ch := fun z => (hch c z).2.2.1 x c e rfl
    by_cases hc : c ∈ X.fs
    · obtain ⟨sl, q⟩ := slot c o (I.cne x c e) hc nch ho (I.freeC x c e)
      exact ⟨_, q, hd⟩
    · exact ⟨o, keep c o (I.cne x c e) hc nch ho (I.freeC x c e), hd⟩
  refine ⟨I.ok, I.os, hg, ⟨fun b o e n hb hx => ?_, fun b o e n hb hx => ?_, fun b o e n hx => ?_, fun b o e hx => ?_, fun b xs e => tups b xs (I.base.tups b xs e), fun b o xs e => frzs b o xs (I.base.frzs b o xs e), fun b ps e => ?_⟩, ?_, fun x c e => ?_, ?_, fun x c e => ?_, fun p hp => ?_, hok, I.len⟩
  · exact keep b o (neL b o e) hb (neC b o e hx) (I.base.keep b o e n hb hx) (I.base.free b o e n hx)
  · obtain ⟨sl, e1⟩ := I.base.slot b o e n hb hx
    obtain ⟨sl', e2⟩ := slot b _ (neL b o e) hb (neC b o e hx) e1 (I.base.free b o e n hx)
    exact ⟨sl', e2⟩
  · obtain ⟨o', e1⟩ := I.base.there b o e hx
    exact free b o' (neC b o e hx) e1 (I.base.free b o e n hx)
  · obtain ⟨o', e1⟩ := I.base.there b o e hx
    exact there b o' (neC b o e hx) e1
  · obtain ⟨m1, e1⟩ := I.base.tbls b ps e
    obtain ⟨m2, e2⟩ := tbls b _ e1
    exact ⟨m1 ++ m2, by rw [e2, Array.append_assoc]⟩
  · obtain ⟨m, hn, hl⟩ := I.loc
    refine ⟨m, ns m hn, fun i x v e1 e2 e3 => ?_⟩
    obtain ⟨u, r, l⟩ := hl i x v e1 e2 e3
    refine ⟨u, r, ?_⟩
    rcases l with l | ⟨k, c, e, z⟩
    · exact .inl l
    · exact .inr ⟨k, c, e, cellK x c e _ z⟩
  · obtain ⟨v, z⟩ := I.cell x c e
    exact ⟨v, cellK x c e v z⟩
  · obtain ⟨m, ⟨o, _, _, ho, _⟩, _⟩ := I.loc
    exact free _ o (fun z => (hch _ z).2.1 rfl) ho I.free
  · obtain ⟨v, o, ho, hd⟩ := I.cell x c e
    exact free c o (fun z => (hch c z).2.2.1 x c e rfl) ho (I.freeC x c e)
  · obtain ⟨e, n, ne, nf, d⟩ := I.pin p hp
    have nch : p.1 ∉ ch := fun z => (hch p.1 z).2.2.2 p hp rfl
    exact ⟨keep p.1 p.2 ne nf nch e n, free p.1 p.2 nch e n, ne, nf, d⟩
/-- .. where the frame's own object is kept too -/
theorem Inv.un {t' : Nat} (I : Inv X pins σ H s) (u : Un X.fs [] H H' s.heap h') (hok : HOk X.prog X.w H' h') : Inv X pins σ H' { s with heap := h', toks := t' } := by
  obtain ⟨m, ⟨o, es, ep, ho, r⟩, _⟩ := id I.loc
  obtain ⟨sl, hL⟩ := u.any ho I.free (by simp)
  exact I.step (g' := s.gens) (d' := s.drawn) (ch := []) (fun _ z => nomatch z) (fun b o _ hb _ e n => u.keep b o e n hb (by simp)) (fun b o _ hb _ e n => u.slot b o e n hb (by simp)) (fun b o _ e n => u.free b o e n (by simp)) (fun b o _ e => u.there b o e (by simp)) u.tups u.frzs u.tbls (fun m' hm => by
    obtain ⟨o', es', ep', ho', r'⟩ := hm
    rw [ho] at ho'; cases ho'
    exact ⟨_, es', ep', hL, r'⟩) hok I.bare
/-- behind a call (or a comprehension's block): the slots of this frame may have changed too, the records at ch may have turned -/
theorem Inv.call {g' : Array GenState} {t' : Nat} {d' : Drawn} {ch : List Addr} (I : Inv X pins σ H s) (u : Un (frs X.stack) ch H H' s.heap h') (hok : HOk X.prog X.w H' h') (hg : AllBare g')
    (hch : ∀ b ∈ ch, (b ∈ X.ex ∨ X.s₀.heap.objs.size ≤ b) ∧ b ≠ X.env.locals ∧ (∀ x c, X.env.cells.lookup x = some c → c ≠ b) ∧ ∀ p ∈ X.pn ++ pins, p.1 ≠ b) :
    Inv X pins σ H' { s with heap := h', gens := g', drawn := d', toks := t' } := by
  obtain ⟨m, ⟨o, es, ep, ho, r⟩, _⟩ := id I.loc
  obtain ⟨sl, hL⟩ := u.any ho I.free fun z => (hch _ z).2.1 rfl
  exact I.step (ch := ch) hch (fun b o hL hb hc e n => u.keep b o e n (fun z => (List.mem_cons.mp (I.stkSub b z)).elim hL hb) hc) (fun b o _ _ hc e n => u.any e n hc) (fun b o hc e n => u.free b o e n hc) (fun b o hc e => u.there b o e hc) u.tups u.frzs u.tbls (fun m' hm => by
    obtain ⟨o', es', ep', ho', r'⟩ := hm
    rw [ho] at ho'; cases ho'
    exact ⟨_, es', ep', hL, r'⟩) hok hg
/-- an untracked record of ours (an iterator) has turned -/
theorem Inv.turned {t' : Nat} {it : Addr} (I : Inv X pins σ H s) (k : ∀ b o, b ≠ it → s.heap.get? b = some o → h'.get? b = some o) (hn : H it = none) (hL : it ≠ X.env.locals)
    (h1 : it ∈ X.ex ∨ X.s₀.heap.objs.size ≤ it) (h2 : ∀ x c, X.env.cells.lookup x = some c → c ≠ it) (h3 : ∀ p ∈ X.pn ++ pins, p.1 ≠ it) : Inv X pins σ H { s with heap := h', toks := t' } := by
  have nit : ∀ b u, H b = some u → b ≠ it := fun b u e z => by rw [z, hn] at e; cases e
  refine I.step (g' := s.gens) (d' := s.drawn) (ch := [it]) (fun b hb => ?_) (fun b o _ _ hc e _ => k b o (fun z => hc (by simp [z])) e) (fun b o _ _ hc e _ => ⟨o.slots, k b o (fun z => hc (by simp [z])) e⟩) (fun _ _ _ _ n => n)
    (fun b o hc e => ⟨o, k b o (fun z => hc (by simp [z])) e⟩) (fun _ _ e => e) (fun _ _ _ e => e) (fun b ps e => ⟨#[], by rw [e]; simp⟩) (fun m hm => ?_) (fun b u e => ?_) I.bare
  · have e : b = it := by simpa using hb
    subst e
    exact ⟨h1, hL, h2, h3⟩
  · obtain ⟨o, es, ep, ho, r⟩ := hm
    exact ⟨o, es, ep, k _ o (Ne.symm hL) ho, r⟩
  · refine (I.hok b u e).stay (fun c v hc q => k c v ?_ q) (fun _ q => q) fun _ _ q => q
    rcases hc with z | z
    · rw [z]; exact nit b u e
    · exact nit c _ z
theorem Inv.tok (I : Inv X pins σ H s) (t : Nat) : Inv X pins σ H { s with toks := t } := I.un (h' := s.heap) (t' := t) Un.refl I.hok
/-- all objects kept -/
theorem Inv.kept {t' : Nat} (I : Inv X pins σ H s) (k : ∀ b u, s.heap.get? b = some u → h'.get? b = some u) : Inv X pins σ H { s with heap := h', toks := t' } := I.un (Un.kept k) (I.hok.kept k)
/-- a new object laid and tracked -/
theorem Inv.laid {a : Addr} {o : HO} {t' : Nat} (I : Inv X pins σ H s) (k : ∀ b u, s.heap.get? b = some u → h'.get? b = some u) (hp : s.heap.objs.size ≤ a) (new : ObjOk X.prog X.w (upd H a o) h' a o) :
    Inv X pins σ (upd H a o) { s with heap := h', toks := t' } := I.un (Un.laid k hp (I.hok.fresh hp)) (I.hok.laid k hp new)
/-- an object written -/
theorem Inv.write {x e : Addr} {o : HO} {t' : Nat} (I : Inv X pins σ H s) (mu : Mut (H x)) (he : e = x ∨ H e = some (.own x)) (k : ∀ b u, b ≠ e → s.heap.get? b = some u → h'.get? b = some u) (heo : ∃ u, h'.get? e = some u)
    (new : ObjOk X.prog X.w (upd H x o) h' x o) : Inv X pins σ (upd H x o) { s with heap := h', toks := t' } := I.un (Un.write mu he k heo) (I.hok.write mu he k heo new)
/-- forgetting slots, pins -/
theorem Inv.weak {σ' : List (Option V)} (I : Inv X pins σ H s) (hl : σ'.length = σ.length) (w : ∀ (i : Nat) v, σ'[i]? = some (some v) → σ[i]? = some (some v)) : Inv X pins σ' H s :=
  ⟨I.ok, I.os, I.bare, I.base, let ⟨m, hn, hl'⟩ := I.loc; ⟨m, hn, fun i x v e1 e2 e3 => hl' i x v e1 (w i v e2) e3⟩, I.cell, I.free, I.freeC, I.pin, I.hok, hl.trans I.len⟩
theorem Inv.pins_of {pins' : List (Addr × Obj)} (I : Inv X pins σ H s) (h : ∀ p ∈ pins', s.heap.get? p.1 = some p.2 ∧ H p.1 = none ∧ p.1 ≠ X.env.locals ∧ p.1 ∉ X.fs ∧ ∀ v, p.2.data ≠ .cell v) : Inv X pins' σ H s :=
  ⟨I.ok, I.os, I.bare, I.base, I.loc, I.cell, I.free, I.freeC, fun p hp => (List.mem_append.mp hp).elim (fun z => I.pin p (List.mem_append_left _ z)) (h p), I.hok, I.len⟩

theorem nodup_ix {N : List Str} (hN : N.Nodup) {i j : Nat} {x : Str} (a : N[i]? = some x) (b : N[j]? = some x) : i = j := by
  obtain ⟨h1, e1⟩ := List.getElem?_eq_some_iff.mp a
  obtain ⟨h2, e2⟩ := List.getElem?_eq_some_iff.mp b
  exact (List.getElem_inj hN).mp (e1.trans e2.symm)

/-- a name is stored; what changed -/
theorem store_ok2 {M : Model} {A : Around} {E : Value → Shared → Prop} {i : Nat} {x : Str} {v : V} {u : Value} {Q : Unit → Shared → Prop} (I : Inv X pins σ H s) (hN : X.N.Nodup) (hi : X.N[i]? = some x) (hx : Loc X.env.scope x) (r : RelV v u)
    (h : ∀ s', Inv X pins (σ.set i (some v)) H s' → (∃ a, Heap.SameBut a s.heap s'.heap ∧ (a = X.env.locals ∨ X.env.cells.lookup x = some a)) → Q () s') (hf : X.fn x = true ∨ X.env.scope.names.lookup x = some .local := by first | exact .inl rfl | exact .inr rfl | assumption) : wpAny M A (storeName X.env x u) Q E s := by
  obtain ⟨m, hn, hl⟩ := id I.loc
  have hcls : (X.env.scope.kind == .class || (X.env.scope.kind == .module && X.env.locals != X.env.globals)) = false := by rw [I.ok.kind]; rfl
  have hiσ : i < σ.length := by rw [I.len]; exact (List.getElem?_eq_some_iff.mp hi).1
  have cne := I.cne
  have tracked : ∀ {a : Addr} {h' : Heap}, (∃ o, s.heap.get? a = some o ∧ H a = none) → Heap.SameBut a s.heap h' → HOk X.prog X.w H h' := fun {a h'} ha hs b ob e => by
    obtain ⟨_, _, hfree⟩ := ha
    refine (I.hok b ob e).stay (fun c w' hc q => (hs.2 c ?_).trans q) (fun _ q => q) fun _ _ q => q
    rintro rfl
    rcases hc with rfl | hc
    · rw [hfree] at e; cases e
    · rw [hfree] at hc; cases hc
  rcases hx with hk | hk
  · refine wpAny_storeName_local hk hn (fun h' hn' hs => ?_) hcls
    obtain ⟨oL, _, _, hoL, _⟩ := id hn
    refine h _ ⟨I.ok, I.os, I.bare, ⟨fun b o e n hb hx => ?_, fun b o e n hb hx => ?_, I.base.free, fun b o e hx => ?_, I.base.tups, I.base.frzs, I.base.tbls⟩, ⟨_, hn', fun j y v' e1 e2 e3 => ?_⟩, fun y c e => ?_, I.free, I.freeC, fun p hp => ?_, tracked ⟨oL, hoL, I.free⟩ hs, by simpa using I.len⟩ ⟨_, hs, .inl rfl⟩
    · exact (hs.2 b (Nat.ne_of_lt (Nat.lt_of_lt_of_le (Heap.lt_size e) I.ok.above))).trans (I.base.keep b o e n hb hx)
    · obtain ⟨sl, e1⟩ := I.base.slot b o e n hb hx
      exact ⟨sl, (hs.2 b (Nat.ne_of_lt (Nat.lt_of_lt_of_le (Heap.lt_size e) I.ok.above))).trans e1⟩
    · obtain ⟨o', e1⟩ := I.base.there b o e hx
      exact ⟨o', (hs.2 b (Nat.ne_of_lt (Nat.lt_of_lt_of_le (Heap.lt_size e) I.ok.above))).trans e1⟩
    · by_cases hj : j = i
      · subst hj
        rw [hi] at e1; cases e1
        rw [List.getElem?_set_self hiσ] at e2
        cases e2
        exact ⟨u, r, .inl ⟨hk, by simp⟩⟩
      · rw [List.getElem?_set_ne (Ne.symm hj)] at e2
        obtain ⟨u', r', q⟩ := hl j y v' e1 e2 e3
        refine ⟨u', r', ?_⟩
        rcases q with ⟨k, e⟩ | ⟨k, c, e, z⟩
        · refine .inl ⟨k, ?_⟩
          have : y ≠ x := fun e => hj (nodup_ix hN e1 (e ▸ hi))
          simp [this, e]
        · exact .inr ⟨k, c, e, z.sameBut hs (cne y c e)⟩
    · obtain ⟨w', z⟩ := I.cell y c e
      exact ⟨w', z.sameBut hs (cne y c e)⟩
    · obtain ⟨e, n, ne, nf, d⟩ := I.pin p hp
      exact ⟨(hs.2 p.1 ne).trans e, n, ne, nf, d⟩
  · have hfn : X.fn x = true := by
      rcases hf with z | z
      · exact z
      · rw [z] at hk; cases hk
    obtain ⟨c, hc⟩ := I.ok.has x (.inl hk)
    obtain ⟨w', z⟩ := I.cell x c hc
    refine wpAny_storeName_cell I.ok.kind hk hc z (fun h' hc' hs => ?_)
    obtain ⟨oc, hoc, hocd⟩ := id z
    refine h { s with heap := h' } ⟨I.ok, I.os, I.bare, ⟨fun b o e n hb hx => ?_, fun b o e n hb hx => ?_, I.base.free, fun b o e hx => ?_, I.base.tups, I.base.frzs, I.base.tbls⟩, ⟨m, hn.sameBut hs (Ne.symm (cne x c hc)), fun j y v' e1 e2 e3 => ?_⟩, fun y c' e => ?_, I.free, I.freeC, fun p hp => ?_, tracked ⟨oc, hoc, I.freeC x c hc⟩ hs, by simpa using I.len⟩ ⟨c, hs, .inr hc⟩
    · exact (hs.2 b (Nat.ne_of_lt (Nat.lt_of_lt_of_le (Heap.lt_size e) (I.ok.cab x c hfn hc)))).trans (I.base.keep b o e n hb hx)
    · obtain ⟨sl, e1⟩ := I.base.slot b o e n hb hx
      exact ⟨sl, (hs.2 b (Nat.ne_of_lt (Nat.lt_of_lt_of_le (Heap.lt_size e) (I.ok.cab x c hfn hc)))).trans e1⟩
    · obtain ⟨o', e1⟩ := I.base.there b o e hx
      exact ⟨o', (hs.2 b (Nat.ne_of_lt (Nat.lt_of_lt_of_le (Heap.lt_size e) (I.ok.cab x c hfn hc)))).trans e1⟩
    · by_cases hj : j = i
      · subst hj
        rw [hi] at e1; cases e1
        rw [List.getElem?_set_self hiσ] at e2
        cases e2
        exact ⟨u, r, .inr ⟨.inl hk, c, hc, hc'⟩⟩
      · rw [List.getElem?_set_ne (Ne.symm hj)] at e2
        obtain ⟨u', r', q⟩ := hl j y v' e1 e2 e3
        refine ⟨u', r', ?_⟩
        rcases q with q | ⟨k, c', e, z'⟩
        · exact .inl q
        · refine .inr ⟨k, c', e, z'.sameBut hs ?_⟩
          rintro rfl
          exact hj (nodup_ix hN e1 (I.ok.inj _ _ _ e hc ▸ hi))
    · by_cases hcc : c' = c
      · subst hcc; exact ⟨_, hc'⟩
      · obtain ⟨w2, z2⟩ := I.cell y c' e
        exact ⟨w2, z2.sameBut hs hcc⟩
    · obtain ⟨e, n, ne, nf, d⟩ := I.pin p hp
      refine ⟨(hs.2 p.1 ?_).trans e, n, ne, nf, d⟩
      intro q
      rw [q, hoc] at e
      have q' : oc = p.2 := Option.some.inj e
      exact d w' (by rw [← q']; exact hocd)
theorem store_ok {M : Model} {A : Around} {E : Value → Shared → Prop} {i : Nat} {x : Str} {v : V} {u : Value} {Q : Unit → Shared → Prop} (I : Inv X pins σ H s) (hN : X.N.Nodup) (hi : X.N[i]? = some x) (hx : Loc X.env.scope x) (r : RelV v u)
    (h : ∀ s', Inv X pins (σ.set i (some v)) H s' → Q () s') (hf : X.fn x = true ∨ X.env.scope.names.lookup x = some .local := by first | exact .inl rfl | exact .inr rfl | assumption) : wpAny M A (storeName X.env x u) Q E s :=
  store_ok2 I hN hi hx r (fun s' I' _ => h s' I') hf
/-- behind a call or a block, the state as it is -/
theorem Inv.call' {s' : Shared} {ch : List Addr} (I : Inv X pins σ H s) (ho : s'.os = s.os) (u : Un (frs X.stack) ch H H' s.heap s'.heap) (hok : HOk X.prog X.w H' s'.heap) (hg : AllBare s'.gens)
    (hch : ∀ b ∈ ch, (b ∈ X.ex ∨ X.s₀.heap.objs.size ≤ b) ∧ b ≠ X.env.locals ∧ (∀ x c, X.env.cells.lookup x = some c → c ≠ b) ∧ ∀ p ∈ X.pn ++ pins, p.1 ≠ b) : Inv X pins σ H' s' := by
  obtain ⟨h', g', d', t', o'⟩ := s'
  have e : o' = s.os := ho
  subst e
  exact I.call (g' := g') (t' := t') (d' := d') u hok hg hch
end

/-! ### the judgements -/
/-- an exception: its class, its own dict's address (where it has one), the abstract heap behind it -/
noncomputable abbrev XK := Value → Option Addr → Hp → Prop
noncomputable abbrev St := List (Option V)
noncomputable abbrev VK := V → Hp → Prop
/-- an expression's reading; a test's; an argument list's -/
noncomputable abbrev TE := St → Hp → VK → Prop
noncomputable abbrev TT := St → Hp → (Bool → Hp → Prop) → Prop
noncomputable abbrev TA := St → Hp → (List V → Hp → Prop) → Prop
/-- what is wanted behind a statement -/
structure Ends where
  nx : St → Hp → Prop
  rt : VK
  bk : St → Hp → Prop := fun _ _ => False
  ct : St → Hp → Prop := fun _ _ => False
noncomputable abbrev TS := Ends → St → Hp → Prop

noncomputable def EP (X : Cx) (pins : List (Addr × Obj)) (σ : St) (Q : VK) (u : Value) (s' : Shared) : Prop := ∃ v H', Inv X pins σ H' s' ∧ RelV v u ∧ Q v H'
noncomputable def TP (X : Cx) (pins : List (Addr × Obj)) (σ : St) (Q : Bool → Hp → Prop) (b : Bool) (s' : Shared) : Prop := ∃ H', Inv X pins σ H' s' ∧ Q b H'
noncomputable def AP (X : Cx) (pins : List (Addr × Obj)) (σ : St) (Q : List V → Hp → Prop) (us : List Value) (s' : Shared) : Prop := ∃ vs H', Inv X pins σ H' s' ∧ Vals vs us ∧ Q vs H'
noncomputable def SP (X : Cx) (pins : List (Addr × Obj)) (D : Ends) (f : Flow) (s' : Shared) : Prop :=
  match f with
  | .next => ∃ σ' H', Inv X pins σ' H' s' ∧ D.nx σ' H'
  | .brk => ∃ σ' H', Inv X pins σ' H' s' ∧ D.bk σ' H'
  | .cont => ∃ σ' H', Inv X pins σ' H' s' ∧ D.ct σ' H'
  | .ret u => ∃ v σ' H', Inv X pins σ' H' s' ∧ RelV v u ∧ D.rt v H'

noncomputable def PE (X : Cx) (e : Expr) (t : TE) : Prop :=
  ∀ (pins : List (Addr × Obj)) (s : Shared) (σ : St) (H : Hp) (Q : VK), Inv X pins σ H s → t σ H Q → wpAny (model X.prog X.w) X.A (eval e X.env) (EP X pins σ Q) X.xe s
noncomputable def PT (X : Cx) (e : Expr) (t : TT) : Prop :=
  ∀ (pins : List (Addr × Obj)) (s : Shared) (σ : St) (H : Hp) (Q : Bool → Hp → Prop), Inv X pins σ H s → t σ H Q → wpAny (model X.prog X.w) X.A (isTrue e X.env (eval e X.env)) (TP X pins σ Q) X.xe s
/-- a test whatever its 'whole' is (and, or) -/
noncomputable def PW (X : Cx) (e : Expr) (t : TT) : Prop :=
  ∀ (whole : Sem Value) (pins : List (Addr × Obj)) (s : Shared) (σ : St) (H : Hp) (Q : Bool → Hp → Prop), Inv X pins σ H s → t σ H Q → wpAny (model X.prog X.w) X.A (isTrue e X.env whole) (TP X pins σ Q) X.xe s
theorem PW.pt {X : Cx} {e : Expr} {t : TT} (h : PW X e t) : PT X e t := h _
/-- an argument list (no star), from the left -/
noncomputable def PA (X : Cx) (es : List Expr) (t : TA) : Prop :=
  ∀ (pos : Pos) (pins : List (Addr × Obj)) (s : Shared) (σ : St) (H : Hp) (Q : List V → Hp → Prop), Inv X pins σ H s → t σ H Q → wpAny (model X.prog X.w) X.A (spliced (backTo pos (starEach es X.env))) (AP X pins σ Q) X.xe s
noncomputable def PS (X : Cx) (st : Stmt) (t : TS) : Prop :=
  ∀ (pins : List (Addr × Obj)) (s : Shared) (σ : St) (H : Hp) (D : Ends), Inv X pins σ H s → t D σ H → wpAny (model X.prog X.w) X.A (exec st X.env) (SP X pins D) X.xe s
noncomputable def PSs (X : Cx) (st : List Stmt) (t : TS) : Prop :=
  ∀ (pins : List (Addr × Obj)) (s : Shared) (σ : St) (H : Hp) (D : Ends), Inv X pins σ H s → t D σ H → wpAny (model X.prog X.w) X.A (execs st X.env) (SP X pins D) X.xe s
/-- weaken the end -/
theorem thn {α : Type} {t : Sem α} {Q Q' : α → Shared → Prop} {M : Model} {A : Around} {E : Value → Shared → Prop} {s : Shared} (h : wpAny M A t Q E s) (hQ : ∀ a s, Q a s → Q' a s) : wpAny M A t Q' E s := wpAny_mono h hQ fun _ _ x => x
end L2

namespace L2
open PySem PySem.Spec PyProof.Rows
section
variable {X : Cx}

/-! ### names and constants -/
noncomputable def tVar (i : Nat) : TE := fun σ H Q => ∃ v, σ[i]? = some (some v) ∧ Q v H
noncomputable def tC (v : V) : TE := fun _ H Q => Q v H
theorem pe_var {i : Nat} {x : Str} {pos : Pos} (hN : X.N[i]? = some x) (hv : Vis X.env.scope x) (hd : (x == ("__debug__" : Str)) = false := by decide) (hcd : (x == ("__classdict__" : Str)) = false := by decide) : PE X (.Name x pos) (tVar i) := by
  intro pins s σ H Q I h
  obtain ⟨v, e, h⟩ := h
  obtain ⟨m, hn, hl⟩ := I.loc
  obtain ⟨u, r, l⟩ := hl i x v hN e hv
  have fin : EP X pins σ Q u s := ⟨v, H, I, r, h⟩
  rcases l with ⟨hk, hm⟩ | ⟨hk, c, hc, hcell⟩
  · exact wpAny_Name (wpAny_loadName_local I.ok.kind hk hn hm fin) hd
  · rcases hk with hk | hk
    · exact wpAny_Name (wpAny_loadName_cell I.ok.kind hk hc hcell fin) hd
    · exact wpAny_Name (wpAny_loadName_free I.ok.kind hk hc hcell fin hcd) hd
theorem pe_int {i j pos} : PE X (.Constant (.int i) j pos) (tC (.int i)) := fun _ _ _ H _ I h => wpAny_Constant_int ⟨.int i, H, I.tok _, ⟨_, rfl⟩, h⟩
theorem pe_bl {b j pos} : PE X (.Constant (.bool b) j pos) (tC (.bl b)) := fun _ _ _ H _ I h => Constant_bool ⟨.bl b, H, I, rfl, h⟩
theorem pe_str {x j pos} : PE X (.Constant (.str x) j pos) (tC (.str x)) := fun _ _ _ H _ I h => Calls.Constant_str ⟨.str x, H, I.tok _, ⟨_, rfl⟩, h⟩

/-- a global name of the def -/
noncomputable def Gl (X : Cx) (x : Str) : Prop := X.env.kindOf x = some .globalImplicit
theorem ld_glob {E : Value → Shared → Prop} {pins : List (Addr × Obj)} {s : Shared} {σ : St} {H : Hp} {x : Str} {u : Value} {pos : Pos} {Q : Value → Shared → Prop} (I : Inv X pins σ H s) (hg : Gl X x) (hm : X.mg x = some u) (h : Q u s)
    (hd : (x == ("__debug__" : Str)) = false := by decide) : wpAny (model X.prog X.w) X.A (eval (.Name x pos) X.env) Q E s :=
  Calls.Name_function_global I.ok.kind hg (Calls.loadGlobal_global (by rw [I.ok.glob]; exact I.mod.glob.keeps I.bk) hm h) hd
theorem ld_blt {E : Value → Shared → Prop} {pins : List (Addr × Obj)} {s : Shared} {σ : St} {H : Hp} {x : Str} {u : Value} {pos : Pos} {Q : Value → Shared → Prop} (I : Inv X pins σ H s) (hg : Gl X x) (hm : X.mg x = none) (hv : bootBuiltins x = some u) (h : Q u s)
    (hn : x ≠ "__name__" := by decide) (hd : (x == ("__debug__" : Str)) = false := by decide) : wpAny (model X.prog X.w) X.A (eval (.Name x pos) X.env) Q E s := by
  obtain ⟨mb, h1, h2⟩ := I.mod.blt
  exact Calls.Name_function_global I.ok.kind hg (Calls.loadGlobal_builtin (by rw [I.ok.glob]; exact I.mod.glob.keeps I.bk) hm (by rw [I.ok.blt]; exact h1.keeps I.bk) ((h2 x hn).trans hv) h) hd
/-- a module's constant, a class, a function, as a value -/
theorem pe_glob {x : Str} {v : V} {u : Value} {pos : Pos} (hg : Gl X x) (hm : X.mg x = some u) (r : RelV v u) (hd : (x == ("__debug__" : Str)) = false := by decide) : PE X (.Name x pos) (tC v) :=
  fun _ _ _ H _ I h => ld_glob I hg hm ⟨v, H, I, r, h⟩ hd
theorem pe_bltn {x : Str} {v : V} {u : Value} {pos : Pos} (hg : Gl X x) (hm : X.mg x = none) (hv : bootBuiltins x = some u) (r : RelV v u) (hn : x ≠ "__name__" := by decide) (hd : (x == ("__debug__" : Str)) = false := by decide) : PE X (.Name x pos) (tC v) :=
  fun _ _ _ H _ I h => ld_blt I hg hm hv ⟨v, H, I, r, h⟩ hn hd

/-! ### arithmetic -/
variable {a b : Expr} {ta tb : TE} {pos : Pos}
/-! ### comparisons -/
/-- a comparison as a value, as a test -/
noncomputable def tB (t : TE) : TT := fun σ H Q => t σ H fun x H1 => ∃ c, x = .bl c ∧ Q c H1
/-- an expression whose value is a bool, as a test -/
theorem pt_val {e : Expr} {t : TE} (h : PE X e t) (he : ∀ whole, isTrue e X.env whole = (do let v ← whole; standAt e.pos; holding [v] (truthy v)) := by intro _; rfl) : PT X e (tB t) := by
  intro pins s σ H Q I hw
  refine isTrue_plain (thn (h pins s σ H _ I hw) fun v s1 ⟨x, H1, I1, r1, q1⟩ => ?_) (he _)
  obtain ⟨d, rfl, q⟩ := q1
  cases r1
  exact wpAny_truthy_bool ⟨H1, I1, q⟩

/-! ### and, or, not -/
variable {tA tB' : TT} {rest : List Expr}
noncomputable def tAnd (t u : TT) : TT := fun σ H Q => t σ H fun c H1 => if c = true then u σ H1 Q else Q false H1
noncomputable def tOr (t u : TT) : TT := fun σ H Q => t σ H fun c H1 => if c = true then Q true H1 else u σ H1 Q
noncomputable def tNot (t : TT) : TT := fun σ H Q => t σ H fun c H1 => Q (!c) H1
theorem pw_and1 (ha : PT X a tA) : PW X (.BoolOp .And [a] pos) tA := by
  intro wh pins s σ H Q I h
  refine isTrue_and (thn (ha pins s σ H Q I h) fun c s1 e => ?_)
  cases c with
  | true => exact isTrue_and_nil e
  | false => exact e
theorem pw_or1 (ha : PT X a tA) : PW X (.BoolOp .Or [a] pos) tA := by
  intro wh pins s σ H Q I h
  refine isTrue_or (thn (ha pins s σ H Q I h) fun c s1 e => ?_)
  cases c with
  | false => exact isTrue_or_nil e
  | true => exact e
theorem pw_and (ha : PT X a tA) (hb : PW X (.BoolOp .And (b :: rest) pos) tB') : PW X (.BoolOp .And (a :: b :: rest) pos) (tAnd tA tB') := by
  intro wh pins s σ H Q I h
  refine isTrue_and (thn (ha pins s σ H _ I h) fun c s1 ⟨H1, I1, q1⟩ => ?_)
  cases c with
  | true => exact hb wh pins s1 σ H1 Q I1 q1
  | false => exact ⟨H1, I1, q1⟩
theorem pw_or (ha : PT X a tA) (hb : PW X (.BoolOp .Or (b :: rest) pos) tB') : PW X (.BoolOp .Or (a :: b :: rest) pos) (tOr tA tB') := by
  intro wh pins s σ H Q I h
  refine isTrue_or (thn (ha pins s σ H _ I h) fun c s1 ⟨H1, I1, q1⟩ => ?_)
  cases c with
  | true => exact ⟨H1, I1, q1⟩
  | false => exact hb wh pins s1 σ H1 Q I1 q1
theorem pt_not (ha : PT X a tA) : PT X (.UnaryOp .Not a pos) (tNot tA) := by
  intro pins s σ H Q I h
  exact isTrue_not (ha pins s σ H (fun c H1 => Q (!c) H1) I h)
/-- .. as values (bools) -/
noncomputable def tAndV (ta tb : TE) : TE := fun σ H Q => ta σ H fun x H1 => ∃ c, x = .bl c ∧ if c = true then tb σ H1 Q else Q (.bl false) H1
noncomputable def tOrV (ta tb : TE) : TE := fun σ H Q => ta σ H fun x H1 => ∃ c, x = .bl c ∧ if c = true then Q (.bl true) H1 else tb σ H1 Q
noncomputable def tNotV (ta : TE) : TE := fun σ H Q => ta σ H fun x H1 => ∃ c, x = .bl c ∧ Q (.bl (!c)) H1
theorem pe_one {op} {t : TE} (h : PE X a t) : PE X (.BoolOp op [a] pos) t := fun pins s σ H Q I hw => BoolOp_one (h pins s σ H Q I hw)
theorem pe_and (ha : PE X a ta) (hb : PE X (.BoolOp .And (b :: rest) pos) tb) : PE X (.BoolOp .And (a :: b :: rest) pos) (tAndV ta tb) := by
  intro pins s σ H Q I h
  refine BoolOp_and (thn (ha pins s σ H _ I h) fun v s1 ⟨x, H1, I1, r1, q1⟩ => ?_)
  obtain ⟨c, rfl, q1⟩ := q1
  cases r1
  refine wpAny_truthy_bool ?_
  cases c with
  | true => exact hb pins s1 σ H1 Q I1 q1
  | false => exact ⟨.bl false, H1, I1, rfl, q1⟩
theorem pe_or (ha : PE X a ta) (hb : PE X (.BoolOp .Or (b :: rest) pos) tb) : PE X (.BoolOp .Or (a :: b :: rest) pos) (tOrV ta tb) := by
  intro pins s σ H Q I h
  refine BoolOp_or (thn (ha pins s σ H _ I h) fun v s1 ⟨x, H1, I1, r1, q1⟩ => ?_)
  obtain ⟨c, rfl, q1⟩ := q1
  cases r1
  refine wpAny_truthy_bool ?_
  cases c with
  | false => exact hb pins s1 σ H1 Q I1 q1
  | true => exact ⟨.bl true, H1, I1, rfl, q1⟩
theorem pe_not (ha : PE X a ta) : PE X (.UnaryOp .Not a pos) (tNotV ta) := by
  intro pins s σ H Q I h
  refine UnaryOp_ (thn (ha pins s σ H _ I h) fun v s1 ⟨x, H1, I1, r1, q1⟩ => ?_)
  obtain ⟨c, rfl, q1⟩ := q1
  cases r1
  exact not_of (wpAny_truthy_bool ⟨.bl (!c), H1, I1, rfl, q1⟩)
/-- a if t else b -/
noncomputable def tIf (t : TT) (ta tb : TE) : TE := fun σ H Q => t σ H fun c H1 => if c = true then ta σ H1 Q else tb σ H1 Q
theorem pe_ifExp {c : Expr} (hc : PT X c tA) (ha : PE X a ta) (hb : PE X b tb) : PE X (.IfExp c a b pos) (tIf tA ta tb) := by
  intro pins s σ H Q I h
  refine wpAny_IfExp (thn (hc pins s σ H _ I h) fun d s1 ⟨H1, I1, q1⟩ => ?_)
  cases d with
  | true => exact ha pins s1 σ H1 Q I1 q1
  | false => exact hb pins s1 σ H1 Q I1 q1
end
end L2

namespace L2
open PySem PySem.Spec PyProof.Rows

/-! ### a list, a tuple that is read: tracked, frozen, or an object of the module -/
noncomputable def SqL (K : PySem.W.Frag) (H : Hp) (a : Addr) (xs : List V) : Prop :=
  Rd H a (.lst xs) ∨
    ∃ (o : Obj) (its : Array Value) (n : Nat), K.lookup a = some o ∧ o.cls = .type "list" ∧ o.dict = none ∧ o.data = .seq its n ∧ its.size ≤ sizeLine ∧ Vals xs its.toList
noncomputable def SqT (K : PySem.W.Frag) (H : Hp) (a : Addr) (xs : List V) : Prop :=
  Rd H a (.tup xs) ∨
    ∃ (o : Obj) (its : Array Value) (n : Nat), K.lookup a = some o ∧ o.cls = .type "tuple" ∧ o.data = .seq its n ∧ its.size ≤ sizeLine ∧ Vals xs its.toList
noncomputable def absV : Value → Option V
  | .none => some .non
  | .bool b => some (.bl b)
  | .int i _ => some (.int i)
  | .str x _ => some (.str x)
  | .bytes b _ => some (.byt b)
  | .float b _ => some (.flt b)
  | .ref a => some (.ref a)
  | .type n => some (.ty n)
  | _ => none
theorem RelV.abs {x : V} {u : Value} (r : RelV x u) : absV u = some x := by
  cases x with
  | non => cases r; rfl
  | bl _ => cases r; rfl
  | int _ => obtain ⟨t, rfl⟩ := r; rfl
  | str _ => obtain ⟨t, rfl⟩ := r; rfl
  | byt _ => obtain ⟨t, rfl⟩ := r; rfl
  | flt _ => obtain ⟨t, rfl⟩ := r; rfl
  | ref _ => cases r; rfl
  | ty _ => cases r; rfl
theorem RelV.inj {x y : V} {u : Value} (r : RelV x u) (q : RelV y u) : x = y := Option.some.inj (r.abs.symm.trans q.abs)
theorem Vals.inj : ∀ {xs ys : List V} {us : List Value}, Vals xs us → Vals ys us → xs = ys
  | _, _, _, .nil, .nil => rfl
  | _, _, _, .cons r t, .cons r' t' => by rw [r.inj r', Vals.inj t t']
section
variable {X : Cx} {pins : List (Addr × Obj)} {σ : St} {H : Hp} {s : Shared} {a : Addr} {xs ys : List V}
theorem SqL.of {K : PySem.W.Frag} (h : H a = some (.lst xs)) : SqL K H a xs := .inl (.inl h)
theorem SqT.of {K : PySem.W.Frag} (h : H a = some (.tup xs)) : SqT K H a xs := .inl (.inl h)
theorem Inv.list (I : Inv X pins σ H s) (h : SqL X.K H a xs) : ∃ its : List Value, Vals xs its ∧ PlainL s.heap a its.toArray ∧ xs.length ≤ sizeLine := by
  rcases h with h | ⟨o, its, n, hk, hc, hd, hs, hz, r⟩
  · obtain ⟨z, its, n, r, e⟩ := h.ok I.hok
    exact ⟨its, r, ⟨_, n, e, rfl, rfl, rfl⟩, z⟩
  · refine ⟨its.toList, r, ⟨o, n, I.kIn a o hk, hc, hd, by simpa using hs⟩, ?_⟩
    have e := r.length
    simp only [Array.length_toList] at e
    omega
theorem Inv.tuple (I : Inv X pins σ H s) (h : SqT X.K H a xs) : ∃ its : List Value, Vals xs its ∧ IsTup s.heap a its.toArray ∧ xs.length ≤ sizeLine := by
  rcases h with h | ⟨o, its, n, hk, hc, hs, hz, r⟩
  · obtain ⟨z, its, r, p⟩ := h.ok I.hok
    exact ⟨its, r, p, z⟩
  · refine ⟨its.toList, r, ⟨o, I.kIn a o hk, hc, n, by simpa using hs⟩, ?_⟩
    have e := r.length
    simp only [Array.length_toList] at e
    omega
theorem Inv.list_inj (I : Inv X pins σ H s) (h : SqL X.K H a xs) (h' : SqL X.K H a ys) : xs = ys := by
  obtain ⟨its, r, ⟨o, n, e, _, _, d⟩, _⟩ := I.list h
  obtain ⟨its', r', ⟨o', n', e', _, _, d'⟩, _⟩ := I.list h'
  rw [e] at e'; cases e'
  rw [d] at d'
  injection d' with d1 _
  have : its = its' := by simpa using congrArg Array.toList d1
  subst this
  exact r.inj r'
end

/-! ### another wish about exceptions -/
noncomputable abbrev Cx.wish (X : Cx) (E : Value → Shared → Prop) : Cx := { X with xe := E }
/-- no exception leaves -/
noncomputable abbrev Cx.nox (X : Cx) : Cx := X.wish fun _ _ => False
theorem Cx.Ok.wish {X : Cx} (ok : X.Ok) (E : Value → Shared → Prop) : (X.wish E).Ok :=
  ⟨ok.mod, ok.kind, ok.glob, ok.blt, ok.above, ok.inj, ok.has, ok.cab, ok.hd, ok.frames, ok.stk, ok.exf, ok.bs, ok.bsz, ok.noex, ok.exfs, ok.funs, ok.frf⟩
theorem Cx.Ok.unwish {X : Cx} {E : Value → Shared → Prop} (ok : (X.wish E).Ok) : X.Ok :=
  ⟨ok.mod, ok.kind, ok.glob, ok.blt, ok.above, ok.inj, ok.has, ok.cab, ok.hd, ok.frames, ok.stk, ok.exf, ok.bs, ok.bsz, ok.noex, ok.exfs, ok.funs, ok.frf⟩
section
variable {X : Cx} {pins : List (Addr × Obj)} {σ : St} {H : Hp} {s : Shared} {E : Value → Shared → Prop}
theorem Inv.wish (I : Inv X pins σ H s) (E : Value → Shared → Prop) : Inv (X.wish E) pins σ H s := ⟨I.ok.wish E, I.os, I.bare, I.base, I.loc, I.cell, I.free, I.freeC, I.pin, I.hok, I.len⟩
theorem Inv.unwish (I : Inv (X.wish E) pins σ H s) : Inv X pins σ H s := ⟨I.ok.unwish, I.os, I.bare, I.base, I.loc, I.cell, I.free, I.freeC, I.pin, I.hok, I.len⟩
theorem SP.unwish {D : Ends} {f : Flow} {s' : Shared} (h : SP (X.wish E) pins D f s') : SP X pins D f s' := by
  cases f with
  | next => obtain ⟨σ', H', I, q⟩ := h; exact ⟨σ', H', I.unwish, q⟩
  | brk => obtain ⟨σ', H', I, q⟩ := h; exact ⟨σ', H', I.unwish, q⟩
  | cont => obtain ⟨σ', H', I, q⟩ := h; exact ⟨σ', H', I.unwish, q⟩
  | ret u => obtain ⟨v, σ', H', I, r, q⟩ := h; exact ⟨v, σ', H', I.unwish, r, q⟩
theorem PE.nox {e : Expr} {t : TE} (h : PE X.nox e t) : PE X e t := fun pins s σ H Q I hw =>
  wpAny_mono (h pins s σ H Q (I.wish _) hw) (fun _ _ ⟨v, H', I', r, q⟩ => ⟨v, H', I'.unwish, r, q⟩) fun _ _ z => False.elim z
theorem PT.nox {e : Expr} {t : TT} (h : PT X.nox e t) : PT X e t := fun pins s σ H Q I hw =>
  wpAny_mono (h pins s σ H Q (I.wish _) hw) (fun _ _ ⟨H', I', q⟩ => ⟨H', I'.unwish, q⟩) fun _ _ z => False.elim z
theorem PSs.nox {st : List Stmt} {t : TS} (h : PSs X.nox st t) : PSs X st t := fun pins s σ H D I hw =>
  wpAny_mono (h pins s σ H D (I.wish _) hw) (fun _ _ q => q.unwish) fun _ _ z => False.elim z
end

/-! ### blocks and small statements -/
section
variable {X : Cx} {st : Stmt} {rest : List Stmt} {t u : TS} {e : Expr} {te : TE} {pos : Pos}
noncomputable def tNext : TS := fun D σ H => D.nx σ H
noncomputable def tSeq (t u : TS) : TS := fun D σ H => t { D with nx := u D } σ H
theorem pss_nil : PSs X [] tNext := fun _ _ σ H _ I h => wpAny_execs_nil ⟨σ, H, I, h⟩
theorem pss_cons (h1 : PS X st t) (h2 : PSs X rest u) : PSs X (st :: rest) (tSeq t u) := by
  intro pins s σ H D I h
  refine wpAny_execs_cons (thn (h1 pins s σ H { D with nx := u D } I h) fun f s1 q => ?_)
  cases f with
  | next =>
    obtain ⟨σ', H', I', q⟩ := q
    exact h2 pins s1 σ' H' D I' q
  | ret v => exact q
  | brk => exact q
  | cont => exact q
theorem pss_one (h1 : PS X st t) : PSs X [st] t := by
  intro pins s σ H D I h
  refine wpAny_execs_cons (thn (h1 pins s σ H D I h) fun f s1 q => ?_)
  cases f with
  | next => exact wpAny_execs_nil q
  | ret v => exact q
  | brk => exact q
  | cont => exact q
/-- in a def's body nothing is shown -/
theorem Inv.quiet {pins : List (Addr × Obj)} {σ : St} {H : Hp} {s : Shared} (I : Inv X pins σ H s) : interactive X.env = false := by simp [interactive, I.ok.kind]
/-- an expression whose value is dropped -/
noncomputable def tDrop (te : TE) : TS := fun D σ H => te σ H fun _ H1 => D.nx σ H1
theorem ps_expr (he : PE X e te) (hs : swapsWith e none pos.line X.env = pure false := by rfl) : PS X (.Expr e pos) (tDrop te) := by
  intro pins s σ H D I h
  exact wpAny_Expr_any (thn (he pins s σ H _ I h) fun v s1 ⟨x, H1, I1, r1, q1⟩ => ⟨σ, H1, I1, q1⟩) I.quiet hs
noncomputable def tRet (te : TE) : TS := fun D σ H => te σ H D.rt
theorem ps_ret (he : PE X e te) : PS X (.Return (some e) pos) (tRet te) := by
  intro pins s σ H D I h
  exact wpAny_Return_some (thn (he pins s σ H _ I h) fun v s1 ⟨x, H1, I1, r1, q1⟩ => ⟨x, σ, H1, I1, r1, q1⟩)
noncomputable def tIfS (c : TT) (t u : TS) : TS := fun D σ H => c σ H fun b H1 => if b = true then t D σ H1 else u D σ H1
theorem ps_if {c : Expr} {a b : List Stmt} {tc : TT} (hc : PT X c tc) (ha : PSs X a t) (hb : PSs X b u) : PS X (.If c a b pos) (tIfS tc t u) := by
  intro pins s σ H D I h
  refine wpAny_If (thn (hc pins s σ H _ I h) fun d s1 ⟨H1, I1, q1⟩ => ?_)
  cases d with
  | true => exact ha pins s1 σ H1 D I1 q1
  | false => exact hb pins s1 σ H1 D I1 q1
/-- code that the proof never comes to -/
noncomputable def tNever : TS := fun _ _ _ => False
theorem ps_never : PS X st tNever := fun _ _ _ _ _ _ h => h.elim
end

/-! ### targets -/
noncomputable abbrev TG := V → St → Hp → (St → Hp → Prop) → Prop
noncomputable abbrev TGs := List V → St → Hp → (St → Hp → Prop) → Prop
noncomputable def PG (X : Cx) (target : Expr) (t : TG) : Prop :=
  ∀ (pins : List (Addr × Obj)) (s : Shared) (σ : St) (H : Hp) (v : V) (u : Value) (Q : St → Hp → Prop), Inv X pins σ H s → RelV v u → t v σ H Q →
    wpAny (model X.prog X.w) X.A (assign target X.env u) (fun _ s' => ∃ σ' H', Inv X pins σ' H' s' ∧ Q σ' H') X.xe s
/-- several targets, one after another -/
noncomputable def PGs (X : Cx) (ts : List Expr) (t : TGs) : Prop :=
  ∀ (pins : List (Addr × Obj)) (s : Shared) (σ : St) (H : Hp) (vs : List V) (us : List Value) (Q : St → Hp → Prop), Inv X pins σ H s → Vals vs us → t vs σ H Q →
    wpAny (model X.prog X.w) X.A (assignInOrder ((assignEach ts X.env).map (·.2)) us) (fun _ s' => ∃ σ' H', Inv X pins σ' H' s' ∧ Q σ' H') X.xe s
/-- o[i] = v, by values -/
noncomputable abbrev TSet := V → V → V → Hp → (Hp → Prop) → Prop
noncomputable def PSet (X : Cx) (t : TSet) : Prop :=
  ∀ (pins : List (Addr × Obj)) (s : Shared) (σ : St) (H : Hp) (o i v : V) (ov iv u : Value) (Q : Hp → Prop), Inv X pins σ H s → RelV o ov → RelV i iv → RelV v u → t o i v H Q →
    wpAny (model X.prog X.w) X.A (setItem ov iv u) (fun _ s' => ∃ H', Inv X pins σ H' s' ∧ Q H') X.xe s
/-- a op= b, by values -/
noncomputable abbrev TIp := V → V → Hp → VK → Prop
noncomputable def PIp (X : Cx) (op : Operator) (t : TIp) : Prop :=
  ∀ (pins : List (Addr × Obj)) (s : Shared) (σ : St) (H : Hp) (x y : V) (v u : Value) (Q : VK), Inv X pins σ H s → RelV x v → RelV y u → t x y H Q →
    wpAny (model X.prog X.w) X.A (inplaceOp op v u) (EP X pins σ Q) X.xe s
section
variable {X : Cx} {pos : Pos}
noncomputable def gName (i : Nat) : TG := fun v σ H Q => Q (σ.set i (some v)) H
theorem pg_name {i : Nat} {x : Str} (hN : X.N.Nodup) (hi : X.N[i]? = some x) (hx : Loc X.env.scope x) (hf : X.fn x = true ∨ X.env.scope.names.lookup x = some .local := by first | exact .inl rfl | exact .inr rfl | assumption) : PG X (.Name x pos) (gName i) := by
  intro pins s σ H v u Q I r h
  exact wpAny_assign_Name (store_ok I hN hi hx r (fun s' I' => ⟨_, H, I', h⟩) hf)
noncomputable def gNil : TGs := fun vs σ H Q => vs = [] ∧ Q σ H
noncomputable def gCons (t : TG) (u : TGs) : TGs := fun vs σ H Q => ∃ v r, vs = v :: r ∧ t v σ H fun σ' H' => u r σ' H' Q
theorem pgs_nil : PGs X [] gNil := by
  intro pins s σ H vs us Q I r h
  obtain ⟨e, h⟩ := h
  subst e
  cases r
  exact assignInOrder_nil ⟨σ, H, I, h⟩
theorem pgs_cons {e : Expr} {es : List Expr} {t : TG} {u : TGs} (h1 : PG X e t) (h2 : PGs X es u)
    (hs : (assignEach (e :: es) X.env).map (·.2) = assign e X.env :: (assignEach es X.env).map (·.2) := by rfl) : PGs X (e :: es) (gCons t u) := by
  intro pins s σ H vs us Q I r h
  obtain ⟨v, vr, e1, h⟩ := h
  subst e1
  cases r with
  | cons r rr =>
    rw [hs]
    refine assignInOrder_cons (thn (h1 pins s σ H _ _ _ I r h) fun _ s1 ⟨σ1, H1, I1, q1⟩ => ?_)
    exact h2 pins s1 σ1 H1 _ _ Q I1 rr q1
/-- (a, b, ..) = a tuple of that length -/
noncomputable def gTup (K : PySem.W.Frag) (n : Nat) (t : TGs) : TG := fun v σ H Q => ∃ a xs, v = .ref a ∧ SqT K H a xs ∧ xs.length = n ∧ t xs σ H Q
theorem pg_tup {es : List Expr} {k : Nat} {t : TGs} {n : Nat} (hc : X.calm = true) (h : PGs X es t)
    (hn : (assignEach es X.env).length = n := by rfl) (hst : (assignEach es X.env).findIdx? (·.1) = none := by rfl) : PG X (.Tuple es k pos) (gTup X.K n t) := by
  intro pins s σ H v u Q I r hw
  obtain ⟨a, xs, e1, hq, hl, hw⟩ := hw
  subst e1
  cases r
  obtain ⟨its, rv, ht, hz⟩ := I.tuple hq
  refine assign_Tuple_tuple (I.ok.hd hc) ht (by simp [hn, ← hl, rv.length]) hst fun h' hx => ?_
  have I1 : Inv X pins σ H { s with heap := h' } := I.kept (t' := s.toks) fun b o e => hx b o (Nat.ne_of_lt (Heap.lt_size e)) e
  exact h pins _ σ H xs _ Q I1 (by simpa using rv) hw
/-- o[i] = .. -/
noncomputable def gSub (to ti : TE) (t : TSet) : TG := fun v σ H Q => to σ H fun o H1 => ti σ H1 fun i H2 => t o i v H2 fun H3 => Q σ H3
theorem pg_sub {o i : Expr} {to ti : TE} {t : TSet} (ho : PE X o to) (hi : PE X i ti) (hs : PSet X t)
    (ha : ∀ v, assign (.Subscript o i pos) X.env v = (do
      let ov ← holding [v] (eval o X.env)
      let iv ← holding [v, ov] (eval i X.env)
      standAt pos
      holding [v, ov, iv] (setItem ov iv v)
      release [v, ov, iv] []) := by intro _; rfl) : PG X (.Subscript o i pos) (gSub to ti t) := by
  intro pins s σ H v u Q I r h
  rw [ha]
  refine wpAny_bind (wpAny_holding (thn (ho pins s σ H _ I h) fun ov s1 ⟨x, H1, I1, r1, q1⟩ => ?_))
  refine wpAny_bind (wpAny_holding (thn (hi pins s1 σ H1 _ I1 q1) fun iv s2 ⟨y, H2, I2, r2, q2⟩ => ?_))
  refine wpAny_bind (wpAny_standAt (wpAny_bind (wpAny_holding (thn (hs pins s2 σ H2 x y v ov iv u _ I2 r1 r2 r q2) fun _ s3 ⟨H3, I3, q3⟩ => ?_))))
  exact wpAny_release ⟨σ, H3, I3, q3⟩
/-- target = value -/
noncomputable def tAsg (te : TE) (g : TG) : TS := fun D σ H => te σ H fun x H1 => g x σ H1 D.nx
theorem ps_asg {tg e : Expr} {te : TE} {g : TG} (he : PE X e te) (hg : PG X tg g) (hs : swapsWithSole [tg] e pos.line X.env = pure false := by rfl) (hw : swappedStores [tg] e X.env = pure none := by rfl)
    (h1 : (assignEach [tg] X.env).map (·.2) = [assign tg X.env] := by rfl) : PS X (.Assign [tg] e pos) (tAsg te g) := by
  intro pins s σ H D I h
  refine wpAny_Assign_stores (thn (he pins s σ H _ I h) fun v s1 ⟨x, H1, I1, r1, q1⟩ => ?_) hs hw
  rw [h1]
  exact thn (hg pins s1 σ H1 x v _ I1 r1 q1) fun _ s2 q => q
/-- name = value -/
theorem ps_set {i : Nat} {x : Str} {e : Expr} {te : TE} {pos' : Pos} (hN : X.N.Nodup) (hi : X.N[i]? = some x) (hx : Loc X.env.scope x) (he : PE X e te) (hs : swapsWith e (some (.Name x pos')) pos.line X.env = pure false := by rfl) (hf : X.fn x = true ∨ X.env.scope.names.lookup x = some .local := by first | exact .inl rfl | exact .inr rfl | assumption) :
    PS X (.Assign [.Name x pos'] e pos) (tAsg te (gName i)) := by
  intro pins s σ H D I h
  refine wpAny_Assign_Name (thn (he pins s σ H _ I h) fun v s1 ⟨y, H1, I1, r1, q1⟩ => ?_) hs
  exact store_ok I1 hN hi hx r1 (fun s2 I2 => ⟨_, H1, I2, q1⟩) hf
/-- name op= e -/
noncomputable def tAug (i : Nat) (te : TE) (ti : TIp) : TS := fun D σ H => ∃ x, σ[i]? = some (some x) ∧ te σ H fun y H1 => ti x y H1 fun z H2 => D.nx (σ.set i (some z)) H2
theorem ps_aug {i : Nat} {x : Str} {e : Expr} {te : TE} {op : Operator} {ti : TIp} {pos' : Pos} (hN : X.N.Nodup) (hi : X.N[i]? = some x) (hx : Loc X.env.scope x) (he : PE X e te) (ho : PIp X op ti) (hf : X.fn x = true ∨ X.env.scope.names.lookup x = some .local := by first | exact .inl rfl | exact .inr rfl | assumption) :
    PS X (.AugAssign (.Name x pos') op e pos) (tAug i te ti) := by
  intro pins s σ H D I h
  obtain ⟨v, e1, h⟩ := h
  obtain ⟨m, hn, hl⟩ := I.loc
  have vis : Vis X.env.scope x := by rcases hx with k | k; exact .inl k; exact .inr (.inl k)
  obtain ⟨u, r, l⟩ := hl i x v hi e1 vis
  refine wpAny_AugAssign_Name ?_
  have go : wpAny (model X.prog X.w) X.A (eval e X.env) (fun w s₂ => wpAny (model X.prog X.w) X.A (inplaceOp op u w) (fun r s₃ => wpAny (model X.prog X.w) X.A (storeName X.env x r) (fun _ => SP X pins D .next) X.xe s₃) X.xe s₂) X.xe s := by
    refine thn (he pins s σ H _ I h) fun w s1 ⟨y, H1, I1, r1, q1⟩ => ?_
    refine thn (ho pins s1 σ H1 v y u w _ I1 r r1 q1) fun z s2 ⟨zv, H2, I2, r2, q2⟩ => ?_
    exact store_ok I2 hN hi hx r2 (fun s3 I3 => ⟨_, H2, I3, q2⟩) hf
  rcases l with ⟨hk, hm⟩ | ⟨hk, c, hc, hcell⟩
  · exact wpAny_loadName_local I.ok.kind hk hn hm go
  · rcases hk with hk | hk
    · exact wpAny_loadName_cell I.ok.kind hk hc hcell go
    · rcases hx with k | k
      · have : X.env.scope.names.lookup x = some .free := hk
        rw [k] at this; cases this
      · have : X.env.scope.names.lookup x = some .free := hk
        rw [k] at this; cases this
end

/-! ### while -/
section
variable {X : Cx} {pos : Pos}
/-- the invariant W with its measure -/
noncomputable def tWhile (c : TT) (tb : TS) : TS := fun D σ H => ∃ W : Nat → St → Hp → Prop, (∃ m, W m σ H) ∧ ∀ m σ H, W m σ H →
  c σ H fun b H1 => if b = true then ∃ N : St → Hp → Prop, (∀ σ' H', N σ' H' → ∃ m', m' < m ∧ W m' σ' H') ∧ tb { D with nx := N, ct := N, bk := D.nx } σ H1 else D.nx σ H1
theorem ps_while {c : Expr} {body : List Stmt} {tc : TT} {tb : TS} (hp : PassesOwn (model X.prog X.w) X.A X.env X.xe) (hc : PT X c tc) (hb : PSs X body tb) : PS X (.While c body [] pos) (tWhile tc tb) := by
  intro pins s σ H D I h
  obtain ⟨W, ⟨m0, w0⟩, turn⟩ := h
  refine wpAny_While (codeAny_whileLoop (fun n s' => ∃ σ' H', Inv X pins σ' H' s' ∧ W n σ' H') ?_ m0 ⟨σ, H, I, w0⟩)
  rintro n s1 ⟨σ1, H1, I1, w1⟩
  refine wpAny_passesOwn hp (thn (hc pins s1 σ1 H1 _ I1 (turn n σ1 H1 w1)) fun b s2 ⟨H2, I2, q2⟩ => ?_)
  cases b with
  | true =>
    obtain ⟨N, hN, q2⟩ := q2
    rw [if_pos rfl]
    refine wpAny_passesOwn hp (thn (hb pins s2 σ1 H2 _ I2 q2) fun f s3 q3 => ?_)
    cases f with
    | next =>
      obtain ⟨σ3, H3, I3, n3⟩ := q3
      obtain ⟨m', hm, w3⟩ := hN σ3 H3 n3
      exact ⟨m', hm, σ3, H3, I3, w3⟩
    | cont =>
      obtain ⟨σ3, H3, I3, n3⟩ := q3
      obtain ⟨m', hm, w3⟩ := hN σ3 H3 n3
      exact ⟨m', hm, σ3, H3, I3, w3⟩
    | brk => exact q3
    | ret v => exact q3
  | false =>
    rw [if_neg Bool.false_ne_true]
    exact wpAny_execs_nil ⟨σ1, H2, I2, q2⟩
end

/-! ### what a loop or a comprehension walks -/
/-- at turn i: it yields x (the heap may grow), or it stops -/
structure It where
  go : Nat → Hp → Prop
  yld : Nat → Hp → V → Hp → Prop
  stop : Nat → Hp → Prop
/-- the iterator's own objects may turn: they are not the frame's, not pinned, younger than the entry (or a comprehension's own) -/
noncomputable def FpOk (X : Cx) (pins : List (Addr × Obj)) (H : Hp) (b : Addr) : Prop :=
  H b = none ∧ b ≠ X.env.locals ∧ b ∉ X.fs ∧ (b ∈ X.ex ∨ X.s₀.heap.objs.size ≤ b) ∧ (∀ x c, X.env.cells.lookup x = some c → c ≠ b) ∧ ∀ p ∈ X.pn ++ pins, p.1 ≠ b
theorem Inv.fpOk {X : Cx} {pins : List (Addr × Obj)} {σ : St} {H H' : Hp} {s : Shared} {b : Addr} (I : Inv X pins σ H s) (hb : s.heap.objs.size ≤ b) (hn : H' b = none) : FpOk X pins H' b := by
  refine ⟨hn, Nat.ne_of_gt (Nat.lt_of_lt_of_le I.lt hb), I.nofs hb, .inr (Nat.le_trans I.sz hb), fun x c e z => ?_, fun p hp z => ?_⟩
  · obtain ⟨v, q⟩ := I.cell x c e
    exact absurd (Nat.lt_of_lt_of_le q.lt (by rw [z]; exact hb)) (Nat.lt_irrefl _)
  · exact absurd (Nat.lt_of_lt_of_le (Heap.lt_size (I.pin p hp).1) (by rw [z]; exact hb)) (Nat.lt_irrefl _)
structure Turn (P : Program) (w : World) (K : PySem.W.Frag) (tg : Expr) (J : It) (fp : List Addr) (it : Addr) (tn : Nat → Heap → Prop) : Prop where
  mem : it ∈ fp
  obj : ∀ i h, tn i h → ∀ b ∈ fp, ∃ o, h.get? b = some o ∧ ∀ v, o.data ≠ .cell v
  keep : ∀ i h h', tn i h → (∀ b ∈ fp, ∀ o, h.get? b = some o → h'.get? b = some o) → tn i h'
  item : ∀ (X : Cx), X.prog = P → X.w = w → X.K = K → X.calm = true → ∀ (i : Nat) (pins : List (Addr × Obj)) (s : Shared) (σ : St) (H : Hp) (E : Value → Shared → Prop), Inv X pins σ H s → (∀ b ∈ fp, FpOk X pins H b) → tn i s.heap → J.go i H →
    wpAny (model P w) X.A (pyNext (.ref it)) (fun r s1 => ∃ u, r = some u ∧
      wpAny (model P w) X.A (letOwnedTupleGo tg (.ref it) u) (fun _ s2 => ∃ x H', Inv X pins σ H' s2 ∧ RelV x u ∧ J.yld i H x H' ∧ tn (i + 1) s2.heap ∧ ∀ b ∈ fp, H' b = none) E s1) E s
  done : ∀ (X : Cx), X.prog = P → X.w = w → X.K = K → X.calm = true → ∀ (i : Nat) (pins : List (Addr × Obj)) (s : Shared) (σ : St) (H : Hp) (E : Value → Shared → Prop), Inv X pins σ H s → (∀ b ∈ fp, FpOk X pins H b) → tn i s.heap → J.stop i H →
    wpAny (model P w) X.A (pyNext (.ref it)) (fun r s1 => r = none ∧ Inv X pins σ H s1) E s
  self : ∀ (A : Around) (i : Nat) (s : Shared) (Q : Value → Shared → Prop) (E : Value → Shared → Prop), tn i s.heap → Q (.ref it) s → wpAny (model P w) A (pyIter (.ref it)) Q E s
noncomputable abbrev TI := St → Hp → (It → Hp → Prop) → Prop
/-- an iterator has come -/
noncomputable def PIE (X : Cx) (pins : List (Addr × Obj)) (σ : St) (tg : Expr) (R : It → Hp → Prop) (itv : Value) (s2 : Shared) : Prop :=
  ∃ (it : Addr) (fp : List Addr) (tn : Nat → Heap → Prop) (J : It) (H' : Hp), itv = .ref it ∧ Inv X pins σ H' s2 ∧ Turn X.prog X.w X.K tg J fp it tn ∧ tn 0 s2.heap ∧ (∀ b ∈ fp, FpOk X pins H' b) ∧ R J H'
noncomputable def PI (X : Cx) (tg iter : Expr) (wi : TI) : Prop :=
  ∀ (pins : List (Addr × Obj)) (s : Shared) (σ : St) (H : Hp) (R : It → Hp → Prop), Inv X pins σ H s → wi σ H R →
    wpAny (model X.prog X.w) X.A (eval iter X.env) (fun v s1 => wpAny (model X.prog X.w) X.A (pyIter v) (PIE X pins σ tg R) X.xe s1) X.xe s

/-- the step ahead of the store is nothing for an iterator that keeps no tuple -/
theorem go_of {M : Model} {A : Around} {E : Value → Shared → Prop} {s : Shared} {tg : Expr} {it : Addr} {u : Value} {o : Obj} {n : String} {vs : Array Value} {Q : Unit → Shared → Prop} (ho : s.heap.get? it = some o) (hc : o.cls = .type n) (hd : o.data = .fields vs)
    (hn : ["enumerate", "zip", "dict_itemiterator", "dict_reverseitemiterator", "odict_iterator", "itertools.zip_longest", "itertools.pairwise"].contains n = false) (hQ : Q () s) : wpAny M A (letOwnedTupleGo tg (.ref it) u) Q E s := by
  unfold letOwnedTupleGo
  cases tg <;> first
    | exact wpAny_pure hQ
    | (cases u <;> first
        | exact wpAny_pure hQ
        | (refine wpAny_bind (wpAny_load ho ?_)
           rw [hc, hd]
           show wpAny M A (if (["enumerate", "zip", "dict_itemiterator", "dict_reverseitemiterator", "odict_iterator", "itertools.zip_longest", "itertools.pairwise"].contains n && vs[0]? == some (rawInt _)) = true then _ else _) Q E s
           rw [if_neg (by intro h; rw [hn, Bool.false_and] at h; cases h)]
           exact wpAny_pure hQ))

/-- the list at a, as it stands at each turn (a loop may append to it) -/
noncomputable def Itl (K : PySem.W.Frag) (a : Addr) : It :=
  ⟨fun i H => ∃ xs x, SqL K H a xs ∧ xs[i]? = some x, fun i H x H' => H' = H ∧ ∀ xs, SqL K H a xs → xs[i]? = some x, fun i H => ∃ xs, SqL K H a xs ∧ xs.length ≤ i⟩
/-- lo, lo + 1, .. (n of them) -/
noncomputable def Itr (lo : Int) (n : Nat) : It := ⟨fun i _ => i < n, fun i H x H' => H' = H ∧ x = .int (lo + i), fun i _ => n ≤ i⟩
theorem turn_list {P : Program} {w : World} {K : PySem.W.Frag} {tg : Expr} (a it : Addr) : Turn P w K tg (Itl K a) [it] it (fun i h => h.IsListIter it a i) where
  mem := by simp
  obj := fun i h st b hb => by
    have e : b = it := by simpa using hb
    subst e
    obtain ⟨o, e, c, d⟩ := st
    exact ⟨o, e, fun v z => by rw [d] at z; cases z⟩
  keep := fun i h h' st k => st.at fun o e => k it (by simp) o e
  item := by
    intro X hP hw hK hc i pins s σ H E I hf st hg
    subst hP hw hK
    obtain ⟨xs, x, hq, hx⟩ := hg
    obtain ⟨its, rv, p, hz⟩ := I.list hq
    obtain ⟨u, hu, ru⟩ := rv.get hx
    obtain ⟨f0, f1, f2, f3, f4, f5⟩ := hf it (by simp)
    refine wpAny_pyNext_list_item st p.isList (x := u) (by simpa using hu) fun h' st' sb => ?_
    have I1 : Inv X pins σ H { s with heap := h' } := I.turned (t' := s.toks) (fun b o hb e => (sb.2 b hb).trans e) f0 f1 f3 f4 f5
    obtain ⟨o, e, c, d⟩ := id st'
    exact ⟨u, rfl, go_of (s := { s with heap := h' }) e c d (by decide) ⟨x, H, I1, ru, ⟨rfl, fun ys hy => by rw [I.list_inj hy hq]; exact hx⟩, st', fun b hb => (hf b hb).1⟩⟩
  done := by
    intro X hP hw hK hc i pins s σ H E I hf st hg
    subst hP hw hK
    obtain ⟨xs, hq, hx⟩ := hg
    obtain ⟨its, rv, p, hz⟩ := I.list hq
    obtain ⟨f0, f1, f2, f3, f4, f5⟩ := hf it (by simp)
    have hl := rv.length
    exact wpAny_pyNext_list_end (I.ok.hd hc) st p.isList (by simp; omega) fun h' eb => ⟨rfl, I.turned (t' := s.toks) (fun b o hb e => eb b o hb e) f0 f1 f3 f4 f5⟩
  self := fun _ _ _ _ _ st h => wpAny_pyIter_listiter st h
theorem turn_range {P : Program} {w : World} {K : PySem.W.Frag} {tg : Expr} (it : Addr) (lo : Int) (n : Nat) : Turn P w K tg (Itr lo n) [it] it (fun i h => IsRangeIter h it (lo + (i : Nat) * 1) ((n : Int) - (i : Nat)) 1) where
  mem := by simp
  obj := fun i h st b hb => by
    have e : b = it := by simpa using hb
    subst e
    exact ⟨_, st, fun v z => by
      have z' : Data.fields _ = Data.cell v := z
      cases z'⟩
  keep := fun i h h' st k => k it (by simp) _ st
  item := by
    intro X hP hw hK hc i pins s σ H E I hf st hg
    subst hP hw hK
    obtain ⟨f0, f1, f2, f3, f4, f5⟩ := hf it (by simp)
    have W := Walks.range (prog := X.prog) (w := X.w) (I.ok.hd hc) it lo 1 n
    refine W.item i s _ _ hg st fun v h' tk hv st' kk => ?_
    obtain ⟨t, rfl⟩ := hv
    have I1 : Inv X pins σ H { s with heap := h', toks := tk } := I.turned (fun b o hb e => kk b o (by simpa using hb) e) f0 f1 f3 f4 f5
    refine ⟨_, rfl, go_of (s := { s with heap := h', toks := tk }) (n := "range_iterator") st' rfl rfl (by decide) ⟨.int (lo + i), H, I1, ⟨t, ?_⟩, ⟨rfl, rfl⟩, st', fun b hb => (hf b hb).1⟩⟩
    rw [Int.mul_one]
  done := by
    intro X hP hw hK hc i pins s σ H E I hf st hg
    subst hP hw hK
    obtain ⟨f0, f1, f2, f3, f4, f5⟩ := hf it (by simp)
    exact wpAny_pyNext_range_end (I.ok.hd hc) st (by have : n ≤ i := hg; omega) fun h' eb => ⟨rfl, I.turned (t' := s.toks) (fun b o hb e => eb b o hb e) f0 f1 f3 f4 f5⟩
  self := fun _ _ _ _ _ st h => wpAny_pyIter_rangeiter st h
end L2

namespace L2
open PySem PySem.Spec PyProof.Rows
section
variable {X : Cx} {tg : Expr}
noncomputable def iList (K : PySem.W.Frag) (tl : TE) : TI := fun σ H R => tl σ H fun x H1 => ∃ a, x = .ref a ∧ (∃ xs, SqL K H1 a xs) ∧ R (Itl K a) H1
theorem pi_list {l : Expr} {tl : TE} (hl : PE X l tl) : PI X tg l (iList X.K tl) := by
  intro pins s σ H R I h
  refine thn (hl pins s σ H _ I h) fun v s1 ⟨x, H1, I1, r1, q1⟩ => ?_
  obtain ⟨a, e, ⟨xs, hq⟩, q⟩ := q1
  subst e
  cases r1
  obtain ⟨its, rv, p, hz⟩ := I1.list hq
  refine wpAny_pyIter_list p.isList ?_
  refine ⟨s1.heap.objs.size, [s1.heap.objs.size], _, _, H1, rfl, I1.kept (t' := s1.toks) fun b o e => Heap.get?_push_of_some _ e, turn_list a _, ⟨_, Heap.get?_push_size _ rfl, rfl, rfl⟩, fun b hb => ?_, q⟩
  have e : b = s1.heap.objs.size := by simpa using hb
  subst e
  exact I1.fpOk (Nat.le_refl _) (I1.hok.fresh (Nat.le_refl _))
/-- a range object just made, walked -/
theorem range_it {pins : List (Addr × Obj)} {σ : St} {H : Hp} {s : Shared} {R : It → Hp → Prop} {E : Value → Shared → Prop} {lo hi : Int} {t u v : Tok} {tk : Nat} (I : Inv X pins σ H s) (h1 : -(2 ^ 62) ≤ lo) (h2 : lo < 2 ^ 62) (h3 : -(2 ^ 62) ≤ hi) (h4 : hi < 2 ^ 62)
    (q : R (Itr lo (hi - lo).toNat) H) : wpAny (model X.prog X.w) X.A (pyIter (.ref s.heap.objs.size)) (PIE X pins σ tg R) E { s with heap := s.heap.push { cls := .type "range", data := .fields #[.int lo t, .int hi u, .int 1 v] }, toks := tk } := by
  refine wpAny_pyIter_range (IsRange.new ..) (small_one h1 h2 h3 h4) ?_
  have I1 : Inv X pins σ H { s with heap := s.heap.push { cls := .type "range", data := .fields #[.int lo t, .int hi u, .int 1 v] }, toks := tk } := I.kept fun b o e => Heap.get?_push_of_some _ e
  refine ⟨(s.heap.push { cls := .type "range", data := .fields #[.int lo t, .int hi u, .int 1 v] }).objs.size, [(s.heap.push { cls := .type "range", data := .fields #[.int lo t, .int hi u, .int 1 v] }).objs.size], _, _, H, rfl,
    I1.kept (t' := tk) fun b o e => Heap.get?_push_of_some _ e, turn_range _ lo (hi - lo).toNat, ?_, fun b hb => ?_, q⟩
  · have e1 : lo + ((0 : Nat) : Int) * 1 = lo := by simp
    have e2 : (((hi - lo).toNat : Nat) : Int) - ((0 : Nat) : Int) = Builtin.Range.rangeSize lo hi 1 := by rw [rangeSize_one]; split <;> omega
    show IsRangeIter _ _ (lo + ((0 : Nat) : Int) * 1) ((((hi - lo).toNat : Nat) : Int) - ((0 : Nat) : Int)) 1
    rw [e1, e2]
    exact Heap.get?_push_size _ rfl
  · have e : b = (s.heap.push { cls := .type "range", data := .fields #[.int lo t, .int hi u, .int 1 v] }).objs.size := by simpa using hb
    subst e
    exact I1.fpOk (Nat.le_refl _) (I1.hok.fresh (Nat.le_refl _))
noncomputable def iRng1 (ta : TA) : TI := fun σ H R => ta σ H fun vs H1 => ∃ j : Int, vs = [.int j] ∧ -(2 ^ 62) ≤ j ∧ j < 2 ^ 62 ∧ R (Itr 0 j.toNat) H1
noncomputable def iRng2 (ta : TA) : TI := fun σ H R => ta σ H fun vs H1 => ∃ i j : Int, vs = [.int i, .int j] ∧ (-(2 ^ 62) ≤ i ∧ i < 2 ^ 62 ∧ -(2 ^ 62) ≤ j ∧ j < 2 ^ 62) ∧ R (Itr i (j - i).toNat) H1
theorem pi_range1 {a : Expr} {ta : TA} {p pos : Pos} (hg : Gl X "range") (hm : X.mg "range" = none) (ha : PA X [a] ta) (hs : starEach [a] X.env = [(false, eval a X.env)] := by rfl) : PI X tg (.Call (.Name "range" p) [a] [] pos) (iRng1 ta) := by
  intro pins s σ H R I h
  refine Call_ (ld_blt I hg hm boot_range (PyProof.Rows.callWith_type1 (thn (ha pos pins s σ H _ I h) fun us s1 ⟨vs, H1, I1, r1, q1⟩ => ?_) hs rfl))
  obtain ⟨j, e, q1, q2, q⟩ := q1
  subst e
  cases r1 with
  | cons r rr =>
    cases rr
    obtain ⟨t, rfl⟩ := r
    exact call_range_1 (range_it I1 (by omega) (by omega) q1 q2 (by simpa using q))
theorem pi_range2 {a b : Expr} {ta : TA} {p pos : Pos} (hg : Gl X "range") (hm : X.mg "range" = none) (ha : PA X [a, b] ta) (hs : starEach [a, b] X.env = [(false, eval a X.env), (false, eval b X.env)] := by rfl) (hs2 : starEach [b] X.env = [(false, eval b X.env)] := by rfl) :
    PI X tg (.Call (.Name "range" p) [a, b] [] pos) (iRng2 ta) := by
  intro pins s σ H R I h
  refine Call_ (ld_blt I hg hm boot_range (PyProof.Rows.callWith_type1 (thn (ha pos pins s σ H _ I h) fun us s1 ⟨vs, H1, I1, r1, q1⟩ => ?_) (by rw [hs, hs2]) (by rw [hs2]; rfl)))
  obtain ⟨i, j, e, ⟨q1, q2, q3, q4⟩, q⟩ := q1
  subst e
  cases r1 with
  | cons r rr =>
    cases rr with
    | cons r' rr =>
      cases rr
      obtain ⟨t, rfl⟩ := r
      obtain ⟨t', rfl⟩ := r'
      exact call_range_2 (range_it I1 q1 q2 q3 q4 q)

/-! ### for -/
/-- W: the invariant by the turn and a measure; N: what the body is to reach -/
noncomputable def tFor (wi : TI) (g : TG) (tb : TS) : TS := fun D σ H => wi σ H fun J H1 => ∃ W : Nat → Nat → St → Hp → Prop, (∃ m, W 0 m σ H1) ∧ ∀ i m σ H, W i m σ H →
  (J.stop i H ∧ D.nx σ H) ∨ (J.go i H ∧ ∃ N : St → Hp → Prop, (∀ σ' H', N σ' H' → ∃ m', m' < m ∧ W (i + 1) m' σ' H') ∧ ∀ x H', J.yld i H x H' → g x σ H' fun σ2 H2 => tb { D with nx := N, ct := N, bk := D.nx } σ2 H2)
/-- the records at fp as they stand -/
noncomputable def pinsAt (fp : List Addr) (h : Heap) : List (Addr × Obj) := fp.filterMap fun b => (h.get? b).map fun o => (b, o)
theorem mem_pinsAt {fp : List Addr} {h : Heap} {b : Addr} {o : Obj} (hb : b ∈ fp) (e : h.get? b = some o) : (b, o) ∈ pinsAt fp h := List.mem_filterMap.mpr ⟨b, hb, by rw [e]; rfl⟩
theorem of_pinsAt {fp : List Addr} {h : Heap} {p : Addr × Obj} (hp : p ∈ pinsAt fp h) : p.1 ∈ fp ∧ h.get? p.1 = some p.2 := by
  obtain ⟨b, hb, e⟩ := List.mem_filterMap.mp hp
  cases q : h.get? b with
  | none => rw [q] at e; cases e
  | some o =>
    rw [q] at e
    have e' : (b, o) = p := Option.some.inj e
    subst e'
    exact ⟨hb, q⟩
theorem Inv.pinned {pins : List (Addr × Obj)} {σ : St} {H : Hp} {s : Shared} {fp : List Addr} (I : Inv X pins σ H s) (hf : ∀ b ∈ fp, FpOk X pins H b) (ho : ∀ b ∈ fp, ∃ o, s.heap.get? b = some o ∧ ∀ v, o.data ≠ .cell v) : Inv X (pins ++ pinsAt fp s.heap) σ H s :=
  I.pins_of fun p hp => (List.mem_append.mp hp).elim (fun z => I.pin p (List.mem_append_right _ z)) fun z => by
    obtain ⟨hb, e⟩ := of_pinsAt z
    obtain ⟨f0, f1, f2, _⟩ := hf p.1 hb
    obtain ⟨o, e', d⟩ := ho p.1 hb
    rw [e] at e'; cases e'
    exact ⟨e, f0, f1, f2, d⟩
theorem Inv.unpinned {pins pl : List (Addr × Obj)} {σ : St} {H : Hp} {s : Shared} (I : Inv X (pins ++ pl) σ H s) : Inv X pins σ H s := I.pins_of fun p hp => I.pin p (List.mem_append_right _ (List.mem_append_left _ hp))
theorem ps_for {iter : Expr} {body : List Stmt} {wi : TI} {g : TG} {tb : TS} {pos : Pos} (hp : PassesOwn (model X.prog X.w) X.A X.env X.xe) (hc : X.calm = true) (hi : PI X tg iter wi) (hg : PG X tg g) (hb : PSs X body tb)
    (hs : ∀ x, foldedSetIterable iter X.env x = pure x := by intro _; rfl) : PS X (.For tg iter body [] pos) (tFor wi g tb) := by
  intro pins s σ H D I h
  refine wpAny_For (thn (hi pins s σ H _ I h) fun v s1 h1 => thn h1 fun itv s2 h2 => ?_) hs
  obtain ⟨it, fp, tn, J, H2, e, I2, T, st2, f2, W, ⟨m0, w0⟩, turn⟩ := h2
  subst e
  -- what stays true of the iterator's objects through the loop
  have stat : ∀ {H' : Hp}, (∀ b ∈ fp, H' b = none) → ∀ b ∈ fp, FpOk X pins H' b := fun hn b hb => ⟨hn b hb, (f2 b hb).2⟩
  refine codeAny_forLoop_any (fun n s' => ∃ i σ' H', Inv X pins σ' H' s' ∧ tn i s'.heap ∧ (∀ b ∈ fp, H' b = none) ∧ W i n σ' H') ?_ m0 ⟨0, σ, H2, I2, st2, fun b hb => (f2 b hb).1, w0⟩
  rintro n s3 ⟨i, σ3, H3, I3, st3, fr3, w3⟩
  rcases turn i n σ3 H3 w3 with ⟨stop, qn⟩ | ⟨go, N, hN, step⟩
  · refine wpAny_passesOwn hp (thn (T.done X rfl rfl rfl hc i pins s3 σ3 H3 X.xe I3 (stat fr3) st3 stop) fun r s4 ⟨hr, I4⟩ => ?_)
    subst hr
    exact wpAny_execs_nil ⟨σ3, H3, I4, qn⟩
  · refine wpAny_passesOwn hp (thn (T.item X rfl rfl rfl hc i pins s3 σ3 H3 X.xe I3 (stat fr3) st3 go) fun r s4 ⟨u, hr, h4⟩ => ?_)
    subst hr
    refine wpAny_passesOwn hp (thn h4 fun _ s5 ⟨x, H5, I5, r5, y5, st5, fr5⟩ => ?_)
    have I5' := I5.pinned (stat fr5) (T.obj _ _ st5)
    refine wpAny_passesOwn hp (thn (hg _ s5 σ3 H5 x u _ I5' r5 (step x H5 y5)) fun _ s6 ⟨σ6, H6, I6, q6⟩ => ?_)
    refine wpAny_passesOwn hp (thn (hb _ s6 σ6 H6 _ I6 q6) fun f s7 q7 => ?_)
    have again : ∀ {σ7 : St} {H7 : Hp}, Inv X (pins ++ pinsAt fp s5.heap) σ7 H7 s7 → N σ7 H7 → ∃ m, m < n ∧ ∃ i σ' H', Inv X pins σ' H' s7 ∧ tn i s7.heap ∧ (∀ b ∈ fp, H' b = none) ∧ W i m σ' H' := fun {σ7 H7} I7 n7 => by
      obtain ⟨m', hm, w7⟩ := hN σ7 H7 n7
      refine ⟨m', hm, i + 1, σ7, H7, I7.unpinned, T.keep _ _ _ st5 fun b hb o e => (I7.pin (b, o) (List.mem_append_right _ (List.mem_append_right _ (mem_pinsAt hb e)))).1, fun b hb => ?_, w7⟩
      obtain ⟨o, e, d⟩ := T.obj _ _ st5 b hb
      exact (I7.pin (b, o) (List.mem_append_right _ (List.mem_append_right _ (mem_pinsAt hb e)))).2.1
    cases f with
    | next => obtain ⟨σ7, H7, I7, n7⟩ := q7; exact again I7 n7
    | cont => obtain ⟨σ7, H7, I7, n7⟩ := q7; exact again I7 n7
    | brk => obtain ⟨σ7, H7, I7, q7⟩ := q7; exact ⟨σ7, H7, I7.unpinned, q7⟩
    | ret v => obtain ⟨x7, σ7, H7, I7, r7, q7⟩ := q7; exact ⟨x7, σ7, H7, I7.unpinned, r7, q7⟩
end

/-! ### the forms one uses -/
/-- over a list that the body leaves as it is -/
theorem for_list {K : PySem.W.Frag} {a : Addr} {xs : List V} {g : TG} {tb : TS} {D : Ends} {σ : St} {H : Hp} (Pv : Nat → St → Hp → Prop) (h0 : Pv 0 σ H) (hl : ∀ i σ H, i ≤ xs.length → Pv i σ H → SqL K H a xs)
    (hs : ∀ i x σ H, xs[i]? = some x → Pv i σ H → g x σ H fun σ2 H2 => tb { D with nx := Pv (i + 1), ct := Pv (i + 1), bk := D.nx } σ2 H2) (hd : ∀ σ H, Pv xs.length σ H → D.nx σ H) :
    ∃ W : Nat → Nat → St → Hp → Prop, (∃ m, W 0 m σ H) ∧ ∀ i m σ H, W i m σ H →
      ((Itl K a).stop i H ∧ D.nx σ H) ∨ ((Itl K a).go i H ∧ ∃ N : St → Hp → Prop, (∀ σ' H', N σ' H' → ∃ m', m' < m ∧ W (i + 1) m' σ' H') ∧ ∀ x H', (Itl K a).yld i H x H' → g x σ H' fun σ2 H2 => tb { D with nx := N, ct := N, bk := D.nx } σ2 H2) := by
  refine ⟨fun i m σ H => m = xs.length - i ∧ i ≤ xs.length ∧ Pv i σ H, ⟨xs.length, by simp, Nat.zero_le _, h0⟩, ?_⟩
  rintro i m σ H ⟨rfl, hi, p⟩
  have q := hl i σ H hi p
  by_cases hlt : i < xs.length
  · refine .inr ⟨⟨xs, xs[i], q, by simp [hlt]⟩, Pv (i + 1), fun σ' H' p' => ⟨xs.length - (i + 1), by omega, rfl, hlt, p'⟩, fun x H' y => ?_⟩
    obtain ⟨e, y⟩ := y
    subst e
    exact hs i x σ _ (y xs q) p
  · have e : i = xs.length := by omega
    subst e
    exact .inl ⟨⟨xs, q, Nat.le_refl _⟩, hd σ H p⟩
theorem for_range {lo : Int} {n : Nat} {g : TG} {tb : TS} {D : Ends} {σ : St} {H : Hp} (Pv : Nat → St → Hp → Prop) (h0 : Pv 0 σ H)
    (hs : ∀ i σ H, i < n → Pv i σ H → g (.int (lo + i)) σ H fun σ2 H2 => tb { D with nx := Pv (i + 1), ct := Pv (i + 1), bk := D.nx } σ2 H2) (hd : ∀ σ H, Pv n σ H → D.nx σ H) :
    ∃ W : Nat → Nat → St → Hp → Prop, (∃ m, W 0 m σ H) ∧ ∀ i m σ H, W i m σ H →
      ((Itr lo n).stop i H ∧ D.nx σ H) ∨ ((Itr lo n).go i H ∧ ∃ N : St → Hp → Prop, (∀ σ' H', N σ' H' → ∃ m', m' < m ∧ W (i + 1) m' σ' H') ∧ ∀ x H', (Itr lo n).yld i H x H' → g x σ H' fun σ2 H2 => tb { D with nx := N, ct := N, bk := D.nx } σ2 H2) := by
  refine ⟨fun i m σ H => m = n - i ∧ i ≤ n ∧ Pv i σ H, ⟨n, by simp, Nat.zero_le _, h0⟩, ?_⟩
  rintro i m σ H ⟨rfl, hi, p⟩
  by_cases hlt : i < n
  · refine .inr ⟨hlt, Pv (i + 1), fun σ' H' p' => ⟨n - (i + 1), by omega, rfl, hlt, p'⟩, fun x H' y => ?_⟩
    obtain ⟨e, y⟩ := y
    subst e y
    exact hs i σ _ hlt p
  · have e : i = n := by omega
    subst e
    exact .inl ⟨Nat.le_refl _, hd σ H p⟩
/-- while, by a word and a measure of the state -/
theorem while_by {c : TT} {tb : TS} {D : Ends} {σ : St} {H : Hp} (Pv : St → Hp → Prop) (μ : St → Hp → Nat) (h0 : Pv σ H)
    (hs : ∀ σ H, Pv σ H → c σ H fun b H1 => if b = true then tb { D with nx := fun σ' H' => Pv σ' H' ∧ μ σ' H' < μ σ H, ct := fun σ' H' => Pv σ' H' ∧ μ σ' H' < μ σ H, bk := D.nx } σ H1 else D.nx σ H1)
    (mono : ∀ σ H Q Q', (∀ b H1, Q b H1 → Q' b H1) → c σ H Q → c σ H Q') : tWhile c tb D σ H := by
  refine ⟨fun m σ H => m = μ σ H ∧ Pv σ H, ⟨_, rfl, h0⟩, ?_⟩
  rintro m σ H ⟨rfl, p⟩
  refine mono σ H _ _ (fun b H1 q => ?_) (hs σ H p)
  cases b with
  | true => exact ⟨_, fun σ' H' ⟨p', l⟩ => ⟨_, l, rfl, p'⟩, q⟩
  | false => exact q
end L2

namespace L2
open PySem PySem.Spec PyProof.Rows

noncomputable abbrev R2 := V → V → Hp → VK → Prop
/-- a two-place operation on values: f is binaryOp op, inplaceOp op or compareOp op -/
noncomputable def OpR (X : Cx) (f : Value → Value → Sem Value) (r : R2) : Prop :=
  ∀ (pins : List (Addr × Obj)) (s : Shared) (σ : St) (H : Hp) (x y : V) (v u : Value) (Q : VK), Inv X pins σ H s → RelV x v → RelV y u → r x y H Q →
    wpAny (model X.prog X.w) X.A (f v u) (EP X pins σ Q) X.xe s
/-- a one-place operation -/
noncomputable def UnR (X : Cx) (f : Value → Sem Value) (r : V → Hp → VK → Prop) : Prop :=
  ∀ (pins : List (Addr × Obj)) (s : Shared) (σ : St) (H : Hp) (x : V) (v : Value) (Q : VK), Inv X pins σ H s → RelV x v → r x H Q →
    wpAny (model X.prog X.w) X.A (f v) (EP X pins σ Q) X.xe s
/-- a call of a value that is known (a builtin, a type) with values -/
noncomputable def CallR (X : Cx) (f : Value) (r : List V → Hp → VK → Prop) : Prop :=
  ∀ (pins : List (Addr × Obj)) (s : Shared) (σ : St) (H : Hp) (xs : List V) (us : List Value) (Q : VK), Inv X pins σ H s → Vals xs us → r xs H Q →
    wpAny (model X.prog X.w) X.A (call f us) (EP X pins σ Q) X.xe s
/-- a value's truth -/
noncomputable def TruR (X : Cx) (r : V → Hp → (Bool → Hp → Prop) → Prop) : Prop :=
  ∀ (pins : List (Addr × Obj)) (s : Shared) (σ : St) (H : Hp) (x : V) (v : Value) (Q : Bool → Hp → Prop), Inv X pins σ H s → RelV x v → r x H Q →
    wpAny (model X.prog X.w) X.A (truthy v) (TP X pins σ Q) X.xe s

noncomputable def tOp (r : R2) (ta tb : TE) : TE := fun σ H Q => ta σ H fun x H1 => tb σ H1 fun y H2 => r x y H2 Q
noncomputable def tUn (r : V → Hp → VK → Prop) (ta : TE) : TE := fun σ H Q => ta σ H fun x H1 => r x H1 Q
/-- ints in, under C, and a value out -/
noncomputable def rI (C : Int → Int → Prop) (g : Int → Int → V) : R2 := fun x y H Q => ∃ i j, x = .int i ∧ y = .int j ∧ C i j ∧ Q (g i j) H
noncomputable def rI0 (g : Int → Int → V) : R2 := fun x y H Q => ∃ i j, x = .int i ∧ y = .int j ∧ Q (g i j) H
noncomputable def rU (g : Int → V) : V → Hp → VK → Prop := fun x H Q => ∃ i, x = .int i ∧ Q (g i) H

section
variable {X : Cx} {a b c : Expr} {ta tb tc : TE} {pos : Pos}

theorem binT (ha : PE X a ta) (hb : PE X b tb) {pins : List (Addr × Obj)} {s : Shared} {σ : St} {H : Hp} {R : V → V → Hp → Prop} (I : Inv X pins σ H s)
    (h : ta σ H fun x H1 => tb σ H1 fun y H2 => R x y H2) {Q : Value → Shared → Prop} {f : Value → Value → Sem Value}
    (hf : ∀ v u s2 x y H2, Inv X pins σ H2 s2 → RelV x v → RelV y u → R x y H2 → wpAny (model X.prog X.w) X.A (f v u) Q X.xe s2) :
    wpAny (model X.prog X.w) X.A (eval a X.env) (fun v s₁ => wpAny (model X.prog X.w) X.A (eval b X.env) (fun u s₂ => wpAny (model X.prog X.w) X.A (f v u) Q X.xe s₂) X.xe s₁) X.xe s := by
  refine thn (ha pins s σ H _ I h) fun v s1 ⟨x, H1, I1, r1, q1⟩ => ?_
  refine thn (hb pins s1 σ H1 _ I1 q1) fun u s2 ⟨y, H2, I2, r2, q2⟩ => ?_
  exact hf v u s2 x y H2 I2 r1 r2 q2

theorem pe_op {op : Operator} {r : R2} (ho : OpR X (binaryOp op) r) (ha : PE X a ta) (hb : PE X b tb) : PE X (.BinOp a op b pos) (tOp r ta tb) := by
  intro pins s σ H Q I h
  exact wpAny_BinOp (binT ha hb I h fun v u s2 x y H2 I2 rx ry q => ho pins s2 σ H2 x y v u Q I2 rx ry q)
theorem pe_un {op : UnaryOp} {r : V → Hp → VK → Prop} (ho : UnR X (unaryOp op) r) (ha : PE X a ta) : PE X (.UnaryOp op a pos) (tUn r ta) := by
  intro pins s σ H Q I h
  exact UnaryOp_ (thn (ha pins s σ H _ I h) fun v s1 ⟨x, H1, I1, r1, q1⟩ => ho pins s1 σ H1 x v Q I1 r1 q1)
/-! ### ints -/
theorem opI {f : Value → Value → Sem Value} {C : Int → Int → Prop} {g : Int → Int → Int}
    (rule : ∀ (i j : Int) (t u : Tok) (s : Shared) (Q : Value → Shared → Prop) (E : Value → Shared → Prop), C i j → Q (.int (g i j) s.toks) { s with toks := s.toks + 1 } → wpAny (model X.prog X.w) X.A (f (.int i t) (.int j u)) Q E s) :
    OpR X f (rI C fun i j => .int (g i j)) := by
  intro pins s σ H x y v u Q I rx ry h
  obtain ⟨i, j, rfl, rfl, hc, q⟩ := h
  obtain ⟨t, rfl⟩ := rx
  obtain ⟨t', rfl⟩ := ry
  exact rule i j t t' s _ _ hc ⟨.int (g i j), H, I.tok _, ⟨_, rfl⟩, q⟩
theorem opI0 {f : Value → Value → Sem Value} {g : Int → Int → Int}
    (rule : ∀ (i j : Int) (t u : Tok) (s : Shared) (Q : Value → Shared → Prop) (E : Value → Shared → Prop), Q (.int (g i j) s.toks) { s with toks := s.toks + 1 } → wpAny (model X.prog X.w) X.A (f (.int i t) (.int j u)) Q E s) :
    OpR X f (rI0 fun i j => .int (g i j)) := by
  intro pins s σ H x y v u Q I rx ry h
  obtain ⟨i, j, rfl, rfl, q⟩ := h
  obtain ⟨t, rfl⟩ := rx
  obtain ⟨t', rfl⟩ := ry
  exact rule i j t t' s _ _ ⟨.int (g i j), H, I.tok _, ⟨_, rfl⟩, q⟩
theorem opB0 {f : Value → Value → Sem Value} {g : Int → Int → Bool}
    (rule : ∀ (i j : Int) (t u : Tok) (s : Shared) (Q : Value → Shared → Prop) (E : Value → Shared → Prop), Q (.bool (g i j)) s → wpAny (model X.prog X.w) X.A (f (.int i t) (.int j u)) Q E s) :
    OpR X f (rI0 fun i j => .bl (g i j)) := by
  intro pins s σ H x y v u Q I rx ry h
  obtain ⟨i, j, rfl, rfl, q⟩ := h
  obtain ⟨t, rfl⟩ := rx
  obtain ⟨t', rfl⟩ := ry
  exact rule i j t t' s _ _ ⟨.bl (g i j), H, I, rfl, q⟩

noncomputable def CPow (i j : Int) : Prop := 0 ≤ j ∧ j ≤ 1000000 ∧ i.natAbs < 2 ^ 64
noncomputable def CMul (i j : Int) : Prop := (-(2 ^ 64) < i ∧ i < 2 ^ 64) ∨ (-(2 ^ 64) < j ∧ j < 2 ^ 64)
theorem CMul.ok {i j : Int} (h : CMul i j) : IntMulOk i j := by
  rcases h with ⟨h1, h2⟩ | ⟨h1, h2⟩
  · exact .of_left (intBits_le_64 h1 h2)
  · exact .of_right (intBits_le_64 h1 h2)
theorem op_add : OpR X (binaryOp .Add) (rI0 fun i j => .int (i + j)) := opI0 fun _ _ _ _ _ _ _ q => add_int q
theorem op_sub : OpR X (binaryOp .Sub) (rI0 fun i j => .int (i - j)) := opI0 fun _ _ _ _ _ _ _ q => sub_int q
/-- % by a positive divisor of any size -/
theorem op_mod : OpR X (binaryOp .Mod) (rI (fun _ j => 0 < j) fun i j => .int (i % j)) := opI fun i j _ _ _ _ _ hc q => by
  have h1 : (0 : Int) < j := hc
  exact mod_int' (by omega) (by rw [Int.fmod_eq_emod_of_nonneg i (by omega)]; exact q)
theorem op_pow : OpR X (binaryOp .Pow) (rI CPow fun i j => .int (i ^ j.toNat)) := opI fun _ _ _ _ _ _ _ hc q => pow_int_small hc.1 hc.2.1 hc.2.2 q
theorem iop_add : OpR X (inplaceOp .Add) (rI0 fun i j => .int (i + j)) := opI0 fun _ _ _ _ _ _ _ q => iadd_int q
theorem unI {f : Value → Sem Value} {g : Int → Int}
    (rule : ∀ (i : Int) (t : Tok) (s : Shared) (Q : Value → Shared → Prop) (E : Value → Shared → Prop), Q (.int (g i) s.toks) { s with toks := s.toks + 1 } → wpAny (model X.prog X.w) X.A (f (.int i t)) Q E s) :
    UnR X f (rU fun i => .int (g i)) := by
  intro pins s σ H x v Q I rx h
  obtain ⟨i, rfl, q⟩ := h
  obtain ⟨t, rfl⟩ := rx
  exact rule i t s _ _ ⟨.int (g i), H, I.tok _, ⟨_, rfl⟩, q⟩
theorem un_neg : UnR X (unaryOp .USub) (rU fun i => .int (-i)) := unI fun _ _ _ _ _ q => neg_int q
/-! ### bools among ints: n += (a < b) -/
end

/-! ### comparisons -/
/-- the scalars that == tells apart as data does -/
noncomputable def scal : V → V → Bool
  | .non, .non => true | .non, .int _ => true | .int _, .non => true | .non, .bl _ => true | .bl _, .non => true | .non, .str _ => true | .str _, .non => true
  | .int _, .int _ => true | .bl _, .bl _ => true | .str _, .str _ => true | .byt _, .byt _ => true
  | .int _, .str _ => true | .str _, .int _ => true | .bl _, .str _ => true | .str _, .bl _ => true
  | _, _ => false
noncomputable def rEq : R2 := fun x y H Q => scal x y = true ∧ Q (.bl (decide (x = y))) H
noncomputable def rNe : R2 := fun x y H Q => scal x y = true ∧ Q (.bl (!decide (x = y))) H

theorem dec_int {i j : Int} : decide (V.int i = V.int j) = (i == j) := by
  rw [Bool.eq_iff_iff]
  simp
theorem dec_bl {i j : Bool} : decide (V.bl i = V.bl j) = (i == j) := by
  rw [Bool.eq_iff_iff]
  simp
theorem dec_str {i j : Str} : decide (V.str i = V.str j) = (i == j) := by
  rw [Bool.eq_iff_iff]
  simp
theorem dec_byt {i j : Array UInt8} : decide (V.byt i = V.byt j) = (i.toList == j.toList) := by
  rw [Bool.eq_iff_iff]
  cases i
  cases j
  simp

section
variable {X : Cx} {a b c : Expr} {ta tb tc : TE} {pos : Pos}
theorem fin_bl {pins : List (Addr × Obj)} {σ : St} {H : Hp} {s : Shared} {Q : VK} {k k' : Bool} (I : Inv X pins σ H s) (q : Q (.bl k) H) (e : k = k') : EP X pins σ Q (.bool k') s := by
  subst e
  exact ⟨.bl k, H, I, rfl, q⟩
theorem op_eq : OpR X (compareOp .Eq) rEq := by
  intro pins s σ H x y v u Q I rx ry h
  obtain ⟨hs, q⟩ := h
  cases x with
  | non =>
    cases rx
    cases y with
    | non => cases ry; exact PySem.EqNone.eq_none_none (fin_bl I q (by simp))
    | bl j => cases ry; exact PySem.EqNone.eq_none_bool (fin_bl I q (by simp))
    | int j => obtain ⟨t', rfl⟩ := ry; exact PySem.EqNone.eq_none_int (fin_bl I q (by simp))
    | str j => obtain ⟨t', rfl⟩ := ry; exact PySem.EqNone.eq_none_str (fin_bl I q (by simp))
    | _ => exact absurd (show false = true from hs) Bool.false_ne_true
  | bl i =>
    cases rx
    cases y with
    | non => cases ry; exact PySem.EqNone.eq_bool_none (fin_bl I q (by simp))
    | bl j => cases ry; exact eq_bool (fin_bl I q dec_bl)
    | str j => obtain ⟨t', rfl⟩ := ry; exact PySem.EqMixed.eq_bool_str (fin_bl I q (by simp))
    | _ => exact absurd (show false = true from hs) Bool.false_ne_true
  | int i =>
    obtain ⟨t, rfl⟩ := rx
    cases y with
    | non => cases ry; exact PySem.EqNone.eq_int_none (fin_bl I q (by simp))
    | int j => obtain ⟨t', rfl⟩ := ry; exact eq_int (fin_bl I q dec_int)
    | str j => obtain ⟨t', rfl⟩ := ry; exact PySem.EqMixed.eq_int_str (fin_bl I q (by simp))
    | _ => exact absurd (show false = true from hs) Bool.false_ne_true
  | str i =>
    obtain ⟨t, rfl⟩ := rx
    cases y with
    | non => cases ry; exact PySem.EqNone.eq_str_none (fin_bl I q (by simp))
    | bl j => cases ry; exact PySem.EqMixed.eq_str_bool (fin_bl I q (by simp))
    | int j => obtain ⟨t', rfl⟩ := ry; exact PySem.EqMixed.eq_str_int (fin_bl I q (by simp))
    | str j => obtain ⟨t', rfl⟩ := ry; exact eq_str (fin_bl I q dec_str)
    | _ => exact absurd (show false = true from hs) Bool.false_ne_true
  | byt i =>
    obtain ⟨t, rfl⟩ := rx
    cases y with
    | byt j => obtain ⟨t', rfl⟩ := ry; exact PySem.W.eq_bytes (fin_bl I q dec_byt)
    | _ => exact absurd (show false = true from hs) Bool.false_ne_true
  | _ => cases y <;> exact absurd (show false = true from hs) Bool.false_ne_true
theorem op_ne : OpR X (compareOp .NotEq) rNe := by
  intro pins s σ H x y v u Q I rx ry h
  obtain ⟨hs, q⟩ := h
  cases x with
  | non =>
    cases rx
    cases y with
    | non => cases ry; exact PySem.EqNone.ne_none_none (fin_bl I q (by simp))
    | bl j => cases ry; exact PySem.EqNone.ne_none_bool (fin_bl I q (by simp))
    | int j => obtain ⟨t', rfl⟩ := ry; exact PySem.EqNone.ne_none_int (fin_bl I q (by simp))
    | str j => obtain ⟨t', rfl⟩ := ry; exact PySem.EqNone.ne_none_str (fin_bl I q (by simp))
    | _ => exact absurd (show false = true from hs) Bool.false_ne_true
  | bl i =>
    cases rx
    cases y with
    | non => cases ry; exact PySem.EqNone.ne_bool_none (fin_bl I q (by simp))
    | bl j => cases ry; exact ne_bool (fin_bl I q (congrArg not dec_bl))
    | str j => obtain ⟨t', rfl⟩ := ry; exact PySem.EqMixed.ne_bool_str (fin_bl I q (by simp))
    | _ => exact absurd (show false = true from hs) Bool.false_ne_true
  | int i =>
    obtain ⟨t, rfl⟩ := rx
    cases y with
    | non => cases ry; exact PySem.EqNone.ne_int_none (fin_bl I q (by simp))
    | int j => obtain ⟨t', rfl⟩ := ry; exact ne_int (fin_bl I q (congrArg not dec_int))
    | str j => obtain ⟨t', rfl⟩ := ry; exact PySem.EqMixed.ne_int_str (fin_bl I q (by simp))
    | _ => exact absurd (show false = true from hs) Bool.false_ne_true
  | str i =>
    obtain ⟨t, rfl⟩ := rx
    cases y with
    | non => cases ry; exact PySem.EqNone.ne_str_none (fin_bl I q (by simp))
    | bl j => cases ry; exact PySem.EqMixed.ne_str_bool (fin_bl I q (by simp))
    | int j => obtain ⟨t', rfl⟩ := ry; exact PySem.EqMixed.ne_str_int (fin_bl I q (by simp))
    | str j => obtain ⟨t', rfl⟩ := ry; exact ne_str (fin_bl I q (congrArg not dec_str))
    | _ => exact absurd (show false = true from hs) Bool.false_ne_true
  | byt i =>
    obtain ⟨t, rfl⟩ := rx
    cases y with
    | byt j => obtain ⟨t', rfl⟩ := ry; exact PySem.W.ne_bytes (fin_bl I q (congrArg not dec_byt))
    | _ => exact absurd (show false = true from hs) Bool.false_ne_true
  | _ => cases y <;> exact absurd (show false = true from hs) Bool.false_ne_true

theorem op_lt : OpR X (compareOp .Lt) (rI0 fun i j => .bl (decide (i < j))) := opB0 fun _ _ _ _ _ _ _ q => lt_int q
theorem op_le : OpR X (compareOp .LtE) (rI0 fun i j => .bl (decide (i ≤ j))) := opB0 fun _ _ _ _ _ _ _ q => le_int q
theorem op_gt : OpR X (compareOp .Gt) (rI0 fun i j => .bl (decide (j < i))) := opB0 fun _ _ _ _ _ _ _ q => gt_int q
theorem op_ge : OpR X (compareOp .GtE) (rI0 fun i j => .bl (decide (j ≤ i))) := opB0 fun _ _ _ _ _ _ _ q => ge_int q
/-- two rules for one operation: by cases -/
theorem OpR.or {f : Value → Value → Sem Value} {r r' : R2} (h : OpR X f r) (h' : OpR X f r') : OpR X f (fun x y H Q => r x y H Q ∨ r' x y H Q) := by
  intro pins s σ H x y v u Q I rx ry q
  rcases q with q | q
  · exact h pins s σ H x y v u Q I rx ry q
  · exact h' pins s σ H x y v u Q I rx ry q

theorem nomark (b : Expr) {op : CmpOp} (h : op ≠ .In := by decide) (h2 : op ≠ .NotIn := by decide) : behindInMarks op b = false := by
  have e1 : (op == CmpOp.In) = false := by cases op <;> first | rfl | exact absurd rfl h
  have e2 : (op == CmpOp.NotIn) = false := by cases op <;> first | rfl | exact absurd rfl h2
  cases b <;> simp [behindInMarks, e1, e2]
/-- a comparison as a value; hm: nomark b, or (for in, not in) by with_unfolding_all rfl -/
theorem pe_cmpR {op : CmpOp} {r : R2} (ho : OpR X (compareOp op) r) (ha : PE X a ta) (hb : PE X b tb) (hm : behindInMarks op b = false) : PE X (.Compare a [op] [b] pos) (tOp r ta tb) := by
  intro pins s σ H Q I h
  exact wpAny_Compare1 (binT ha hb I h fun v u s2 x y H2 I2 rx ry q => ho pins s2 σ H2 x y v u Q I2 rx ry q) hm
/-- a reading of a value as a test -/
noncomputable def tTest (t : TE) : TT := fun σ H Q => t σ H fun x H' => ∃ k, x = .bl k ∧ Q k H'
theorem pt_cmpR {op : CmpOp} {r : R2} (ho : OpR X (compareOp op) r) (ha : PE X a ta) (hb : PE X b tb) (hm : behindInMarks op b = false) : PT X (.Compare a [op] [b] pos) (tTest (tOp r ta tb)) := by
  intro pins s σ H Q I h
  refine wpAny_isTrue_Compare1 (thn (ha pins s σ H _ I h) fun v s1 ⟨x, H1, I1, r1, q1⟩ => thn (hb pins s1 σ H1 _ I1 q1) fun u s2 ⟨y, H2, I2, r2, q2⟩ =>
    thn (ho pins s2 σ H2 x y v u _ I2 r1 r2 q2) fun c s3 ⟨z, H3, I3, r3, k, e, q3⟩ => ?_) hm
  subst e
  cases r3
  exact wpAny_truthy_bool ⟨H3, I3, q3⟩
/-! ### truth -/
/-- a value's truth by the abstract heap -/
noncomputable def TruV (K : PySem.W.Frag) (x : V) (H : Hp) (k : Bool) : Prop :=
  match x with
  | .non => k = false
  | .bl b => k = b
  | .int i => k = (i != 0)
  | .str y => y.length ≤ sizeLine ∧ k = ((y.length : Int) != 0)
  | .byt y => y.size ≤ sizeLine ∧ k = ((y.size : Int) != 0)
  | .ref p => (∃ xs, SqL K H p xs ∧ k = !xs.isEmpty) ∨ (∃ xs, SqT K H p xs ∧ k = !xs.isEmpty) ∨ ∃ kvs, H p = some (.dK kvs) ∧ k = !kvs.isEmpty
  | _ => False
theorem isEmpty_kv {κ : Type} {kvs : List (κ × V)} {vs : List (κ × Value)} (r : KV kvs vs) : (!vs.isEmpty) = !kvs.isEmpty := by
  cases r <;> rfl
theorem isEmpty_of {xs : List V} {its : List Value} (r : Vals xs its) : (!its.toArray.isEmpty) = !xs.isEmpty := by
  cases r <;> simp
theorem line63 : (sizeLine : Nat) < 2 ^ 63 := by rw [sizeLine_eq]; decide
theorem tru_ok : TruR X (fun x H Q => ∃ k, TruV X.K x H k ∧ Q k H) := by
  intro pins s σ H x v Q I rx h
  obtain ⟨k, e, q⟩ := h
  have hl := line63
  have hs : sizeLine = 16777216 := sizeLine_eq
  cases x with
  | non =>
    cases rx
    have e' : k = false := e
    subst e'
    exact truthy_none ⟨H, I, q⟩
  | bl b =>
    cases rx
    have e' : k = b := e
    subst e'
    exact wpAny_truthy_bool ⟨H, I, q⟩
  | int i =>
    obtain ⟨t, rfl⟩ := rx
    have e' : k = (i != 0) := e
    subst e'
    exact PySem.P.truthy_int ⟨H, I, q⟩
  | str y =>
    obtain ⟨t, rfl⟩ := rx
    obtain ⟨hy, e'⟩ : y.length ≤ sizeLine ∧ k = ((y.length : Int) != 0) := e
    subst e'
    exact PySem.P.truthy_str (by omega) ⟨H, I.tok _, q⟩
  | byt y =>
    obtain ⟨t, rfl⟩ := rx
    obtain ⟨hy, e'⟩ : y.size ≤ sizeLine ∧ k = ((y.size : Int) != 0) := e
    subst e'
    exact PySem.W.truthy_bytes (by omega) ⟨H, I.tok _, q⟩
  | ref p =>
    cases rx
    have e' : (∃ xs, SqL X.K H p xs ∧ k = !xs.isEmpty) ∨ (∃ xs, SqT X.K H p xs ∧ k = !xs.isEmpty) ∨ ∃ kvs, H p = some (.dK kvs) ∧ k = !kvs.isEmpty := e
    rcases e' with ⟨xs, hx, e'⟩ | ⟨xs, hx, e'⟩ | ⟨kvs, hx, e'⟩
    · subst e'
      obtain ⟨its, r, pl, hz⟩ := I.list hx
      have hlen := r.length
      exact wpAny_truthy_list pl.isList (by simp only [List.size_toArray]; omega) ⟨H, I.tok _, by rw [isEmpty_of r]; exact q⟩
    · subst e'
      obtain ⟨its, r, pl, hz⟩ := I.tuple hx
      have hlen := r.length
      exact truthy_tuple pl (by simp only [List.size_toArray]; omega) ⟨H, I.tok _, by rw [isEmpty_of r]; exact q⟩
    · subst e'
      obtain ⟨hz, hS, vs, r, m⟩ : kvs.length ≤ sizeLine ∧ (p == sysModules) = false ∧ ∃ vs, KV kvs vs ∧ s.heap.DictOf (mixKind X.prog X.w) p vs := I.hok p _ hx
      have hlen : kvs.length = vs.length := Paired.length r
      exact wpAny_truthy_dict hS m (by omega) ⟨H, I.tok _, by rw [isEmpty_kv r]; exact q⟩
  | _ => exact (show False from e).elim
/-- any expression whose test is its value's truth (a name, a call, a subscript, a field ..: he by fun _ => rfl) -/
theorem pt_truth (ha : PE X a ta) (he : ∀ whole, isTrue a X.env whole = (do let v ← whole; standAt a.pos; holding [v] (truthy v))) :
    PT X a (fun σ H Q => ta σ H fun x H' => ∃ k, TruV X.K x H' k ∧ Q k H') := by
  intro pins s σ H Q I h
  exact isTrue_plain (thn (ha pins s σ H _ I h) fun v s1 ⟨x, H1, I1, r1, q1⟩ => tru_ok pins s1 σ H1 x v Q I1 r1 q1) (he _)

/-! ### strs and bytes -/
/-! ### scalar builtins, by CallR -/
theorem vals1 {x : V} {us : List Value} (r : Vals [x] us) : ∃ u, us = [u] ∧ RelV x u := by
  cases r with
  | cons r1 r2 => cases r2; exact ⟨_, rfl, r1⟩
theorem vals2 {x y : V} {us : List Value} (r : Vals [x, y] us) : ∃ u w', us = [u, w'] ∧ RelV x u ∧ RelV y w' := by
  cases r with
  | cons r1 r2 =>
    cases r2 with
    | cons r3 r4 => cases r4; exact ⟨_, _, rfl, r1, r3⟩
theorem call_abs : CallR X (.builtin "abs") (fun xs H Q => ∃ i, xs = [.int i] ∧ Q (.int (if i < 0 then -i else i)) H) := by
  intro pins s σ H xs us Q I r h
  obtain ⟨i, rfl, q⟩ := h
  obtain ⟨u, rfl, t, rfl⟩ := vals1 r
  exact call_abs_int fun u tk => ⟨.int (if i < 0 then -i else i), H, I.tok _, ⟨_, rfl⟩, q⟩
end
end L2

namespace L2
open PySem PySem.Spec PyProof.Rows

/-! ### an instance, its attributes a map -/
structure ObjM (h : Heap) (x dx C : Addr) (mA : Str → Option Value) : Prop where
  obj : h.get? x = some (PySem.W.instObj C dx)
  ns : h.Ns1 dx mA
  ne : dx ≠ x

theorem lookIn_ns {h : Heap} {dx : Addr} {mA : Str → Option Value} (n : h.Ns1 dx mA) : ∃ od, h.get? dx = some od ∧ ∀ name, PySem.W.lookIn name od = some (mA name) := by
  obtain ⟨o, es, ep, ho, hd, hk, _, hm⟩ := n
  refine ⟨o, ho, fun name => ?_⟩
  have e := hm name
  unfold nsFind findBy at e
  rw [← Array.find?_toList] at e
  unfold PySem.W.lookIn
  rw [hd]
  dsimp only
  split
  · rename_i y q
    rw [q] at e
    exact congrArg some e
  · rename_i q
    rw [q] at e
    have a : es.toList.any (·.refKey) = false := by
      rw [List.any_eq_false]
      intro y hy
      obtain ⟨z, t, hkey⟩ := hk y (Array.mem_toList_iff.mp hy)
      simp [DictEntry.refKey, hkey]
    have a' : ¬ es.toList.any (·.refKey) = true := by rw [a]; exact Bool.false_ne_true
    rw [if_neg a']
    exact congrArg some e

theorem ObjM.look {h : Heap} {x dx C : Addr} {mA : Str → Option Value} (I : ObjM h x dx C mA) : ∃ od, PySem.W.InstAt h x (PySem.W.instObj C dx) C (some od) ∧ ∀ name, PySem.W.lookIn name od = some (mA name) :=
  let ⟨od, ho, hl⟩ := lookIn_ns I.ns
  ⟨od, ⟨I.obj, rfl, rfl, ho⟩, hl⟩

section
variable {prog : Program} {w : World} {A : Around} {E : Value → Shared → Prop} {s : Shared} {K : PySem.W.Frag} {x dx C f : Addr} {mA : Str → Option Value} {name : Str} {v : Value}

theorem get_map {expr : Bool} {Q : Value → Shared → Prop} (X : K.In s.heap) (I : ObjM s.heap x dx C mA) (hg : PySem.W.plainGet K C name = true) (hh : PySem.W.hasDictIn K C = true)
    (ha : PySem.W.findIn K (.ref C) name = some none) (hv : mA name = some v) (hv' : PySem.W.handedIn v = true) (h : Q v { s with toks := s.toks + 1 }) :
    wpAny (model prog w) A (getAttr (.ref x) name expr) Q E s := by
  obtain ⟨od, J, hl⟩ := I.look
  exact PySem.W.get_value X J (PySem.W.plainGet_of hg).1 (PySem.W.findObj_own hh ha rfl (by rw [hl, hv])) hv' h

theorem get_meth {pl : Sem Bool} {Q : Value × List Value → Shared → Prop} (X : K.In s.heap) (I : ObjM s.heap x dx C mA) (hg : PySem.W.plainGet K C name = true)
    (hf : PySem.W.findIn K (.ref C) name = some (some (.ref f))) (ht : PySem.W.isFn K (.ref f) = true) (hv : mA name = none) (h : Q (.ref f, [.ref x]) s) :
    wpAny (model prog w) A (getMethod (.ref x) name pl) Q E s := by
  obtain ⟨od, J, hl⟩ := I.look
  exact PySem.W.method_fn X J (PySem.W.plainGet_of hg).1 (PySem.W.plainGet_of hg).2 hf (beq_iff_eq.mp ht) (by show (PySem.W.lookIn name od).map (·.isSome) = some false; rw [hl, hv]; rfl) h

theorem set_map {ns : List Str} {Q : Unit → Shared → Prop} (X : K.In s.heap) (I : ObjM s.heap x dx C mA)
    (hs : PySem.W.findIn K (.ref C) "__setattr__" = some (some (.builtin "object.__setattr__"))) (hp : PySem.W.plainOver K C = true) (ht : PySem.W.takerIn K C name = some none) (hh : PySem.W.hasDictIn K C = true)
    (hw : PySem.Within mA ns) (hsz : ns.length ≤ sizeLine)
    (h : ∀ h', ObjM h' x dx C (fun y => if y = name then some v else mA y) → Heap.SameBut dx s.heap h' → Q () { s with heap := h', toks := s.toks + 2 }) :
    wpAny (model prog w) A (setAttr (.ref x) name v) Q E s := by
  obtain ⟨od, J, hl⟩ := I.look
  refine PySem.W.set_plain X J hs (PySem.W.osa_open (s := { s with toks := s.toks + 1 }) (r := none) X J hp ht fun b => ?_)
  obtain ⟨cd, hc, hd'⟩ := PySem.W.any_some hh
  have hx : s.heap.get? x = some ⟨.ref C, some dx, .plain, #[]⟩ := I.obj
  refine wpAny_bind (wpAny_pure (wpAny_bind (wpAny_bind (wpAny_loadPart hx (wpAny_bind (PySem.W.Looks.here (s := { s with toks := s.toks + 1 }) (PySem.W.looks_clsIn X hc) ?_))))))
  rw [hd']
  refine wpAny_pure (a := some dx) (wpAny_bind (wpAny_pure (wpAny_bind ?_)))
  refine wpAny_nsSet1 (s := { s with toks := s.toks + 1 }) I.ns fun h' hn2 hs2 => ?_
  obtain ⟨oD, esD, epD, hoD, hdD, hcD⟩ := hn2.count (PySem.Within.cons name v hw)
  refine wpAny_bind (wpAny_lookBehind hoD (by rw [hdD]; exact pastItsLine_dict (Nat.le_trans hcD (by rw [List.length_cons]; omega))) ?_)
  exact wpAny_pure (h _ ⟨(hs2.2 _ (Ne.symm I.ne)).trans I.obj, hn2, I.ne⟩ hs2)

/-- C(..): the dict at the heap's end, the instance behind it; then its __init__ -/
theorem make_map {R : Result → Shared → Prop} {vs : List Value} {kw : List (Str × Value)} (X : K.In s.heap) (hm : PySem.W.makesIn K C = true)
    (hi : PySem.W.findIn K (.ref C) "__init__" = some (some (.ref f))) (hf : PySem.W.typeIn K (.ref f) = some (.type "function"))
    (h : codeAny (model prog w) (A.under (.builtin "type.__call__" ⟨.ref C :: vs, kw⟩)) (.call (.ref f) ⟨.ref (s.heap.objs.size + 1) :: vs, kw⟩) (PySem.W.InitBack (s.heap.objs.size + 1) R)
      { s with heap := (s.heap.push PySem.W.emptyDict).push (PySem.W.instObj C s.heap.objs.size) }) :
    codeAny (model prog w) A (.call (.ref C) ⟨vs, kw⟩) R s := by
  obtain ⟨hh, g, d, t, os⟩ := s
  exact PySem.W.make_core (PySem.W.makes_of X hm) (PySem.W.looks_findIn X hi) (fun self => PySem.W.bind_fn X self hf) (.inl rfl) h
end

/-! ### the attributes as a list of pairs -/
noncomputable def putF (f : Str) (v : V) : List (Str × V) → List (Str × V)
  | [] => [(f, v)]
  | (g, x) :: r => if g = f then (g, v) :: r else (g, x) :: putF f v r
theorem lookup_putF (f g : Str) (v : V) : ∀ fs : List (Str × V), (putF f v fs).lookup g = if g = f then some v else fs.lookup g
  | [] => by
    show List.lookup g [(f, v)] = _
    by_cases h : g = f
    · have hb : (g == f) = true := beq_iff_eq.mpr h
      simp only [List.lookup, hb, if_pos h]
    · have hb : (g == f) = false := beq_eq_false_iff_ne.mpr h
      simp only [List.lookup, hb, if_neg h]
  | (k, x) :: r => by
    have ih := lookup_putF f g v r
    rw [show putF f v ((k, x) :: r) = (if k = f then (k, v) :: r else (k, x) :: putF f v r) from rfl]
    by_cases hk : k = f
    · rw [if_pos hk]
      by_cases h : g = k
      · have hb : (g == k) = true := beq_iff_eq.mpr h
        simp only [List.lookup, hb, if_pos (h.trans hk)]
      · have hb : (g == k) = false := beq_eq_false_iff_ne.mpr h
        simp only [List.lookup, hb, if_neg (fun e : g = f => h (e.trans hk.symm))]
    · rw [if_neg hk]
      by_cases h : g = k
      · have hb : (g == k) = true := beq_iff_eq.mpr h
        simp only [List.lookup, hb, if_neg (fun e : g = f => hk (h.symm.trans e))]
      · have hb : (g == k) = false := beq_eq_false_iff_ne.mpr h
        simp only [List.lookup, hb]
        exact ih
theorem keys_putF (f : Str) (v : V) : ∀ fs : List (Str × V), f ∈ (putF f v fs).map (·.1) ∧ ∀ g, g ∈ fs.map (·.1) → g ∈ (putF f v fs).map (·.1)
  | [] => ⟨by simp [putF], fun g h => by simp at h⟩
  | (k, x) :: r => by
    obtain ⟨i1, i2⟩ := keys_putF f v r
    rw [show putF f v ((k, x) :: r) = (if k = f then (k, v) :: r else (k, x) :: putF f v r) from rfl]
    by_cases hk : k = f
    · rw [if_pos hk]
      subst hk
      exact ⟨by simp, fun g h => by simpa using h⟩
    · rw [if_neg hk]
      refine ⟨?_, fun g h => ?_⟩
      · rw [List.map_cons]
        exact List.mem_cons_of_mem _ i1
      · rw [List.map_cons] at h ⊢
        rcases List.mem_cons.mp h with e | e
        · exact List.mem_cons.mpr (.inl e)
        · exact List.mem_cons_of_mem _ (i2 g e)
theorem length_putF (f : Str) (v : V) : ∀ fs : List (Str × V), (putF f v fs).length ≤ fs.length + 1
  | [] => by simp [putF]
  | (k, x) :: r => by
    have ih := length_putF f v r
    rw [show putF f v ((k, x) :: r) = (if k = f then (k, v) :: r else (k, x) :: putF f v r) from rfl]
    by_cases hk : k = f
    · rw [if_pos hk, List.length_cons, List.length_cons]; omega
    · rw [if_neg hk, List.length_cons, List.length_cons]; omega

theorem RelO.some_of {v : V} {o : Option Value} (r : RelO (some v) o) : ∃ u, o = some u ∧ RelV v u := by
  cases o with
  | none => exact (show False from r).elim
  | some u => exact ⟨u, rfl, r⟩
theorem RelO.none_of {o : Option Value} (r : RelO none o) : o = none := by
  cases o with
  | none => rfl
  | some u => exact (show False from r).elim
theorem handed_of {v : V} {u : Value} (r : RelV v u) : PySem.W.handedIn u = true := by
  cases v with
  | non => cases (show u = Value.none from r); rfl
  | bl b => cases (show u = Value.bool b from r); rfl
  | int i => obtain ⟨t, e⟩ := (show ∃ t, u = Value.int i t from r); cases e; rfl
  | str x => obtain ⟨t, e⟩ := (show ∃ t, u = Value.str x t from r); cases e; rfl
  | byt b => obtain ⟨t, e⟩ := (show ∃ t, u = Value.bytes b t from r); cases e; rfl
  | flt b => obtain ⟨t, e⟩ := (show ∃ t, u = Value.float b t from r); cases e; rfl
  | ref a => cases (show u = Value.ref a from r); rfl
  | ty n => cases (show u = Value.type n from r); rfl

section
variable {P : Program} {w : World} {H H' : Hp} {h h' : Heap} {a C dx : Addr} {fs fs' : List (Str × V)}
theorem ins_get (hok : HOk P w H h) (e : H a = some (.ins C dx fs)) : ∃ mA, ObjM h a dx C mA ∧ (∀ f, RelO (fs.lookup f) (mA f)) ∧ PySem.Within mA (fs.map (·.1)) ∧ fs.length ≤ 1000 ∧ H dx = some (.own a) := by
  obtain ⟨d, z, ne, ob, mA, n, r, q⟩ := (show ObjOk P w H h a (.ins C dx fs) from hok a _ e)
  exact ⟨mA, ⟨ob, n, ne⟩, r, q, z, d⟩
end

/-! ### what of the text a class must have -/
structure Cls (K : PySem.W.Frag) (C : Addr) : Prop where
  pg : PySem.W.plainGet K C Str.empty = true
  hd : PySem.W.hasDictIn K C = true
  po : PySem.W.plainOver K C = true
  sa : PySem.W.findIn K (.ref C) "__setattr__" = some (some (.builtin "object.__setattr__"))
theorem Cls.get {K : PySem.W.Frag} {C : Addr} (c : Cls K C) (f : Str) : PySem.W.plainGet K C f = true := c.pg
/-- no class of it has the name -/
noncomputable def NoAttr (K : PySem.W.Frag) (C : Addr) (f : Str) : Prop := PySem.W.findIn K (.ref C) f = some none
theorem NoAttr.taker {K : PySem.W.Frag} {C : Addr} {f : Str} (n : NoAttr K C f) : PySem.W.takerIn K C f = some none := by
  unfold PySem.W.takerIn
  rw [show PySem.W.findIn K (.ref C) f = some none from n]
  rfl
/-- a method: a plain def of the class or of one above it -/
structure Meth (K : PySem.W.Frag) (C : Addr) (m : Str) (f : Addr) : Prop where
  at_ : PySem.W.findIn K (.ref C) m = some (some (.ref f))
  fn : PySem.W.isFn K (.ref f) = true
  kp : PySem.W.keepIn K (.ref f) = true

section
variable {X : Cx} {pins : List (Addr × Obj)} {σ : St} {H : Hp} {s : Shared} {a C dx : Addr} {fs : List (Str × V)} {f : Str} {v : V} {A : Around} {E : Value → Shared → Prop}

theorem getattr_ok {b : Bool} {Q : Value → Shared → Prop} (I : Inv X pins σ H s) (e : H a = some (.ins C dx fs)) (c : Cls X.K C) (n : NoAttr X.K C f) (l : fs.lookup f = some v)
    (h : ∀ u s', Inv X pins σ H s' → RelV v u → Q u s') : wpAny (model X.prog X.w) A (getAttr (.ref a) f b) Q E s := by
  obtain ⟨mA, O, r, _, _, _⟩ := ins_get I.hok e
  obtain ⟨u, hu, ru⟩ := RelO.some_of (v := v) (o := mA f) (by rw [← l]; exact r f)
  exact get_map I.kIn O (c.get f) c.hd n hu (handed_of ru) (h u _ (I.tok _) ru)

theorem getmeth_ok {m : Str} {g : Addr} {pl : Sem Bool} {Q : Value × List Value → Shared → Prop} (I : Inv X pins σ H s) (e : H a = some (.ins C dx fs)) (c : Cls X.K C) (k : Meth X.K C m g) (l : fs.lookup m = none)
    (h : Q (.ref g, [.ref a]) s) : wpAny (model X.prog X.w) A (getMethod (.ref a) m pl) Q E s := by
  obtain ⟨mA, O, r, _, _, _⟩ := ins_get I.hok e
  have hn : mA m = none := RelO.none_of (by rw [← l]; exact r m)
  exact get_meth I.kIn O (c.get m) k.at_ k.fn hn h

theorem setattr_ok {y : V} {u : Value} {Q : Unit → Shared → Prop} (I : Inv X pins σ H s) (e : H a = some (.ins C dx fs)) (c : Cls X.K C) (n : NoAttr X.K C f) (hl : fs.length < 1000) (ry : RelV y u)
    (h : ∀ s', Inv X pins σ (upd H a (.ins C dx (putF f y fs))) s' → Q () s') : wpAny (model X.prog X.w) A (setAttr (.ref a) f u) Q E s := by
  obtain ⟨mA, O, r, wi, _, ho⟩ := ins_get I.hok e
  have hz : (fs.map (·.1)).length ≤ sizeLine := by rw [List.length_map, sizeLine_eq]; omega
  refine set_map I.kIn O c.sa c.po n.taker c.hd wi hz fun h' O' sb => h _ ?_
  have hd : ∃ o, h'.get? dx = some o := let ⟨o, _, _, e', _⟩ := O'.ns; ⟨o, e'⟩
  refine I.write (x := a) (e := dx) (by rw [e]; exact True.intro) (.inr ho) (fun b q hb z => (sb.2 b hb).trans z) hd ?_
  refine ⟨by rw [upd_ne O.ne]; exact ho, ?_, O.ne, O'.obj, _, O'.ns, fun g => ?_, fun g hg => ?_⟩
  · have := length_putF f y fs; omega
  · show RelO ((putF f y fs).lookup g) (if g = f then some u else mA g)
    rw [lookup_putF]
    by_cases q : g = f
    · rw [if_pos q, if_pos q]; exact ry
    · rw [if_neg q, if_neg q]; exact r g
  · by_cases q : g = f
    · rw [q]; exact (keys_putF f y fs).1
    · refine (keys_putF f y fs).2 g (wi g fun z => hg ?_)
      show (if g = f then some u else mA g) = none
      rw [if_neg q]; exact z

/-- a new instance, tracked, without attributes -/
theorem Inv.made (I : Inv X pins σ H s) : Inv X pins σ (upd (upd H s.heap.objs.size (.own (s.heap.objs.size + 1))) (s.heap.objs.size + 1) (.ins C s.heap.objs.size []))
    { s with heap := (s.heap.push PySem.W.emptyDict).push (PySem.W.instObj C s.heap.objs.size) } := by
  have e1 : (s.heap.push PySem.W.emptyDict).get? s.heap.objs.size = some PySem.W.emptyDict := Heap.get?_push_size s.heap rfl
  have e2 : ((s.heap.push PySem.W.emptyDict).push (PySem.W.instObj C s.heap.objs.size)).get? (s.heap.objs.size + 1) = some (PySem.W.instObj C s.heap.objs.size) := by
    have := Heap.get?_push_size (s.heap.push PySem.W.emptyDict) (o := PySem.W.instObj C s.heap.objs.size) rfl
    rwa [Heap.size_push] at this
  have e3 : (s.heap.push PySem.W.emptyDict).Ns s.heap.objs.size (fun _ => none) := ⟨PySem.W.emptyDict, #[], _, e1, rfl, (fun e he => absurd he (by simp)), fun _ => rfl⟩
  have I1 := I.laid (a := s.heap.objs.size) (o := .own (s.heap.objs.size + 1)) (h' := s.heap.push PySem.W.emptyDict) (t' := s.toks) (fun b u q => Heap.get?_push_of_some _ q) (Nat.le_refl _) ⟨_, e1⟩
  refine I1.laid (a := s.heap.objs.size + 1) (o := .ins C s.heap.objs.size []) (t' := s.toks) (fun b u q => Heap.get?_push_of_some _ q) (Nat.le_of_eq (Heap.size_push _ _)) ?_
  have ne : s.heap.objs.size ≠ s.heap.objs.size + 1 := Nat.ne_of_lt (Nat.lt_succ_self _)
  refine ⟨by rw [upd_ne ne, upd_same], Nat.zero_le _, ne, e2, fun _ => none, (Heap.Ns1.of_empty e3).at fun o q => Heap.get?_push_of_some _ q, fun _ => True.intro, fun y hy => absurd rfl hy⟩

/-- e.f where nothing but the object is asked: through attributeBase (super) and the last hold -/
theorem attr_of {prog : Program} {w : World} {env : Env} {e : Expr} {f : Str} {pos : Pos} {s : Shared} {Q : Value → Shared → Prop} (hb : attributeBase e f env (eval e env) = eval e env)
    (h : wpAny (model prog w) A (eval e env) (fun o s₁ => wpAny (model prog w) A (getAttr o f true) Q E s₁) E s) : wpAny (model prog w) A (eval (.Attribute e f pos) env) Q E s :=
  Attribute_any_ h (by rw [arm_eval_Attribute, hb])
end

/-! ### readings and rules -/
/-- e.f, an attribute of the instance -/
noncomputable def tFld (K : PySem.W.Frag) (ta : TE) (f : Str) : TE := fun σ H Q => ta σ H fun x H1 => ∃ a C dx fs v, x = .ref a ∧ H1 a = some (.ins C dx fs) ∧ Cls K C ∧ NoAttr K C f ∧ fs.lookup f = some v ∧ Q v H1
/-- e.f = value -/
noncomputable def sFld (K : PySem.W.Frag) (ta tv : TE) (f : Str) : TS := fun D σ H => tv σ H fun y H1 => ta σ H1 fun x H2 => ∃ a C dx fs, x = .ref a ∧ H2 a = some (.ins C dx fs) ∧ Cls K C ∧ NoAttr K C f ∧ fs.length < 1000 ∧
  D.nx σ (upd H2 a (.ins C dx (putF f y fs)))
section
variable {X : Cx} {o e value : Expr} {f : Str} {pos pos' tpos : Pos} {ta tv : TE}
theorem pe_fld (he : PE X e ta) (hb : attributeBase e f X.env (eval e X.env) = eval e X.env) : PE X (.Attribute e f pos) (tFld X.K ta f) := by
  intro pins s σ H Q I h
  refine attr_of hb (thn (he pins s σ H _ I h) fun u s1 ⟨x, H1, I1, rx, a, C, dx, fs, v, ex, ea, c, n, l, q⟩ => ?_)
  subst ex
  obtain rfl : u = Value.ref a := rx
  exact getattr_ok I1 ea c n l fun u' s2 I2 ru => ⟨v, H1, I2, ru, q⟩
theorem ps_fld (ha : PE X o ta) (hv : PE X value tv) (hs : swapsWith value (some (.Attribute o f pos')) pos.line X.env = pure false) : PS X (.Assign [.Attribute o f pos'] value pos) (sFld X.K ta tv f) := by
  intro pins s σ H D I h
  refine plainObj_wpAny_Assign_Attribute (thn (hv pins s σ H _ I h) fun u s1 ⟨y, H1, I1, ry, q⟩ => thn (ha pins s1 σ H1 _ I1 q) fun ov s2 ⟨x, H2, I2, rx, a, C, dx, fs, ex, ea, c, n, l, q2⟩ => ?_) hs
  subst ex
  obtain rfl : ov = Value.ref a := rx
  exact setattr_ok I2 ea c n l ry fun s3 I3 => ⟨σ, _, I3, q2⟩
end

/-! ### isinstance -/
section
variable {X : Cx} {pins : List (Addr × Obj)} {σ : St} {H : Hp} {s : Shared} {A : Around} {E : Value → Shared → Prop} {Q : Value → Shared → Prop} {c : Value} {b : Bool}
/-- the type of a value, as the fragment's deciders take it; for an instance its class -/
inductive TyOf (K : PySem.W.Frag) (H : Hp) : V → Value → Prop where
  | non : TyOf K H .non (.type "NoneType")
  | bl (x : Bool) : TyOf K H (.bl x) (.type "bool")
  | int (i : Int) : TyOf K H (.int i) (.type "int")
  | str (x : Str) : TyOf K H (.str x) (.type "str")
  | flt (x : UInt64) : TyOf K H (.flt x) (.type "float")
  | lst {a : Addr} {xs : List V} (e : H a = some (.lst xs)) : TyOf K H (.ref a) (.type "list")
  | frz {a : Addr} {o : Obj} {xs : List V} (e : H a = some (.frz o (.lst xs))) : TyOf K H (.ref a) (.type "list")
  | tup {a : Addr} {xs : List V} (e : H a = some (.tup xs)) : TyOf K H (.ref a) (.type "tuple")
  | dK {a : Addr} {kvs : List (Key × V)} (e : H a = some (.dK kvs)) : TyOf K H (.ref a) (.type "dict")
  | dT {a : Addr} {kvs : List (List Key × V)} (e : H a = some (.dT kvs)) : TyOf K H (.ref a) (.type "dict")
  | ins {a C dx : Addr} {fs : List (Str × V)} (e : H a = some (.ins C dx fs)) (cl : Cls K C) (ha : PySem.W.findIn K (.ref C) "__class__" = some (some (.builtin "object.__class__")))
      (hn : PySem.W.specialIn K (.builtin "object.__class__") "__get__" = some (some (.builtin "getset_descriptor.__get__"))) (htk : PySem.W.takesIn K (.builtin "object.__class__") = some true)
      (hm : PySem.W.mroIn K C (.type "object") = some true) : TyOf K H (.ref a) (.ref C)
/-- isinstance(x, c) for one class c, a built-in or an own one: kitOne's answer -/
theorem isinst_ok {x : V} {u t : Value} (I : Inv X pins σ H s) (rx : RelV x u) (ty : TyOf X.K H x t) (e : PySem.W.kitOne X.K t c = some b) (h : ∀ tk, Q (.bool b) { s with toks := tk }) :
    wpAny (model X.prog X.w) A (call (.builtin "isinstance") [u, c]) Q E s := by
  cases ty with
  | non => cases (show u = Value.none from rx); exact PySem.W.kia_one PySem.W.kitx_none I.kIn True.intro e (fun z => nomatch z) h
  | bl y => cases (show u = Value.bool y from rx); exact PySem.W.kia_one PySem.W.kitx_bool I.kIn True.intro e (fun z => nomatch z) h
  | int i => obtain ⟨t, q⟩ := (show ∃ t, u = Value.int i t from rx); cases q; exact PySem.W.kia_one PySem.W.kitx_int I.kIn True.intro e (fun z => nomatch z) h
  | str y => obtain ⟨t, q⟩ := (show ∃ t, u = Value.str y t from rx); cases q; exact PySem.W.kia_one PySem.W.kitx_str I.kIn True.intro e (fun z => nomatch z) h
  | flt y => obtain ⟨t, q⟩ := (show ∃ t, u = Value.float y t from rx); cases q; exact PySem.W.kia_one PySem.W.kitx_float I.kIn True.intro e (fun z => nomatch z) h
  | @lst a xs ea =>
    cases (show u = Value.ref a from rx)
    obtain ⟨_, _, n, _, h1⟩ := (show ObjOk X.prog X.w H s.heap a (.lst xs) from I.hok a _ ea)
    exact PySem.W.kia_one PySem.W.kitx_list I.kIn ⟨_, h1, rfl⟩ e (fun z => nomatch z) h
  | @frz a ob xs ea =>
    cases (show u = Value.ref a from rx)
    obtain ⟨_, _, _, n, _, h1⟩ := (show ObjOk X.prog X.w H s.heap a (.frz ob (.lst xs)) from I.hok a _ ea)
    exact PySem.W.kia_one PySem.W.kitx_list I.kIn ⟨_, h1, rfl⟩ e (fun z => nomatch z) h
  | @tup a xs ea =>
    cases (show u = Value.ref a from rx)
    obtain ⟨_, _, _, p⟩ := (show ObjOk X.prog X.w H s.heap a (.tup xs) from I.hok a _ ea)
    obtain ⟨o, h1, h2, _⟩ := p
    exact PySem.W.kia_one PySem.W.kitx_tuple I.kIn ⟨o, h1, h2⟩ e (fun z => nomatch z) h
  | @dK a kvs ea =>
    cases (show u = Value.ref a from rx)
    obtain ⟨_, _, vs, _, p⟩ := (show ObjOk X.prog X.w H s.heap a (.dK kvs) from I.hok a _ ea)
    obtain ⟨o, es, ep, h1, h2, _⟩ := p
    exact PySem.W.kia_one PySem.W.kitx_dict I.kIn ⟨o, h1, h2.1⟩ e (fun z => nomatch z) h
  | @dT a kvs ea =>
    cases (show u = Value.ref a from rx)
    obtain ⟨_, _, xs, _, o, es, ep, h1, h2, _⟩ := (show ObjOk X.prog X.w H s.heap a (.dT kvs) from I.hok a _ ea)
    exact PySem.W.kia_one PySem.W.kitx_dict I.kIn ⟨o, h1, h2.1⟩ e (fun z => nomatch z) h
  | @ins a C dx fs ea cl ha hn htk hm =>
    cases (show u = Value.ref a from rx)
    obtain ⟨mA, O, _⟩ := ins_get I.hok ea
    obtain ⟨od, J, _⟩ := O.look
    exact PySem.W.kia_one (PySem.W.kitx_own (cl.get _) cl.hd ha hn htk hm) I.kIn J e (fun z => nomatch z) h
end
end L2

namespace L2
open PySem PySem.Spec PyProof.Rows

/-! ### room -/
structure Room (k : Nat) (A : Around) : Prop where
  hd : A.handled = none
  dp : A.depth + 3 * k + 5 < recursionLimit
  un : A.units + 16 * k + 200 < cLine
theorem Room.mono {j k : Nat} {A : Around} (r : Room k A) (h : j ≤ k) : Room j A := ⟨r.hd, by have := r.dp; omega, by have := r.un; omega⟩
theorem Room.deeper {k : Nat} {A : Around} (r : Room (k + 1) A) (env : Env) : Room k (A.deeper env) :=
  ⟨r.hd, by have := r.dp; show A.depth + 1 + 3 * k + 5 < _; omega, by have := r.un; show A.units + 3 + 16 * k + 200 < _; omega⟩
theorem make_depth {A : Around} {C : Addr} {us : List Value} {kw : List (Str × Value)} : (A.under (.builtin "type.__call__" ⟨.ref C :: us, kw⟩)).depth = A.depth + 1 := by
  first | rfl | simp [Around.under, Code.weight, Code.isCreation, Code.isGuard, Code.isCaller, Code.frames, Code.isFrame, guardIds]
theorem make_units {A : Around} {C : Addr} {us : List Value} {kw : List (Str × Value)} : (A.under (.builtin "type.__call__" ⟨.ref C :: us, kw⟩)).units = A.units + 1 := by
  first | rfl | simp [Around.under, Code.cUnits, Code.frames, Code.isFrame]
theorem Room.make {k : Nat} {A : Around} (r : Room (k + 1) A) (C : Addr) (us : List Value) (kw : List (Str × Value)) : Room k (A.under (.builtin "type.__call__" ⟨.ref C :: us, kw⟩)) :=
  ⟨r.hd, by have := r.dp; rw [make_depth]; omega, by have := r.un; rw [make_units]; omega⟩
theorem Room.depth {k : Nat} {A : Around} (r : Room k A) : A.depth < recursionLimit := by have := r.dp; omega
theorem Room.units {k : Nat} {A : Around} (r : Room k A) : A.units + 64 < cLine := by have := r.un; omega
/-! ### argument lists and displays -/
noncomputable def tNil : TA := fun _ H Q => Q [] H
noncomputable def tCons (ta : TE) (tr : TA) : TA := fun σ H Q => ta σ H fun x H1 => tr σ H1 fun xs H2 => Q (x :: xs) H2
section
variable {X : Cx} {e : Expr} {es : List Expr} {te : TE} {t : TA} {pos : Pos}
theorem pa_nil : PA X [] tNil := fun _ _ _ _ H Q I h => Calls.spliced_nil ⟨[], H, I, .nil, h⟩
theorem pa_cons (ha : PE X e te) (hr : PA X es t) (hs : starEach (e :: es) X.env = (false, eval e X.env) :: starEach es X.env := by rfl) : PA X (e :: es) (tCons te t) := by
  intro pos pins s σ H Q I h
  rw [hs]
  show wpAny _ _ (spliced ((false, eval e X.env) :: backTo pos (starEach es X.env))) _ _ s
  refine Calls.spliced_cons (thn (ha pins s σ H _ I h) fun u s1 ⟨x, H1, I1, r1, q1⟩ => ?_)
  exact thn (hr pos pins s1 σ H1 _ I1 q1) fun us s2 ⟨xs, H2, I2, r2, q2⟩ => ⟨x :: xs, H2, I2, .cons r1 r2, q2⟩

/-- a tuple, a list of written items -/
noncomputable def tTup (t : TA) : TE := fun σ H Q => t σ H fun xs H1 => xs.length ≤ sizeLine ∧ ∀ p, H1 p = none → Q (.ref p) (upd H1 p (.tup xs))
noncomputable def tLst (t : TA) : TE := fun σ H Q => t σ H fun xs H1 => xs.length ≤ sizeLine ∧ ∀ p, H1 p = none → Q (.ref p) (upd H1 p (.lst xs))
theorem pe_tup {x1} (h : PA X es t) : PE X (.Tuple es x1 pos) (tTup t) := by
  intro pins s σ H Q I hq
  refine wpAny_Tuple_spliced (thn (h pos pins s σ H _ I hq) fun us s1 ⟨xs, H1, I1, r, z, q⟩ => ⟨by rw [← r.length]; exact z, ?_⟩)
  have hf : H1 s1.heap.objs.size = none := I1.hok.fresh (Nat.le_refl _)
  refine ⟨.ref s1.heap.objs.size, upd H1 s1.heap.objs.size (.tup xs), I1.laid (t' := s1.toks) (fun b u e => Heap.get?_push_of_some _ e) (Nat.le_refl _) ?_, rfl, q _ hf⟩
  exact ⟨z, us, r, ⟨_, Heap.get?_push_size _ rfl, rfl, _, rfl⟩⟩
theorem pe_lst (h : PA X es t) : PE X (.List es pos) (tLst t) := by
  intro pins s σ H Q I hq
  refine wpAny_List_spliced (thn (h pos pins s σ H _ I hq) fun us s1 ⟨xs, H1, I1, r, z, q⟩ => ⟨by rw [← r.length]; exact z, ?_⟩)
  have hf : H1 s1.heap.objs.size = none := I1.hok.fresh (Nat.le_refl _)
  refine ⟨.ref s1.heap.objs.size, upd H1 s1.heap.objs.size (.lst xs), I1.laid (t' := s1.toks) (fun b u e => Heap.get?_push_of_some _ e) (Nat.le_refl _) ?_, rfl, q _ hf⟩
  exact ⟨z, us, 0, r, Heap.get?_push_size _ rfl⟩
end

/-! ### what a def promises -/
/-- a def's promise: the bound arguments in the parameters' order, the heap, the wanted end, the wanted exception -/
noncomputable abbrev Sp := List V → Hp → VK → XK → Prop
/-- how an exception lies behind a call (file 08 gives it): the callers' frames, abstract heap and state ahead of the call, the wish, the exception, the state -/
noncomputable abbrev CXT := List Env → Hp → Shared → XK → Value → Shared → Prop

/-- the state at a call -/
structure Env0 (P : Program) (w : World) (K : PySem.W.Frag) (mg : Str → Option Value) (base : Heap) (A : Around) (outer : List Env) (s : Shared) (H : Hp) : Prop where
  frames : A.frames = some outer
  mod : Mod K mg base
  bs : ∀ b o, base.get? b = some o → s.heap.get? b = some o ∧ H b = none
  bsz : base.objs.size ≤ s.heap.objs.size
  funs : s.heap.FunFrames base outer
  frf : ∀ b ∈ frs outer, H b = none
  hok : HOk P w H s.heap
  bare : AllBare s.gens
/-- a call's end -/
noncomputable def CE (outer : List Env) (P : Program) (w : World) (H : Hp) (s : Shared) (Q : VK) (u : Value) (s' : Shared) : Prop :=
  ∃ v H', s'.os = s.os ∧ AllBare s'.gens ∧ Un (frs outer) [] H H' s.heap s'.heap ∧ HOk P w H' s'.heap ∧ RelV v u ∧ Q v H'
noncomputable def CR (CX : CXT) (outer : List Env) (P : Program) (w : World) (H : Hp) (s : Shared) (Q : VK) (E : XK) (r : Result) (s' : Shared) : Prop :=
  match r with
  | .ok (.ret u) => CE outer P w H s Q u s'
  | .ok _ => False
  | .error e => CX outer H s E e s'
structure FnOk (P : Program) (w : World) (K : PySem.W.Frag) (mg : Str → Option Value) (base : Heap) (CX : CXT) (k : Nat) (f : Addr) (fd : FuncData) (ps : List Str) (sp : Sp) : Prop where
  len : ∀ vs H Q E, sp vs H Q E → vs.length = ps.length
  run : ∀ (A : Around) (outer : List Env) (s : Shared) (H : Hp) (args : Args) (us : List Value) (vs : List V) (Q : VK) (E : XK), Room k A → Env0 P w K mg base A outer s H → BindsTo s fd args (ps.zip us) → Vals vs us → sp vs H Q E →
    codeAny (model P w) A (.call (.ref f) args) (CR CX outer P w H s Q E) s
theorem FnOk.mono {P : Program} {w : World} {K : PySem.W.Frag} {mg : Str → Option Value} {base : Heap} {CX : CXT} {j k : Nat} {f : Addr} {fd : FuncData} {ps : List Str} {sp : Sp} (F : FnOk P w K mg base CX j f fd ps sp) (h : j ≤ k) :
    FnOk P w K mg base CX k f fd ps sp := ⟨F.len, fun A outer s H args us vs Q E hr => F.run A outer s H args us vs Q E (hr.mono h)⟩
/-- a weaker promise -/
theorem FnOk.imp {P : Program} {w : World} {K : PySem.W.Frag} {mg : Str → Option Value} {base : Heap} {CX : CXT} {k : Nat} {f : Addr} {fd : FuncData} {ps : List Str} {sp sp' : Sp} (F : FnOk P w K mg base CX k f fd ps sp)
    (h : ∀ vs H Q E, sp' vs H Q E → sp vs H Q E) : FnOk P w K mg base CX k f fd ps sp' :=
  ⟨fun vs H Q E q => F.len vs H Q E (h _ _ _ _ q), fun A outer s H args us vs Q E hr he hb hv hs => F.run A outer s H args us vs Q E hr he hb hv (h _ _ _ _ hs)⟩

theorem Env0.make {P : Program} {w : World} {K : PySem.W.Frag} {mg : Str → Option Value} {base : Heap} {A : Around} {outer : List Env} {s : Shared} {H : Hp} (e : Env0 P w K mg base A outer s H) (C : Addr) (us : List Value) (kw : List (Str × Value)) :
    Env0 P w K mg base (A.under (.builtin "type.__call__" ⟨.ref C :: us, kw⟩)) outer s H := ⟨by first | exact e.frames | (simpa [Around.under, Code.envs, Code.isFrame, pushEnvs] using e.frames), e.mod, e.bs, e.bsz, e.funs, e.frf, e.hok, e.bare⟩
section
variable {X : Cx} {pins : List (Addr × Obj)} {σ : St} {H : Hp} {s s' : Shared}
/-- from a body: what a callee wants -/
theorem Inv.env0 (I : Inv X pins σ H s) : Env0 X.prog X.w X.K X.mg X.base X.A X.stack s H :=
  ⟨I.ok.frames, I.ok.mod, I.bs, Nat.le_trans I.ok.bsz I.sz, I.stack, I.stkFree, I.hok, I.bare⟩
/-- behind a call -/
theorem Inv.after {Q : VK} {u : Value} (I : Inv X pins σ H s) (h : CE X.stack X.prog X.w H s Q u s') : EP X pins σ Q u s' := by
  obtain ⟨v, H', os, bare, un, hok, r, q⟩ := h
  obtain ⟨hh, g, d, t, os'⟩ := s'
  obtain rfl : os' = s.os := os
  exact ⟨v, H', I.call (h' := hh) (g' := g) (d' := d) (t' := t) (ch := []) un hok bare (fun b z => absurd z (by simp)), r, q⟩
end

/-! ### calls -/
/-- f(..): the written arguments, then the defaults dvs; E: what is wanted of an exception -/
noncomputable def tCall (sp : Sp) (dvs : List V) (E : XK) (t : TA) : TE := fun σ H Q => t σ H fun vs H1 => sp (vs ++ dvs) H1 Q E
/-- o.m(..) of an instance of the class at C -/
noncomputable def tMeth (C : Addr) (m : Str) (sp : Sp) (dvs : List V) (E : XK) (ta : TE) (t : TA) : TE := fun σ H Q => ta σ H fun x H1 => ∃ a dx fs, x = .ref a ∧ H1 a = some (.ins C dx fs) ∧ fs.lookup m = none ∧
  t σ H1 fun vs H2 => sp (x :: (vs ++ dvs)) H2 Q E
/-- C(..): a new instance and its dict, then __init__ -/
noncomputable def tMake (C : Addr) (sp : Sp) (dvs : List V) (E : XK) (t : TA) : TE := fun σ H Q => t σ H fun vs H1 => ∀ x dx, H1 x = none → H1 dx = none → dx ≠ x →
  sp (.ref x :: (vs ++ dvs)) (upd (upd H1 dx (.own x)) x (.ins C dx [])) (fun v H2 => v = .non ∧ Q (.ref x) H2) E

/-- how the parameters are bound: us the positional arguments, kw the keywords' values by name, ds the defaults that fill up -/
noncomputable def Binds (K : PySem.W.Frag) (fd : FuncData) (ps : List Str) (ds : List Value) : Prop :=
  ∀ (s : Shared) (us : List Value), K.In s.heap → (us ++ ds).length = ps.length → BindsTo s fd ⟨us, []⟩ (ps.zip (us ++ ds))
/-- every parameter is given -/
theorem Binds.all {K : PySem.W.Frag} {fd : FuncData} {ps : List Str} (h : ∀ us : List Value, us.length = ps.length → bindArgs fd ⟨us, []⟩ = pure (ps.zip us)) : Binds K fd ps [] := fun s us _ hl => by
  rw [List.append_nil] at hl ⊢
  exact .of_eq (h us hl)

/-- an exception of a callee reaches what this body wants of exceptions -/
noncomputable def Passes (CX : CXT) (X : Cx) (E : XK) : Prop := ∀ (pins : List (Addr × Obj)) (σ : St) (H : Hp) (s : Shared) (e : Value) (s' : Shared), Inv X pins σ H s → CX X.stack H s E e s' → X.xe e s'

section
variable {X : Cx} {CX : CXT} {k : Nat} {f C : Addr} {fd : FuncData} {ps : List Str} {sp : Sp} {dvs : List V} {ds : List Value} {E : XK} {x m : Str} {p pos apos : Pos} {e o : Expr} {es : List Expr} {ta : TE} {t : TA}

/-- the callee runs -/
theorem run_fn {pins : List (Addr × Obj)} {σ : St} {H : Hp} {s : Shared} {Q : VK} {us : List Value} {vs : List V} (F : FnOk X.prog X.w X.K X.mg X.base CX k f fd ps sp) (hr : Room k X.A) (hb : Binds X.K fd ps ds) (hd : Vals dvs ds) (hx : Passes CX X E)
    (I : Inv X pins σ H s) (r : Vals vs us) (h : sp (vs ++ dvs) H Q E) : wpAny (model X.prog X.w) X.A (call (.ref f) us) (EP X pins σ Q) X.xe s := by
  have r2 : Vals (vs ++ dvs) (us ++ ds) := r.append hd
  have hl : (us ++ ds).length = ps.length := by rw [← r2.length]; exact F.len _ _ _ _ h
  refine wpAny_call (codeAny_mono (F.run X.A X.stack s H ⟨us, []⟩ (us ++ ds) (vs ++ dvs) Q E hr I.env0 (hb s us I.kIn hl) r2 h) fun r s' hq => ?_)
  cases r with
  | error e => exact hx pins σ H s e s' I hq
  | ok fl =>
    cases fl with
    | ret u => exact I.after hq
    | next => exact False.elim hq
    | brk => exact False.elim hq
    | cont => exact False.elim hq

theorem pe_call (F : FnOk X.prog X.w X.K X.mg X.base CX k f fd ps sp) (hr : Room k X.A) (hg : Gl X x) (hm : X.mg x = some (.ref f)) (hk : PySem.W.keepIn X.K (.ref f) = true) (hb : Binds X.K fd ps ds) (hd : Vals dvs ds) (hx : Passes CX X E)
    (ha : PA X (e :: es) t) (hdb : (x == ("__debug__" : Str)) = false := by decide) (he : starEach (e :: es) X.env = (false, eval e X.env) :: starEach es X.env := by rfl) (hpl : (backTo pos (starEach es X.env)).any (·.1) = false := by rfl) :
    PE X (.Call (.Name x p) (e :: es) [] pos) (tCall sp dvs E t) := by
  intro pins s σ H Q I h
  refine wpAny_Call_Name_kw (ld_glob I hg hm ?_ hdb)
  refine PySem.W.callWith_K (h₀ := X.base) I.ok.mod.kin hk (thn (ha pos pins s σ H _ I h) fun us s1 ⟨vs, H1, I1, r, q⟩ => ⟨I1.kIn, ?_⟩) he hpl
  exact run_fn F hr hb hd hx I1 r q
/-- o.m(e, ..) -/
theorem pe_meth {pl : Sem Bool} (he : PE X o ta) (c : Cls X.K C) (hm : Meth X.K C m f) (F : FnOk X.prog X.w X.K X.mg X.base CX k f fd ps sp) (hr : Room k X.A) (hb : Binds X.K fd ps ds) (hd : Vals dvs ds) (hx : Passes CX X E) (ha : PA X (e :: es) t)
    (hst : starEach (e :: es) X.env = (false, eval e X.env) :: starEach es X.env := by rfl) (hpl : (backTo pos (starEach es X.env)).any (·.1) = false := by rfl)
    (ht : eval (.Call (.Attribute o m apos) (e :: es) [] pos) X.env = (do
      let ov ← eval o X.env
      standAt apos.atName
      let (f, first) ← holding [ov] (getMethod ov m pl)
      callWith pos f first (backTo pos (starEach (e :: es) X.env)) (backToKw pos (keywordEach [] X.env))) := by rfl) :
    PE X (.Call (.Attribute o m apos) (e :: es) [] pos) (tMeth C m sp dvs E ta t) := by
  intro pins s σ H Q I h
  refine PySem.W.methodCall_KW (pl := pl) (thn (he pins s σ H _ I h) fun u s1 ⟨x, H1, I1, rx, a, dx, fs, ex, ea, l, q⟩ => ?_) ht
  subst ex
  obtain rfl : u = Value.ref a := rx
  refine getmeth_ok I1 ea c hm l ?_
  refine PySem.W.callWith_K (first := [.ref a]) (h₀ := X.base) I.ok.mod.kin hm.kp (thn (ha pos pins s1 σ H1 _ I1 q) fun us s2 ⟨vs, H2, I2, r, q2⟩ => ⟨I2.kIn, ?_⟩) hst hpl
  exact run_fn (us := .ref a :: us) (vs := .ref a :: vs) F hr hb hd hx I2 (.cons rfl r) q2
/-- what a class must have to be made -/
structure Mk (K : PySem.W.Frag) (C f : Addr) : Prop where
  makes : PySem.W.makesIn K C = true
  init : PySem.W.findIn K (.ref C) "__init__" = some (some (.ref f))
  fn : PySem.W.isFn K (.ref f) = true
  kp : PySem.W.keepIn K (.ref C) = true

theorem run_make {pins : List (Addr × Obj)} {σ : St} {H : Hp} {s : Shared} {Q : VK} {us : List Value} {vs : List V} (M : Mk X.K C f) (F : FnOk X.prog X.w X.K X.mg X.base CX k f fd ps sp) (hr : Room (k + 1) X.A) (hb : Binds X.K fd ps ds) (hd : Vals dvs ds)
    (hx : Passes CX X E) (I : Inv X pins σ H s) (r : Vals vs us)
    (h : ∀ x dx, H x = none → H dx = none → dx ≠ x → sp (.ref x :: (vs ++ dvs)) (upd (upd H dx (.own x)) x (.ins C dx [])) (fun v H2 => v = .non ∧ Q (.ref x) H2) E) :
    wpAny (model X.prog X.w) X.A (call (.ref C) us) (EP X pins σ Q) X.xe s := by
  have hq := h (s.heap.objs.size + 1) s.heap.objs.size (I.hok.fresh (Nat.le_succ _)) (I.hok.fresh (Nat.le_refl _)) (Nat.ne_of_lt (Nat.lt_succ_self _))
  have I2 := Inv.made (C := C) I
  have r2 : Vals (V.ref (s.heap.objs.size + 1) :: (vs ++ dvs)) (Value.ref (s.heap.objs.size + 1) :: (us ++ ds)) := .cons rfl (r.append hd)
  have hl : (Value.ref (s.heap.objs.size + 1) :: us ++ ds).length = ps.length := by
    have e := r2.length
    rw [F.len _ _ _ _ hq] at e
    exact e.symm
  refine wpAny_call (make_map (f := f) I.kIn M.makes M.init (beq_iff_eq.mp M.fn) (codeAny_mono (F.run _ X.stack _ _ ⟨Value.ref (s.heap.objs.size + 1) :: us, []⟩ (Value.ref (s.heap.objs.size + 1) :: (us ++ ds)) _ _ E (hr.make C us [])
    (I2.env0.make C us []) (hb _ (Value.ref (s.heap.objs.size + 1) :: us) I2.kIn hl) r2 hq) fun r s' hq' => ?_))
  cases r with
  | error e => exact hx pins σ _ _ e s' I2 hq'
  | ok fl =>
    cases fl with
    | ret u =>
      obtain ⟨v, H', I3, rv, ev, q3⟩ := I2.after hq'
      subst ev
      exact ⟨rv, ⟨V.ref (s.heap.objs.size + 1), H', I3, rfl, q3⟩⟩
    | next => exact False.elim hq'
    | brk => exact False.elim hq'
    | cont => exact False.elim hq'
theorem pe_make (M : Mk X.K C f) (F : FnOk X.prog X.w X.K X.mg X.base CX k f fd ps sp) (hr : Room (k + 1) X.A) (hg : Gl X x) (hm : X.mg x = some (.ref C)) (hb : Binds X.K fd ps ds) (hd : Vals dvs ds) (hx : Passes CX X E)
    (ha : PA X (e :: es) t) (hdb : (x == ("__debug__" : Str)) = false := by decide) (he : starEach (e :: es) X.env = (false, eval e X.env) :: starEach es X.env := by rfl) (hpl : (backTo pos (starEach es X.env)).any (·.1) = false := by rfl) :
    PE X (.Call (.Name x p) (e :: es) [] pos) (tMake C sp dvs E t) := by
  intro pins s σ H Q I h
  refine wpAny_Call_Name_kw (ld_glob I hg hm ?_ hdb)
  refine PySem.W.callWith_K (h₀ := X.base) I.ok.mod.kin M.kp (thn (ha pos pins s σ H _ I h) fun us s1 ⟨vs, H1, I1, r, q⟩ => ⟨I1.kIn, ?_⟩) he hpl
  exact run_make M F hr hb hd hx I1 r q
theorem pe_make0 (M : Mk X.K C f) (F : FnOk X.prog X.w X.K X.mg X.base CX k f fd ps sp) (hr : Room (k + 1) X.A) (hg : Gl X x) (hm : X.mg x = some (.ref C)) (hb : Binds X.K fd ps ds) (hd : Vals dvs ds) (hx : Passes CX X E)
    (hdb : (x == ("__debug__" : Str)) = false := by decide) : PE X (.Call (.Name x p) [] [] pos) (tMake C sp dvs E tNil) := by
  intro pins s σ H Q I h
  refine wpAny_Call_Name_kw (ld_glob I hg hm ?_ hdb)
  exact PySem.W.callWith_K0 I.kIn M.kp (run_make (us := []) M F hr hb hd hx I .nil h)
end

/-! ### keywords -/
section
variable {X : Cx} {CX : CXT} {k : Nat} {f C : Addr} {fd : FuncData} {ps ks : List Str} {sp : Sp} {E : XK} {x m : Str} {p pos apos kpos : Pos} {e o : Expr} {es : List Expr} {kws : List Keyword} {te ta : TE} {t tk : TA} {nm : Option Str}
variable {g : List Value → List Value → List Value} {gV : List V → List V → List V}
end

/-! ### a def's body keeps its promise -/
/-- names: the parameters first -/
structure FnScope (N P : List Str) (sc : Scope) : Prop where
  kind : sc.kind = .function
  co : sc.isCoroutine = false
  gen : sc.isGenerator = false
  nd : N.Nodup
  pre : N.take P.length = P
  par : ∀ x ∈ P, sc.names.lookup x = some .local ∨ sc.names.lookup x = some .cell
  nofree : ∀ y ∈ sc.names, y.2 ≠ .free

theorem bindL_out {kindOf : Str → Option NameKind} {x : Str} : ∀ {binds : List (Str × Value)} {m : Str → Option Value}, (∀ v, (x, v) ∉ binds) → bindL kindOf binds m x = m x
  | [], _, _ => rfl
  | (n, v) :: r, m, h => by
    unfold bindL
    rw [bindL_out fun w hw => h w (List.mem_cons_of_mem _ hw)]
    split
    · have : x ≠ n := by rintro rfl; exact h v List.mem_cons_self
      simp [this]
    · rfl
theorem bindC_out {kindOf : Str → Option NameKind} {x : Str} : ∀ {binds : List (Str × Value)} {m : Str → Option Value}, (∀ v, (x, v) ∉ binds) → bindC kindOf binds m x = m x
  | [], _, _ => rfl
  | (n, v) :: r, m, h => by
    unfold bindC
    rw [bindC_out fun w hw => h w (List.mem_cons_of_mem _ hw)]
    split
    · rfl
    · have : x ≠ n := by rintro rfl; exact h v List.mem_cons_self
      simp [this]
theorem bindL_get {kindOf : Str → Option NameKind} {x : Str} {v : Value} : ∀ {P : List Str} {vs : List Value} {i : Nat} {m : Str → Option Value}, P.Nodup → P[i]? = some x → vs[i]? = some v → kindOf x = some .local →
    bindL kindOf (P.zip vs) m x = some v
  | [], _, _, _, _, h, _, _ => by simp at h
  | _ :: _, [], _, _, _, _, h, _ => by simp at h
  | p :: P, w :: vs, 0, m, nd, h1, h2, hk => by
    simp at h1 h2; subst h1; subst h2
    show bindL kindOf ((p, w) :: P.zip vs) m p = _
    unfold bindL
    rw [bindL_out fun v hv => (List.nodup_cons.mp nd).1 (List.of_mem_zip hv).1, if_pos hk]
    simp
  | p :: P, w :: vs, i + 1, m, nd, h1, h2, hk => by
    show bindL kindOf ((p, w) :: P.zip vs) m x = _
    unfold bindL
    exact bindL_get (i := i) (List.nodup_cons.mp nd).2 (by simpa using h1) (by simpa using h2) hk
theorem bindC_get {kindOf : Str → Option NameKind} {x : Str} {v : Value} : ∀ {P : List Str} {vs : List Value} {i : Nat} {m : Str → Option Value}, P.Nodup → P[i]? = some x → vs[i]? = some v → kindOf x ≠ some .local →
    bindC kindOf (P.zip vs) m x = some v
  | [], _, _, _, _, h, _, _ => by simp at h
  | _ :: _, [], _, _, _, _, h, _ => by simp at h
  | p :: P, w :: vs, 0, m, nd, h1, h2, hk => by
    simp at h1 h2; subst h1; subst h2
    show bindC kindOf ((p, w) :: P.zip vs) m p = _
    unfold bindC
    rw [bindC_out fun v hv => (List.nodup_cons.mp nd).1 (List.of_mem_zip hv).1, if_neg hk]
    simp
  | p :: P, w :: vs, i + 1, m, nd, h1, h2, hk => by
    show bindC kindOf ((p, w) :: P.zip vs) m x = _
    unfold bindC
    exact bindC_get (i := i) (List.nodup_cons.mp nd).2 (by simpa using h1) (by simpa using h2) hk

/-- the names' values at the entry -/
noncomputable def start (N : List Str) (vs : List V) : St := vs.map some ++ List.replicate (N.length - vs.length) none

/-- the context of a def's body, at its entry; an exception leaves the frame, then lies as CX says -/
noncomputable def cxOf (CX : CXT) (P : Program) (w : World) (K : PySem.W.Frag) (mg : Str → Option Value) (base : Heap) (N : List Str) (qual : Str) (scope : Scope) (f : Addr) (cd : Value) (A : Around) (outer : List Env) (s : Shared) (H : Hp) (E : XK) : Cx where
  prog := P
  w := w
  K := K
  mg := mg
  base := base
  A := A.deeper (envOfC qual scope s.heap.objs.size f cd)
  N := N
  s₀ := s
  H₀ := H
  env := envOfC qual scope s.heap.objs.size f cd
  outer := outer
  stack := envOfC qual scope s.heap.objs.size f cd :: outer
  ex := []
  calm := true
  fn := fun _ => true
  pn := []
  xe := fun e s' => wpAny (model P w) (A.deeper (envOfC qual scope s.heap.objs.size f cd)) (leaving (envOfC qual scope s.heap.objs.size f cd) e) (fun _ s'' => CX outer H s E e s'') (fun e' s'' => CX outer H s E e' s'') s'

theorem cell_has {sc : Scope} {n : Nat} {x : Str} (h : sc.names.lookup x = some .cell) : ∃ c, (cellsFrom n sc.names []).lookup x = some c := by
  have q := PySem.W.cellsFrom_some sc.names n [] (.inl h)
  exact Option.isSome_iff_exists.mp q

theorem inv_start {CX : CXT} {P : Program} {w : World} {K : PySem.W.Frag} {mg : Str → Option Value} {base : Heap} {N ps : List Str} {qual : Str} {scope : Scope} {f : Addr} {cd : Value} {A : Around} {outer : List Env} {s s1 : Shared} {H : Hp} {E : XK} {us : List Value} {vs : List V}
    (S : FnScope N ps scope) (hd : A.handled = none) (e0 : Env0 P w K mg base A outer s H) (hl : vs.length = ps.length) (r : Vals vs us)
    (x : InCallC s s.heap.objs.size (bindL (envOfC qual scope s.heap.objs.size f cd).kindOf (ps.zip us) fun _ => none) (cellsFrom (s.heap.objs.size + 1) scope.names []) (bindC (envOfC qual scope s.heap.objs.size f cd).kindOf (ps.zip us) fun _ => none) s1) :
    Inv (cxOf CX P w K mg base N qual scope f cd A outer s H E) [] (start N vs) H s1 := by
  have hpl : ps.length ≤ N.length := by have := congrArg List.length S.pre; rw [List.length_take] at this; omega
  obtain ⟨h1, tk, rfl, hk⟩ := x.done
  have noA : ∀ b : Addr, b ∉ (cxOf CX P w K mg base N qual scope f cd A outer s H E).ex := fun b z => absurd (show b ∈ ([] : List Addr) from z) (by simp)
  refine ⟨⟨e0.mod, S.kind, rfl, rfl, Nat.le_refl _, fun y z c h1 h2 => ?_, fun y hy => ?_, fun y c _ h => ?_, fun _ => hd, Around.frames_deeper e0.frames, .inr ⟨rfl, rfl⟩, fun b z => absurd z (noA b), e0.bs, e0.bsz, fun b _ _ => noA b, fun b z => absurd z (noA b), e0.funs, e0.frf⟩,
    rfl, e0.bare, Un.kept hk, ⟨_, x.toInCall.ns, fun i y v h1 h2 h3 => ?_⟩, fun y c h => ⟨_, x.cell y c h⟩, e0.hok.fresh (Nat.le_refl _), fun y c h => ?_, fun p hp => absurd (show p ∈ ([] : List (Addr × Obj)) from hp) (by simp), e0.hok.kept hk, ?_⟩
  · exact name_of_addr x.apart (PySem.mem_of_lookup h1) (PySem.mem_of_lookup h2)
  · have hy : scope.names.lookup y = some .cell ∨ scope.names.lookup y = some .free := hy
    rcases hy with hy | hy
    · exact cell_has hy
    · exact absurd rfl (S.nofree _ (PySem.mem_of_lookup hy))
  · exact Nat.le_of_lt (x.above y c (PySem.mem_of_lookup h))
  · have hi : i < vs.length := by
      unfold start at h2
      by_cases hi : i < vs.length
      · exact hi
      · rw [List.getElem?_append_right (by simpa using hi)] at h2
        rw [List.getElem?_replicate] at h2
        split at h2 <;> cases h2
    have ha : vs[i]? = some v := by
      unfold start at h2
      rw [List.getElem?_append_left (by simpa using hi), List.getElem?_map] at h2
      cases e : vs[i]? with
      | none => rw [e] at h2; cases h2
      | some a => rw [e] at h2; cases h2; rfl
    obtain ⟨u, hu, rv⟩ := r.get ha
    have hp : ps[i]? = some y := by
      rw [← S.pre, List.getElem?_take_of_lt (by omega)]; exact h1
    have ndP : ps.Nodup := by rw [← S.pre]; exact S.nd.sublist (List.take_sublist _ _)
    refine ⟨u, rv, ?_⟩
    rcases S.par y (List.mem_of_getElem? hp) with k | k
    · exact .inl ⟨k, bindL_get ndP hp hu k⟩
    · obtain ⟨c, e⟩ := cell_has (n := s.heap.objs.size + 1) k
      refine .inr ⟨.inl k, c, e, ?_⟩
      have q := x.cell y c e
      rw [bindC_get ndP hp hu (by show scope.names.lookup y ≠ _; rw [k]; decide)] at q
      exact q
  · exact e0.hok.fresh (Nat.le_of_lt (x.above y c (PySem.mem_of_lookup h)))
  · unfold start
    show _ = N.length
    rw [List.length_append, List.length_map, List.length_replicate]
    omega

/-- THE RULE: a def (or a method) of the text, by its body. The body's reading t is chosen for each entry; it is run at the parameters' values -/
theorem fn_of {CX : CXT} {P : Program} {w : World} {K : PySem.W.Frag} {mg : Str → Option Value} {base : Heap} {k : Nat} {f : Addr} {name qual : Str} {params : Arguments} {body : List Stmt} {scope : Scope} {dV kV doc pm cdv ct oc : Value} {an od : Option Addr}
    {osl : Array (Option Value)} {N ps : List Str} {sp : Sp} (lk : K.lookup f = some ⟨oc, od, .func (PySem.W.fnOf name qual params body scope dV kV doc pm an cdv ct), osl⟩) (hcd : PySem.W.codeIn K cdv qual = true) (S : FnScope N ps scope)
    (len : ∀ vs H Q E, sp vs H Q E → vs.length = ps.length)
    (hbody : ∀ (A : Around) (outer : List Env) (s : Shared) (H : Hp) (vs : List V) (Q : VK) (E : XK), Room k (A.deeper (envOfC qual scope s.heap.objs.size f cdv)) → sp vs H Q E →
      ∃ t, PSs (cxOf CX P w K mg base N qual scope f cdv A outer s H E) body t ∧ t { nx := fun _ H' => Q .non H', rt := Q } (start N vs) H) :
    FnOk P w K mg base CX (k + 1) f (PySem.W.fnOf name qual params body scope dV kV doc pm an cdv ct) ps sp := by
  refine ⟨len, fun A outer s H args us vs Q E hr e0 hb r hsp => ?_⟩
  have hl := len _ _ _ _ hsp
  have KX : K.In s.heap := e0.mod.kin.keeps fun b o e => (e0.bs b o e).1
  have lim : s.heap.NoLimit := e0.mod.nolimit.keeps fun b o e => (e0.bs b o e).1
  have hkind : ∀ y ∈ ps.zip us, scope.names.lookup y.1 = some .local ∨ (scope.names.lookup y.1 = some .cell ∧ ((cellsFrom (s.heap.objs.size + 1) scope.names []).lookup y.1).isSome = true) := fun ⟨n, v⟩ hy => by
    rcases S.par n (List.of_mem_zip hy).1 with q | q
    · exact .inl q
    · exact .inr ⟨q, PySem.W.cellsFrom_some _ _ _ (.inl q)⟩
  refine codeAny_call_function hr.depth (KX _ _ lk) rfl S.co S.gen rfl (PySem.W.codeRec_of KX hcd) (hb _ _ _ _ ?_)
  refine wpAny_newFunctionEnv_cells S.kind hkind fun env he s1 x => ?_
  subst he
  refine ⟨lim.keeps x.toInCall.keep, codeAny_func ?_⟩
  obtain ⟨t, ht, hq⟩ := hbody A outer s H vs Q E (hr.deeper _) hsp
  have I : Inv (cxOf CX P w K mg base N qual scope f cdv A outer s H E) [] (start N vs) H s1 := inv_start S hr.hd e0 hl r x
  refine wpAny_mono (ht [] s1 (start N vs) H _ I hq) (fun fl s' hs => ?_) fun e s' hs => hs
  have fin : ∀ {σ' : St} {H' : Hp} {v : V} {u : Value}, Inv (cxOf CX P w K mg base N qual scope f cdv A outer s H E) [] σ' H' s' → RelV v u → Q v H' → CE outer P w H s Q u s' :=
    fun {σ' H' v u} J rv q => ⟨v, H', J.os, J.bare, J.base, J.hok, rv, q⟩
  cases fl with
  | ret u =>
    obtain ⟨v, σ', H', J, rv, q⟩ := hs
    exact fin J rv q
  | next =>
    obtain ⟨σ', H', J, q⟩ := hs
    exact fin (v := V.non) (u := Value.none) J rfl q
  | brk =>
    obtain ⟨_, _, _, q⟩ := hs
    exact False.elim q
  | cont =>
    obtain ⟨_, _, _, q⟩ := hs
    exact False.elim q
end L2

namespace L2
open PySem PySem.Spec PyProof.Rows
section
variable {X : Cx} {x : Str} {p pos : Pos} {e : Expr} {es : List Expr} {t : TA} {id T : String} {r : List V → Hp → VK → Prop}

noncomputable def tCB (r : List V → Hp → VK → Prop) (t : TA) : TE := fun σ H Q => t σ H fun vs H1 => r vs H1 Q
/-- f(e, ..), f a built-in function -/
theorem pe_callB (hc : CallR X (.builtin id) r) (hg : Gl X x) (hm : X.mg x = none) (hv : bootBuiltins x = some (.builtin id)) (ha : PA X (e :: es) t) (hn : x ≠ "__name__" := by decide) (hdb : (x == ("__debug__" : Str)) = false := by decide)
    (he : starEach (e :: es) X.env = (false, eval e X.env) :: starEach es X.env := by rfl) (hpl : (backTo pos (starEach es X.env)).any (·.1) = false := by rfl) : PE X (.Call (.Name x p) (e :: es) [] pos) (tCB r t) := by
  intro pins s σ H Q I h
  refine wpAny_Call_Name_kw (ld_blt I hg hm hv ?_ hn hdb)
  exact PyProof.Rows.callWith_builtin1 (thn (ha pos pins s σ H _ I h) fun us s1 ⟨vs, H1, I1, r1, q1⟩ => hc pins s1 σ H1 vs us Q I1 r1 q1) he hpl
/-- T(e, ..), T a built-in type -/
theorem pe_callTy (hc : CallR X (.type T) r) (hg : Gl X x) (hm : X.mg x = none) (hv : bootBuiltins x = some (.type T)) (ha : PA X (e :: es) t) (hn : x ≠ "__name__" := by decide) (hdb : (x == ("__debug__" : Str)) = false := by decide)
    (he : starEach (e :: es) X.env = (false, eval e X.env) :: starEach es X.env := by rfl) (hpl : (backTo pos (starEach es X.env)).any (·.1) = false := by rfl) : PE X (.Call (.Name x p) (e :: es) [] pos) (tCB r t) := by
  intro pins s σ H Q I h
  refine wpAny_Call_Name_kw (ld_blt I hg hm hv ?_ hn hdb)
  exact PyProof.Rows.callWith_type1 (thn (ha pos pins s σ H _ I h) fun us s1 ⟨vs, H1, I1, r1, q1⟩ => hc pins s1 σ H1 vs us Q I1 r1 q1) he hpl
end
end L2

namespace HT
open PySem PyProof.Rows

section
open PySem.SeqAt
open PySem.AutoSeq1 (wpAny_loadPart')
open PySem.MeetsSeq PySem.MeetsSeq2 PySem.MeetsSeq3

end

section
variable {prog : Program} {w : World} {A : Around} {E : Value → Shared → Prop} {s : Shared}

/-! ### t[a:b], not the whole -/
/-- a slice's bound as a place among n (d where it is left out) -/
noncomputable def sIx (n d : Nat) : Option Int → Nat
  | none => d
  | some v => if v < 0 then (v + (n : Int)).toNat else min v.toNat n
theorem sIx_none (n d : Nat) : sIx n d none = d := rfl
theorem sIx_nat (n d k : Nat) : sIx n d (some (k : Int)) = min k n := by
  show (if (k : Int) < 0 then ((k : Int) + (n : Int)).toNat else min (k : Int).toNat n) = min k n
  rw [if_neg (by omega), Int.toNat_natCast]
end
end HT

namespace L2
open PySem PySem.Spec PyProof.Rows

/-! ### the parts of a slice -/
noncomputable abbrev TO := St → Hp → (Option Int → Hp → Prop) → Prop
/-- a slice's part (left out, or an int) -/
noncomputable def PO (X : Cx) (e : Option Expr) (t : TO) : Prop :=
  ∀ (pins : List (Addr × Obj)) (s : Shared) (σ : St) (H : Hp) (Q : Option Int → Hp → Prop), Inv X pins σ H s → t σ H Q →
    wpAny (model X.prog X.w) X.A (evalPart e X.env) (fun u s' => ∃ o H', Inv X pins σ H' s' ∧ IsPart u o ∧ Q o H') X.xe s
noncomputable def tNoPart : TO := fun _ H Q => Q none H
noncomputable def tPart (t : TE) : TO := fun σ H Q => t σ H fun x H1 => ∃ i, x = .int i ∧ Q (some i) H1

section
variable {X : Cx} {e : Expr} {te : TE} {lo hi : Option Expr} {tl th : TO} {pos p2 : Pos}

theorem po_none : PO X none tNoPart := by
  intro pins s σ H Q I h
  rw [evalPart_none]
  exact wpAny_pure ⟨none, H, I, .none, h⟩
theorem po_some (h : PE X e te) : PO X (some e) (tPart te) := by
  intro pins s σ H Q I hw
  rw [evalPart_some]
  refine thn (h pins s σ H _ I hw) fun u s1 ⟨x, H1, I1, r1, q1⟩ => ?_
  obtain ⟨i, rfl, q⟩ := q1
  obtain ⟨t, rfl⟩ := r1
  exact ⟨some i, H1, I1, .int i t, q⟩

/-- what a slice of a value is, by values: the slice object stands at sl -/
noncomputable def SlR (X : Cx) (r : V → Option Int → Option Int → Hp → VK → Prop) : Prop :=
  ∀ (pins : List (Addr × Obj)) (s : Shared) (σ : St) (H : Hp) (x : V) (v vl vu : Value) (lo hi : Option Int) (sl : Addr) (Q : VK), Inv X pins σ H s → RelV x v → s.heap.IsSliceOf sl vl vu .none → IsPart vl lo → IsPart vu hi → r x lo hi H Q →
    ∃ T id, typeLookup (.type T) "__getitem__" = pure (some (.builtin id)) ∧ s.TypeIs v T ∧ wpAny (model X.prog X.w) X.A (getItem v (.ref sl)) (EP X pins σ Q) X.xe s
theorem SlR.or {r r' : V → Option Int → Option Int → Hp → VK → Prop} (h : SlR X r) (h' : SlR X r') : SlR X (fun x lo hi H Q => r x lo hi H Q ∨ r' x lo hi H Q) := by
  intro pins s σ H x v vl vu lo hi sl Q I rx hs pl pu q
  rcases q with q | q
  · exact h pins s σ H x v vl vu lo hi sl Q I rx hs pl pu q
  · exact h' pins s σ H x v vl vu lo hi sl Q I rx hs pl pu q
noncomputable def tSl (r : V → Option Int → Option Int → Hp → VK → Prop) (te : TE) (tl th : TO) : TE := fun σ H Q => te σ H fun x H1 => tl σ H1 fun l H2 => th σ H2 fun u H3 => r x l u H3 Q
/-- a[lo:hi], any a -/
theorem pe_slice {r : V → Option Int → Option Int → Hp → VK → Prop} (hr : SlR X r) (he : PE X e te) (hl : PO X lo tl) (hu : PO X hi th) : PE X (.Subscript e (.Slice lo hi none p2) pos) (tSl r te tl th) := by
  intro pins s σ H Q I h
  refine Subscript_ (thn (he pins s σ H _ I h) fun v s1 ⟨x, H1, I1, r1, q1⟩ => ?_)
  refine wpAny_Slice (thn (hl pins s1 σ H1 _ I1 q1) fun vl s2 ⟨l, H2, I2, pl, q2⟩ => thn (hu pins s2 σ H2 _ I2 q2) fun vu s3 ⟨u, H3, I3, pu, q3⟩ => ?_)
  rw [evalPart_none]
  refine wpAny_pure ?_
  have I4 : Inv X pins σ H3 { s3 with heap := s3.heap.push { cls := .type "slice", data := .fields #[vl, vu, .none] } } := I3.kept (t' := s3.toks) fun b ob q => Heap.get?_push_of_some _ q
  obtain ⟨T, id, hT, ht, hg⟩ := hr pins { s3 with heap := s3.heap.push { cls := .type "slice", data := .fields #[vl, vu, .none] } } σ H3 x v vl vu l u s3.heap.objs.size Q I4 r1 (Heap.IsSliceOf.new ..) pl pu q3
  show wpAny (model X.prog X.w) X.A (subscriptTail e (.Slice lo hi none p2) v (.ref s3.heap.objs.size)) (EP X pins σ Q) X.xe { s3 with heap := s3.heap.push { cls := .type "slice", data := .fields #[vl, vu, .none] } }
  exact tail_any (ops := [.ref s3.heap.objs.size, v]) ht hT hg (by with_unfolding_all rfl)

/-- the items of xs[lo:hi] -/
noncomputable def cutV (xs : List V) (lo hi : Option Int) : List V := (xs.drop (HT.sIx xs.length 0 lo)).take (HT.sIx xs.length xs.length hi - HT.sIx xs.length 0 lo)
theorem cutV_length (xs : List V) (lo hi : Option Int) : (cutV xs lo hi).length ≤ xs.length := by
  unfold cutV
  rw [List.length_take, List.length_drop]
  omega
/-! ### t < u, t + u -/
end
end L2

namespace L2
open PySem PySem.Spec PyProof.Rows

/-! ### places -/
/-- the place that an index of any sign means -/
noncomputable def ixN (n : Nat) (i : Int) : Option Nat := if 0 ≤ i then (if i < n then some i.toNat else none) else if -(n : Int) ≤ i then some (i + n).toNat else none
noncomputable def atI {α : Type} (xs : List α) (i : Int) : Option α := (ixN xs.length i).bind fun j => xs[j]?
theorem ixN_seq {n : Nat} {i : Int} {j : Nat} (h : ixN n i = some j) : seqIndex? i n = some j ∧ j < n ∧ -(n : Int) ≤ i ∧ i < n := by
  unfold ixN at h
  by_cases h0 : 0 ≤ i
  · rw [if_pos h0] at h
    by_cases h1 : i < n
    · rw [if_pos h1] at h
      have e : i.toNat = j := Option.some.inj h
      exact ⟨by rw [seqIndex_of h0 h1, e], by omega, by omega, h1⟩
    · rw [if_neg h1] at h; cases h
  · rw [if_neg h0] at h
    by_cases h1 : -(n : Int) ≤ i
    · rw [if_pos h1] at h
      have e : (i + n).toNat = j := Option.some.inj h
      exact ⟨by rw [seqIndex_neg (by omega) h1, e], by omega, h1, by omega⟩
    · rw [if_neg h1] at h; cases h
theorem atI_get {α : Type} {xs : List α} {i : Int} {v : α} (h : atI xs i = some v) : ∃ j, seqIndex? i xs.length = some j ∧ xs[j]? = some v ∧ j < xs.length ∧ -(xs.length : Int) ≤ i ∧ i < xs.length := by
  unfold atI at h
  cases e : ixN xs.length i with
  | none => rw [e] at h; cases h
  | some j =>
    rw [e] at h
    obtain ⟨h1, h2, h3, h4⟩ := ixN_seq e
    exact ⟨j, h1, h, h2, h3, h4⟩
theorem atI_nat {α : Type} {xs : List α} {j : Nat} {v : α} (h : xs[j]? = some v) : atI xs (j : Int) = some v := by
  have hj : j < xs.length := (List.getElem?_eq_some_iff.mp h).1
  have e : ixN xs.length (j : Int) = some j := by
    unfold ixN
    rw [if_pos (by omega), if_pos (by omega)]; simp
  unfold atI; rw [e]; exact h
/-! ### what may be subscripted -/
/-- what stands as an index of a plain subscript -/
noncomputable def PlainIx (b : Expr) : Prop := ∀ o i, subscripted b false o i = operate [o, i] (getItem o i)
/-- a subscript by values -/
noncomputable def IxR (X : Cx) (r : R2) : Prop :=
  ∀ (value slice : Expr) (pins : List (Addr × Obj)) (s : Shared) (σ : St) (H : Hp) (x y : V) (v u : Value) (Q : VK), Inv X pins σ H s → RelV x v → RelV y u → r x y H Q →
    subscripted slice false v u = operate [v, u] (getItem v u) → wpAny (model X.prog X.w) X.A (subscriptTail value slice v u) (EP X pins σ Q) X.xe s
/-- a call of a builtin's method by values: the receiver, the arguments -/
noncomputable def MtR (X : Cx) (id : String) (r : V → List V → Hp → VK → Prop) : Prop :=
  ∀ (pins : List (Addr × Obj)) (s : Shared) (σ : St) (H : Hp) (x : V) (xs : List V) (v : Value) (us : List Value) (Q : VK), Inv X pins σ H s → RelV x v → Vals xs us → r x xs H Q →
    wpAny (model X.prog X.w) X.A (call (.builtin id) (v :: us)) (EP X pins σ Q) X.xe s
section
variable {X : Cx} {a b : Expr} {ta tb : TE} {pos : Pos}
theorem IxR.or {r r' : R2} (h : IxR X r) (h' : IxR X r') : IxR X (fun x y H Q => r x y H Q ∨ r' x y H Q) := by
  intro value slice pins s σ H x y v u Q I rx ry q hs
  rcases q with q | q
  · exact h value slice pins s σ H x y v u Q I rx ry q hs
  · exact h' value slice pins s σ H x y v u Q I rx ry q hs
theorem MtR.or {id : String} {r r' : V → List V → Hp → VK → Prop} (h : MtR X id r) (h' : MtR X id r') : MtR X id (fun x xs H Q => r x xs H Q ∨ r' x xs H Q) := by
  intro pins s σ H x xs v us Q I rx rs q
  rcases q with q | q
  · exact h pins s σ H x xs v us Q I rx rs q
  · exact h' pins s σ H x xs v us Q I rx rs q
/-- a[b] -/
theorem pe_ix {r : R2} (hr : IxR X r) (ha : PE X a ta) (hb : PE X b tb) (hs : PlainIx b) : PE X (.Subscript a b pos) (tOp r ta tb) := by
  intro pins s σ H Q I h
  exact Subscript_ (binT ha hb I h fun v u s2 x y H2 I2 rx ry q => hr a b pins s2 σ H2 x y v u Q I2 rx ry q (hs _ _))

noncomputable def rIxL (K : PySem.W.Frag) : R2 := fun x y H Q => ∃ p xs i v, x = .ref p ∧ y = .int i ∧ SqL K H p xs ∧ atI xs i = some v ∧ Q v H
noncomputable def rIxT (K : PySem.W.Frag) : R2 := fun x y H Q => ∃ p xs i v, x = .ref p ∧ y = .int i ∧ SqT K H p xs ∧ atI xs i = some v ∧ Q v H
noncomputable def rIxS : R2 := fun x y H Q => ∃ z i c, x = .str z ∧ y = .int i ∧ z.length ≤ sizeLine ∧ atI z.cps.toList i = some c ∧ Q (.str ⟨#[c]⟩) H
theorem ix_list : IxR X (rIxL X.K) := by
  intro value slice pins s σ H x y v u Q I rx ry h hs
  obtain ⟨p, xs, i, z, rfl, rfl, hq, he, q⟩ := h
  cases rx
  obtain ⟨t, rfl⟩ := ry
  obtain ⟨its, r, pl, hz⟩ := I.list hq
  obtain ⟨j, h1, h2, h3, h4, h5⟩ := atI_get he
  obtain ⟨w, ew, rw'⟩ := r.get h2
  have hl := r.length
  have hn := line63
  have fin : EP X pins σ Q w s := ⟨z, H, I, rw', q⟩
  by_cases h0 : 0 ≤ i
  · have hj : i.toNat = j := by
      rw [seqIndex_of h0 h5] at h1
      exact Option.some.inj h1
    exact item_listR pl.isList h0 (by omega) (by rw [hj]; simpa using ew) fin hs
  · have hj : (i + (its.toArray.size : Int)).toNat = j := by
      rw [seqIndex_neg (by omega) h4] at h1
      rw [List.size_toArray, ← hl]
      exact Option.some.inj h1
    exact subscriptTail_builtinR (x := w) pl.isList.typeIs slot_list_getitem.lookup
      (wpAny_getItem_list_neg (Q := fun r s' => r = w ∧ EP X pins σ Q r s') pl.isList (by omega) (by rw [List.size_toArray] <;> omega) (by omega) (by rw [hj]; simpa using ew) ⟨rfl, fin⟩) hs
theorem ix_tup : IxR X (rIxT X.K) := by
  intro value slice pins s σ H x y v u Q I rx ry h hs
  obtain ⟨p, xs, i, z, rfl, rfl, hq, he, q⟩ := h
  cases rx
  obtain ⟨t, rfl⟩ := ry
  obtain ⟨its, r, pl, hz⟩ := I.tuple hq
  obtain ⟨j, h1, h2, h3, h4, h5⟩ := atI_get he
  obtain ⟨w, ew, rw'⟩ := r.get h2
  have hl := r.length
  have hn := line63
  have fin : EP X pins σ Q w s := ⟨z, H, I, rw', q⟩
  exact subscriptTail_builtinR (x := w) pl.typeIs slot_tuple_getitem.lookup
    (getItem_tuple (j := j) (Q := fun r s' => r = w ∧ EP X pins σ Q r s') pl (by omega) (by omega) (by rw [List.size_toArray, ← hl]; exact h1) (by simpa using ew) ⟨rfl, fin⟩) hs
theorem ix_str : IxR X rIxS := by
  intro value slice pins s σ H x y v u Q I rx ry h hs
  obtain ⟨z, i, c, rfl, rfl, hz, he, q⟩ := h
  obtain ⟨t, rfl⟩ := rx
  obtain ⟨t', rfl⟩ := ry
  obtain ⟨j, h1, h2, h3, h4, h5⟩ := atI_get he
  have hl : z.cps.toList.length = z.length := by simp [Str.length]
  rw [hl] at h1 h4 h5
  have hn := line63
  exact tail_any (typeIs_str s z t) slot_str_getitem.lookup (getItem_str (c := c) (by
    have e1 : decide (i < -(2 ^ 63 : Int)) = false := decide_eq_false (by omega)
    have e2 : decide (i ≥ 2 ^ 63) = false := decide_eq_false (by omega)
    rw [e1, e2, Bool.or_false]) (by rw [h1]; simpa using h2) ⟨.str ⟨#[c]⟩, H, I.tok _, ⟨_, rfl⟩, q⟩) hs
/-- list, tuple or str -/
noncomputable def rIx (K : PySem.W.Frag) : R2 := fun x y H Q => rIxL K x y H Q ∨ rIxT K x y H Q ∨ rIxS x y H Q
theorem ix_seq : IxR X (rIx X.K) := ix_list.or (ix_tup.or ix_str)

/-! ### xs[i] = v, any sign -/
/-- the list's object behind a store -/
theorem mapSeq_set (its : List Value) (n j : Nat) (u : Value) : Obj.mapSeq (·.setIfInBounds j u) { cls := .type "list", data := .seq its.toArray n } = { cls := .type "list", data := .seq (its.set j u).toArray n } := by
  simp [Obj.mapSeq]
theorem Inv.lst {pins : List (Addr × Obj)} {σ : St} {H : Hp} {s : Shared} {p : Addr} {xs : List V} (I : Inv X pins σ H s) (h : H p = some (.lst xs)) :
    ∃ (its : List Value) (n : Nat), Vals xs its ∧ s.heap.get? p = some { cls := .type "list", data := .seq its.toArray n } ∧ xs.length ≤ sizeLine := by
  obtain ⟨z, its, n, r, e⟩ := I.hok p _ h
  exact ⟨its, n, r, e, z⟩
/-- the list at p is written by an update of its object -/
theorem Inv.lstUpd {pins : List (Addr × Obj)} {σ : St} {H : Hp} {s : Shared} {p : Addr} {xs ys : List V} {its its' : List Value} {n n' : Nat} {f : Obj → Obj} (I : Inv X pins σ H s) (h : H p = some (.lst xs))
    (ho : s.heap.get? p = some { cls := .type "list", data := .seq its.toArray n }) (hf : f { cls := .type "list", data := .seq its.toArray n } = { cls := .type "list", data := .seq its'.toArray n' }) (r : Vals ys its') (hz : ys.length ≤ sizeLine) (t : Nat) :
    Inv X pins σ (upd H p (.lst ys)) { s with heap := s.heap.update p f, toks := t } := by
  have e : (s.heap.update p f).get? p = some { cls := .type "list", data := .seq its'.toArray n' } := by
    rw [Heap.get?_update_self f ho (by rw [hf] <;> rfl), hf]
  refine I.write (x := p) (e := p) (by rw [h]; trivial) (.inl rfl) (fun b u hb q => (Heap.get?_update_other _ _ (Ne.symm hb)).trans q) ⟨_, e⟩ ?_
  exact ⟨hz, its', n', r, e⟩
noncomputable def rSetL : V → V → V → Hp → (Hp → Prop) → Prop := fun o i v H Q => ∃ p xs k j, o = .ref p ∧ i = .int k ∧ H p = some (.lst xs) ∧ ixN xs.length k = some j ∧ Q (upd H p (.lst (xs.set j v)))
theorem set_list : PSet X rSetL := by
  intro pins s σ H o i v ov iv u Q I ro ri rv h
  obtain ⟨p, xs, k, j, rfl, rfl, hp, hj, q⟩ := h
  cases ro
  obtain ⟨t, rfl⟩ := ri
  obtain ⟨its, n, r, ho, hz⟩ := I.lst hp
  obtain ⟨h1, h2, h3, h4⟩ := ixN_seq hj
  have hl := r.length
  have hn := line63
  have I' : Inv X pins σ (upd H p (.lst (xs.set j v))) { s with heap := s.heap.update p (Obj.mapSeq (·.setIfInBounds j u)) } :=
    I.lstUpd hp ho (mapSeq_set its n j u) (r.set rv j) (by rw [List.length_set]; exact hz) s.toks
  by_cases h0 : 0 ≤ k
  · have hk : k.toNat = j := by
      rw [seqIndex_of h0 h4] at h1
      exact Option.some.inj h1
    exact PySem.W.ki_setAt ho h0 (by omega) (by rw [List.size_toArray, ← hl]; exact h4) (by rw [hk]; exact ⟨_, I', q⟩)
  · have hk : (k + (its.toArray.size : Int)).toNat = j := by
      rw [seqIndex_neg (by omega) h3] at h1
      rw [List.size_toArray, ← hl]
      exact Option.some.inj h1
    exact PySem.W.ki_setBack ho (by omega) (by rw [List.size_toArray, ← hl]; exact h3) (by omega) (by rw [hk]; exact ⟨_, I', q⟩)

/-! ### slices -/
theorem slice_bounds (lo hi : Option Int) (n : Nat) : (sliceBounds lo hi none n).1 = ((HT.sIx n 0 lo : Nat) : Int) ∧ (sliceBounds lo hi none n).2.1 = ((HT.sIx n n hi : Nat) : Int) ∧ (sliceBounds lo hi none n).2.2 = 1 := by
  refine ⟨?_, ?_, rfl⟩
  · cases lo with
    | none => simp [sliceBounds, HT.sIx]
    | some i =>
      simp only [sliceBounds, HT.sIx, Option.getD_none, show (1 : Int) > 0 by decide, if_true]
      by_cases h : i < 0
      · simp only [h, if_true] <;> omega
      · simp only [h, if_false] <;> omega
  · cases hi with
    | none => simp [sliceBounds, HT.sIx]
    | some i =>
      simp only [sliceBounds, HT.sIx, Option.getD_none, show (1 : Int) > 0 by decide, if_true]
      by_cases h : i < 0
      · simp only [h, if_true] <;> omega
      · simp only [h, if_false] <;> omega
theorem slicePick_cut (its : List Value) (lo hi : Option Int) : slicePick its.toArray lo hi none = ((its.drop (HT.sIx its.length 0 lo)).take (HT.sIx its.length its.length hi - HT.sIx its.length 0 lo)).toArray := by
  obtain ⟨h1, h2, h3⟩ := slice_bounds lo hi its.toArray.size
  unfold slicePick
  rw [h1, h2, h3]
  simp only [sliceRange_one, pick_run, List.size_toArray] <;> rfl
/-- xs[lo:hi] of a list: a new list -/
noncomputable def rSlL (K : PySem.W.Frag) : V → Option Int → Option Int → Hp → VK → Prop := fun x lo hi H Q => ∃ a xs, x = .ref a ∧ SqL K H a xs ∧ ∀ p, H p = none → Q (.ref p) (upd H p (.lst (cutV xs lo hi)))
theorem sl_list : SlR X (rSlL X.K) := by
  intro pins s σ H x v vl vu lo hi sl Q I rx hs pl pu h
  obtain ⟨a, xs, rfl, hx, q⟩ := h
  cases rx
  obtain ⟨its, r, ht, hz⟩ := I.list hx
  have hlen := r.length
  refine ⟨"list", _, slot_list_getitem.lookup, ht.isList.typeIs, ?_⟩
  refine wpAny_getItem_list_slice ht.isList hs pl pu .none (by simp) ?_ (by rw [List.size_toArray] <;> omega)
  rw [slicePick_cut, ← hlen]
  refine ⟨.ref s.heap.objs.size, _, I.laid (t' := s.toks) (o := .lst (cutV xs lo hi)) (fun b ob q => Heap.get?_push_of_some _ q) (Nat.le_refl _) ?_, rfl, q _ (I.hok.fresh (Nat.le_refl _))⟩
  exact ⟨Nat.le_trans (cutV_length xs lo hi) hz, _, 0, (r.drop (HT.sIx xs.length 0 lo)).take (HT.sIx xs.length xs.length hi - HT.sIx xs.length 0 lo), Heap.get?_push_size _ rfl⟩

/-! ### in, not in: flat items -/
/-! ### len, list(x), tuple(x) of any list or tuple that is read -/
theorem call_len_seq : CallR X (.builtin "len") (fun xs H Q => ∃ p ys, xs = [.ref p] ∧ (SqL X.K H p ys ∨ SqT X.K H p ys) ∧ Q (.int ys.length) H) := by
  intro pins s σ H xs us Q I r h
  obtain ⟨p, ys, rfl, hq, q⟩ := h
  obtain ⟨u, rfl, rx⟩ := vals1 r
  cases rx
  have hn := line63
  rcases hq with hq | hq
  · obtain ⟨its, r', pl, hz⟩ := I.list hq
    have hlen := r'.length
    exact Calls.call_len_list pl.isList (by simp only [List.size_toArray] <;> omega) ⟨.int ys.length, H, I.tok _, ⟨s.toks + 1, by rw [List.size_toArray, hlen]⟩, q⟩
  · obtain ⟨its, r', pl, hz⟩ := I.tuple hq
    have hlen := r'.length
    exact len_tuple pl (by simp only [List.size_toArray] <;> omega) ⟨.int ys.length, H, I.tok _, ⟨s.toks + 1, by rw [List.size_toArray, hlen]⟩, q⟩
theorem CallR.or {f : Value} {r r' : List V → Hp → VK → Prop} (h : CallR X f r) (h' : CallR X f r') : CallR X f (fun xs H Q => r xs H Q ∨ r' xs H Q) := by
  intro pins s σ H xs us Q I rs q
  rcases q with q | q
  · exact h pins s σ H xs us Q I rs q
  · exact h' pins s σ H xs us Q I rs q
theorem call_list_of : CallR X (.type "list") (fun xs H Q => ∃ p ys, xs = [.ref p] ∧ (SqL X.K H p ys ∨ SqT X.K H p ys) ∧ ∀ l, H l = none → Q (.ref l) (upd H l (.lst ys))) := by
  intro pins s σ H xs us Q I r h
  obtain ⟨p, ys, rfl, hq, q⟩ := h
  obtain ⟨u, rfl, rx⟩ := vals1 r
  cases rx
  have fin : ∀ (its : List Value), Vals ys its → ys.length ≤ sizeLine → ∀ (h' : Heap) (c' : Nat), (∀ b o', s.heap.get? b = some o' → h'.get? b = some o') →
      h'.get? s.heap.objs.size = some { cls := .type "list", dict := none, data := .seq its.toArray c', slots := #[] } → EP X pins σ Q (.ref s.heap.objs.size) { s with heap := h' } := fun its r' hz h' c' kp e =>
    ⟨.ref s.heap.objs.size, _, I.laid (t' := s.toks) kp (Nat.le_refl _) (show ObjOk X.prog X.w _ h' _ (.lst ys) from ⟨hz, its, c', r', e⟩), rfl, q _ (I.hok.fresh (Nat.le_refl _))⟩
  rcases hq with hq | hq
  · obtain ⟨its, r', pl, hz⟩ := I.list hq
    have hlen := r'.length
    obtain ⟨o, ho, hc, n, hd⟩ := pl.isList
    exact call_list_seq p (.inl rfl) ho hc hd (fun h' c' kp e => fin its r' hz h' c' kp e) (by simp only [List.size_toArray] <;> omega)
  · obtain ⟨its, r', pl, hz⟩ := I.tuple hq
    have hlen := r'.length
    obtain ⟨o, ho, hc, n, hd⟩ := pl
    exact call_list_seq p (.inr rfl) ho hc hd (fun h' c' kp e => fin its r' hz h' c' kp e) (by simp only [List.size_toArray] <;> omega)
/-! ### the call of a builtin's method: o.m(..) -/
/-- the value is of that builtin type -/
noncomputable def tyV (K : PySem.W.Frag) (T : String) (x : V) (H : Hp) : Prop := match x with
  | .str _ => T = "str"
  | .int _ => T = "int"
  | .ref p => (T = "list" ∧ ∃ xs, SqL K H p xs) ∨ (T = "tuple" ∧ ∃ o, K.lookup p = some o ∧ o.cls = .type "tuple" ∧ o.dict = none) ∨
      (T = "dict" ∧ ((∃ kvs, H p = some (.dK kvs)) ∨ ∃ kvs, H p = some (.dT kvs))) ∨ (T = "set" ∧ ∃ S n, H p = some (.set S n))
  | _ => False
theorem tyV_is {pins : List (Addr × Obj)} {σ : St} {H : Hp} {s : Shared} {T : String} {x : V} {v : Value} (I : Inv X pins σ H s) (r : RelV x v) (ty : tyV X.K T x H) :
    s.TypeIs v T ∧ ∀ a, v = .ref a → ∃ ob, s.heap.get? a = some ob ∧ ob.dict = none := by
  cases x with
  | str z =>
    obtain ⟨t, rfl⟩ := r
    cases (show T = "str" from ty)
    exact ⟨typeIs_str s z t, fun _ e => nomatch e⟩
  | int i =>
    obtain ⟨t, rfl⟩ := r
    cases (show T = "int" from ty)
    exact ⟨typeIs_int s i t, fun _ e => nomatch e⟩
  | ref p =>
    cases r
    rcases ty with ⟨rfl, xs, hq⟩ | ⟨rfl, o, hk, hc, hd⟩ | ⟨rfl, hk⟩ | ⟨rfl, S, n, hk⟩
    · obtain ⟨its, _, pl, _⟩ := I.list hq
      refine ⟨pl.isList.typeIs, fun a e => ?_⟩
      cases e
      obtain ⟨o, n, e, c, hd, _⟩ := pl
      exact ⟨o, e, hd⟩
    · refine ⟨⟨o, I.kIn p o hk, hc⟩, fun a e => ?_⟩
      cases e
      exact ⟨o, I.kIn _ o hk, hd⟩
    · have z : ∃ o, s.heap.get? p = some o ∧ o.ExactDict := by
        rcases hk with ⟨kvs, hk⟩ | ⟨kvs, hk⟩
        · obtain ⟨_, _, _, _, o, _, _, e, ex, _⟩ := I.hok p _ hk
          exact ⟨o, e, ex⟩
        · obtain ⟨_, _, _, _, o, _, _, e, ex, _⟩ := I.hok p _ hk
          exact ⟨o, e, ex⟩
      obtain ⟨o, e, ex⟩ := z
      refine ⟨⟨o, e, ex.1⟩, fun a e2 => ?_⟩
      cases e2
      exact ⟨o, e, ex.2.1⟩
    · obtain ⟨o, _, _, _, e, ex, _⟩ := I.hok p _ hk
      refine ⟨⟨o, e, ex.1⟩, fun a e2 => ?_⟩
      cases e2
      exact ⟨o, e, ex.2.1⟩
  | _ => exact False.elim ty
noncomputable def tBM0 (K : PySem.W.Frag) (T : String) (r : V → List V → Hp → VK → Prop) (to : TE) : TE := fun σ H Q => to σ H fun x H1 => tyV K T x H1 ∧ r x [] H1 Q
noncomputable def tBM (K : PySem.W.Frag) (T : String) (r : V → List V → Hp → VK → Prop) (to : TE) (t : TA) : TE := fun σ H Q => to σ H fun x H1 => tyV K T x H1 ∧ t σ H1 fun xs H2 => r x xs H2 Q
variable {o e : Expr} {es : List Expr} {to : TE} {t : TA} {name : Str} {apos cpos : Pos} {T id : String} {r : V → List V → Hp → VK → Prop}
theorem pe_bm0 (pa : PlainAttrs T) (slot : Slot T name id) (hty : typeOf (.builtin id) = pure (.type "method_descriptor")) (hm : MtR X id r) (ho : PE X o to)
    (hbase : attributeBase o name X.env (eval o X.env) = eval o X.env := by rfl) (hline : (apos.endLine == cpos.line) = true := by rfl) : PE X (.Call (.Attribute o name apos) [] [] cpos) (tBM0 X.K T r to) := by
  intro pins s σ H Q I h
  refine wpAny_Call_method0_late hbase hline (thn (ho pins s σ H _ I h) fun v s1 ⟨x, H1, I1, r1, ty, q1⟩ => ?_)
  obtain ⟨h1, h2⟩ := tyV_is I1 r1 ty
  exact ⟨T, id, pa, slot, hty, h1, h2, Calls.callWith_builtin rfl (PySem.evalArgs_none (hm pins s1 σ H1 x [] v [] Q I1 r1 .nil q1))⟩
theorem pe_bm (pa : PlainAttrs T) (slot : Slot T name id) (hty : typeOf (.builtin id) = pure (.type "method_descriptor")) (hm : MtR X id r) (ho : PE X o to) (ha : PA X (e :: es) t)
    (hbase : attributeBase o name X.env (eval o X.env) = eval o X.env := by rfl)
    (hfew : ((backTo cpos (starEach (e :: es) X.env)).all (fun x => !x.1) && (backToKw cpos (keywordEach [] X.env)).all (fun x => x.1.isSome)
      && decide ((e :: es).length + ([] : List Keyword).length + (if ([] : List Keyword).isEmpty then 0 else 1) < 30)) = true := by rfl)
    (hline : (apos.endLine == cpos.line) = true := by rfl) (hs : starEach (e :: es) X.env = (false, eval e X.env) :: starEach es X.env := by rfl) (hplain : (backTo cpos (starEach es X.env)).any (·.1) = false := by rfl) :
    PE X (.Call (.Attribute o name apos) (e :: es) [] cpos) (tBM X.K T r to t) := by
  intro pins s σ H Q I h
  refine wpAny_Call_method_late hbase hfew hline rfl (thn (ho pins s σ H _ I h) fun v s1 ⟨x, H1, I1, r1, ty, q1⟩ => ?_)
  obtain ⟨h1, h2⟩ := tyV_is I1 r1 ty
  refine ⟨T, id, pa, slot, hty, h1, h2, ?_⟩
  have hA := ha cpos pins s1 σ H1 _ I1 q1
  rw [hs] at hA ⊢
  refine Calls.callWith_builtin (by show (false || (backTo cpos (starEach es X.env)).any (·.1)) = false; rw [hplain] <;> rfl) (Calls.evalArgs_plain ?_)
  exact thn hA fun us s2 ⟨vs, H2, I2, r2, q2⟩ => hm pins s2 σ H2 x vs v us Q I2 r1 r2 q2
/- xs.append(e), list.index on a module's tuple .. are MtR facts of 06m -/
end
end L2

namespace L2
open PySem PySem.Spec PyProof.Rows

noncomputable def MtM (X : Cx) (id : String) (r : V → List V → Hp → VK → Prop) : Prop :=
  ∀ (pins : List (Addr × Obj)) (s : Shared) (σ : St) (H : Hp) (x : V) (xs : List V) (v : Value) (us : List Value) (Q : VK), Inv X pins σ H s → RelV x v → Vals xs us → r x xs H Q →
    wpAny (model X.prog X.w) X.A (call (.builtin id) (v :: us)) (EP X pins σ Q) X.xe s

/-! ### lists of values -/
theorem Vals.one : ∀ {x : V} {us : List Value}, Vals [x] us → ∃ u, us = [u] ∧ RelV x u
  | _, _, .cons r .nil => ⟨_, rfl, r⟩
theorem Vals.two : ∀ {x y : V} {us : List Value}, Vals [x, y] us → ∃ u v, us = [u, v] ∧ RelV x u ∧ RelV y v
  | _, _, _, .cons r (.cons q .nil) => ⟨_, _, rfl, r, q⟩
theorem Vals.zero : ∀ {us : List Value}, Vals [] us → us = []
  | _, .nil => rfl
theorem Vals.dropLast {xs : List V} {us : List Value} (h : Vals xs us) : Vals xs.dropLast us.dropLast := by
  induction h with
  | nil => exact .nil
  | cons r t ih =>
    cases t with
    | nil => exact .nil
    | cons q t' => exact .cons r ih
theorem Vals.eraseIdx : ∀ {xs : List V} {us : List Value} (i : Nat), Vals xs us → Vals (xs.eraseIdx i) (us.eraseIdx i)
  | _, _, _, .nil => .nil
  | _, _, 0, .cons _ t => t
  | _, _, i + 1, .cons r t => .cons r (Vals.eraseIdx i t)
theorem Vals.reverse {xs : List V} {us : List Value} (h : Vals xs us) : Vals xs.reverse us.reverse := by
  induction h with
  | nil => exact .nil
  | cons r t ih => rw [List.reverse_cons, List.reverse_cons]; exact Vals.append ih (.cons r .nil)
theorem Vals.rep {xs : List V} {us : List Value} (h : Vals xs us) : ∀ k : Nat, Vals (List.replicate k xs).flatten (List.replicate k us).flatten
  | 0 => .nil
  | k + 1 => by
    rw [List.replicate_succ, List.replicate_succ, List.flatten_cons, List.flatten_cons]
    exact Vals.append h (Vals.rep h k)
theorem erase_last {α : Type} (l : List α) : l.eraseIdx (l.length - 1) = l.dropLast := by
  induction l with
  | nil => rfl
  | cons a r ih =>
    cases r with
    | nil => rfl
    | cons b r =>
      have e : (a :: b :: r).length - 1 = ((b :: r).length - 1) + 1 := by
        have h1 : (a :: b :: r).length = r.length + 2 := rfl
        have h2 : (b :: r).length = r.length + 1 := rfl
        omega
      rw [e, List.eraseIdx_cons_succ, ih]
      all_goals rfl
theorem foldl_rep (its : List Value) : ∀ (k : Nat) (acc : List Value),
    List.foldl (fun x1 x2 => x1 ++ x2) acc.toArray (List.replicate k its.toArray) = (acc ++ (List.replicate k its).flatten).toArray
  | 0, acc => by simp
  | k + 1, acc => by
    have e : acc.toArray ++ its.toArray = (acc ++ its).toArray := by simp
    have e2 : (acc ++ its) ++ (List.replicate k its).flatten = acc ++ (List.replicate (k + 1) its).flatten := by
      rw [List.replicate_succ, List.flatten_cons, List.append_assoc]
    rw [← e2, ← foldl_rep its k (acc ++ its), ← e, List.replicate_succ, List.foldl_cons]

section
variable {X : Cx} {pins : List (Addr × Obj)} {σ : St} {H : Hp} {s : Shared} {l b : Addr} {xs ys zs : List V}

/-! ### the two steps: a tracked list is rewritten, a new list is laid -/
theorem Inv.lset {its its' : List Value} {n : Nat} {f : Array Value → Array Value} {t' : Nat} (I : Inv X pins σ H s) (hH : H l = some (.lst xs))
    (e : s.heap.get? l = some { cls := .type "list", data := .seq its.toArray n }) (hf : f its.toArray = its'.toArray) (hv : Vals ys its') (hz : ys.length ≤ sizeLine) :
    Inv X pins σ (upd H l (.lst ys)) { s with heap := s.heap.update l (Obj.mapSeq f), toks := t' } := by
  have q := PySem.IsL.update e f
  rw [hf] at q
  refine I.write (x := l) (e := l) (by rw [hH]; exact trivial) (.inl rfl) (fun b' u hb hu => (Heap.get?_update_other s.heap (Obj.mapSeq f) (Ne.symm hb)).trans hu) ⟨_, q⟩ ?_
  exact ⟨hz, its', _, hv, q⟩
theorem Inv.lnew {its : List Value} {t' : Nat} (I : Inv X pins σ H s) (hv : Vals ys its) (hz : ys.length ≤ sizeLine) :
    Inv X pins σ (upd H s.heap.objs.size (.lst ys)) { s with heap := s.heap.push { cls := .type "list", data := .seq its.toArray }, toks := t' } :=
  I.laid (fun _ _ q => Heap.get?_push_of_some _ q) (Nat.le_refl _) ⟨hz, its, 0, hv, Heap.get?_push_size _ rfl⟩
theorem Inv.fresh (I : Inv X pins σ H s) : H s.heap.objs.size = none := I.hok.fresh (Nat.le_refl _)
theorem Inv.lstM (I : Inv X pins σ H s) (hH : H l = some (.lst xs)) : xs.length ≤ sizeLine ∧ ∃ (its : List Value) (n : Nat), Vals xs its ∧ xs.length = its.length ∧ s.heap.get? l = some { cls := .type "list", data := .seq its.toArray n } := by
  obtain ⟨z, its, n, r, e⟩ := I.hok l _ hH
  exact ⟨z, its, n, r, r.length, e⟩

theorem notLongL {n : Nat} (h : n ≤ sizeLine) : Builtin.List.listTooLong n = false := by
  unfold Builtin.List.listTooLong
  exact decide_eq_false (by omega)
end

section
variable {X : Cx}

/-! ### methods -/
noncomputable def rAppend : V → List V → Hp → VK → Prop := fun x vs H Q => ∃ l xs y, x = .ref l ∧ vs = [y] ∧ H l = some (.lst xs) ∧ xs.length < sizeLine ∧ Q .non (upd H l (.lst (xs ++ [y])))
theorem mt_append : MtM X "list.append" rAppend := by
  intro pins s σ H x vs v us Q I rx rv h
  obtain ⟨l, xs, y, rfl, rfl, hH, hz, q⟩ := h
  cases rx
  obtain ⟨u, rfl, ru⟩ := rv.one
  obtain ⟨z, its, n, r, hl, e⟩ := I.lstM hH
  refine call_meets F.slot_list_append ⟨_, e, rfl⟩ F.entry_list_append (F.args_list_append_2 _ _) (PySem.list_append l its.toArray n u (by rw [List.size_toArray]; omega)) ⟨e, ?_⟩
  refine ⟨.non, _, I.lset (its' := its ++ [u]) hH e (by simp) (r.append (.cons ru .nil)) ?_, rfl, q⟩
  rw [List.length_append, List.length_singleton]
  omega

noncomputable def rPop : V → List V → Hp → VK → Prop := fun x vs H Q => ∃ l xs y, x = .ref l ∧ vs = [] ∧ H l = some (.lst xs) ∧ xs[xs.length - 1]? = some y ∧ Q y (upd H l (.lst xs.dropLast))
theorem mt_pop : MtM X "list.pop" rPop := by
  intro pins s σ H x vs v us Q I rx rv h
  obtain ⟨l, xs, y, rfl, rfl, hH, hy, q⟩ := h
  cases rx
  have hus := rv.zero
  subst hus
  obtain ⟨z, its, n, r, hl, e⟩ := I.lstM hH
  obtain ⟨u, hu, ru⟩ := r.get hy
  have hy' : its.toArray[its.toArray.size - 1]? = some u := by
    show its.toArray[its.length - 1]? = some u
    rw [← Array.getElem?_toList, ← hl]
    exact hu
  refine call_meets F.slot_list_pop ⟨_, e, rfl⟩ F.entry_list_pop (F.args_list_pop_1 _) (MeetsSeq.list_pop_last l its.toArray n u hy' (by rw [List.size_toArray]; omega)) ⟨e, ?_⟩
  refine ⟨y, _, I.lset (its' := its.dropLast) hH e ?_ r.dropLast ?_, ru, q⟩
  · show its.toArray.eraseIdxIfInBounds (its.toArray.size - 1) = its.dropLast.toArray
    rw [List.size_toArray, List.eraseIdxIfInBounds_toArray, erase_last]
  · rw [List.length_dropLast]
    omega

/-! ### list + list, list += list, list * int -/
/-- a list times an int (a negative one is nothing) -/
noncomputable def rRep : R2 := fun x y H Q => ∃ l k xs, x = .ref l ∧ y = .int k ∧ H l = some (.lst xs) ∧ -(2 ^ 63) ≤ k ∧ k < 2 ^ 63 ∧ xs.length * k.toNat ≤ sizeLine ∧
  ∀ p, H p = none → Q (.ref p) (upd H p (.lst (List.replicate k.toNat xs).flatten))
theorem len_rep {α : Type} (xs : List α) (k : Nat) : (List.replicate k xs).flatten.length = k * xs.length := by
  induction k with
  | zero => simp
  | succ k ih => rw [List.replicate_succ, List.flatten_cons, List.length_append, ih, Nat.succ_mul, Nat.add_comm]
theorem op_rep : OpR X (binaryOp .Mult) rRep := by
  intro pins s σ H x y v u Q I rx ry h
  obtain ⟨l, k, xs, rfl, rfl, hH, h1, h2, hz, q⟩ := h
  cases rx
  obtain ⟨t, rfl⟩ := ry
  obtain ⟨z, its, n, r, hl, e⟩ := I.lstM hH
  have hlen : its.toArray.size * k.toNat ≤ sizeLine := by rw [List.size_toArray, ← hl]; exact hz
  have hcap : ¬ its.toArray.size * k.toNat > (2 ^ 63 - 1) / 8 := by
    have : (sizeLine : Nat) ≤ (2 ^ 63 - 1) / 8 := by decide
    omega
  have hfit : ¬ (!Builtin.List.listFitsIndex k) = true := by
    rw [fitsIndex_both h1 h2]
    exact Bool.false_ne_true
  have hlong : ¬ Builtin.List.listTooLong (its.toArray.size * k.toNat) = true := by
    rw [notLongL hlen]
    exact Bool.false_ne_true
  have hnew : List.foldl (fun x1 x2 => x1 ++ x2) #[] (List.replicate (if its.toArray.isEmpty = true then 0 else k.toNat) its.toArray) = (List.replicate k.toNat its).flatten.toArray := by
    have f0 : ∀ m : Nat, List.foldl (fun x1 x2 => x1 ++ x2) #[] (List.replicate m its.toArray) = (List.replicate m its).flatten.toArray := fun m => by
      have := foldl_rep its m []
      rw [List.nil_append] at this
      exact this
    rw [f0]
    cases its with
    | nil => simp
    | cons a r' => rw [if_neg (by simp)]
  refine wpAny_binaryOp_repeat_ref (T := "list") (U := "int") (by decide) ⟨_, e, rfl⟩ (fun s' => typeIs_int s' k t) noFill_list_mul F.fills_int_mul F.slot_int_rmul repeat_list F.slot_int_index.lookup
    (call_meets F.slot_int_rmul (typeIs_int s k t) F.entry_int_rmul (F.args_int_rmul_2 _ _) (int___rmul___int_list k t l its.toArray n)
      ⟨e, rfl, ⟨_, e, rfl⟩, call_meets F.slot_list_mul ⟨_, e, rfl⟩ F.entry_list_mul (F.args_list_mul_2 _ _) (AutoListH.list___mul___list_int_3 l its.toArray n k t hfit hcap hlong) ⟨e, ?_⟩⟩)
  rw [hnew]
  exact ⟨.ref _, _, I.lnew (t' := s.toks) (r.rep k.toNat) (by rw [len_rep, Nat.mul_comm]; exact hz), rfl, q _ I.fresh⟩

/-! ### del xs[i] -/
end

/-! ### xs[a:b] = ys -/
section
variable {prog : Program} {w : World} {A : Around} {E : Value → Shared → Prop} {s : Shared}
end

section
variable {X : Cx}
end
end L2

namespace Att
open PySem PySem.W PySem.Calls PyProof.Rows

/-! ### the script -/
theorem ints_of_wellAll {P : Params} {h : Heap} : ∀ (ns : List Int) (vs : List Value), WellAll P h vs (ns.map WData.int) → IntsAre vs ns := by
  intro ns
  induction ns with
  | nil =>
    intro vs w
    rw [List.map_nil] at w
    cases w
    exact .nil
  | cons n ns ih =>
    intro vs w
    rw [List.map_cons] at w
    cases w with
    | cons a b =>
      cases a
      exact .cons _ _ (ih _ b)

theorem script_of {l : OpenLaw} {n : Nat} (hn : l.most = some n) {P : Params} {h : Heap} {args : List WData} {vals : List Value}
    (hpre : l.row.toRowW.claim.pre args = true) (hwl : WellAll P h vals args) :
    ∃ a vs ns, vals = [Value.ref a] ∧ args = [WData.list (ns.map WData.int)] ∧ h.get? a = some { cls := .type "list", data := .seq vs.toArray } ∧ IntsAre vs ns ∧ ns.length ≤ n := by
  have hsh : WShape.hasAll [] args [.list .int] = true := (pre_splitW hpre).1
  have hc : l.pre.holds [] { args := args } = true := (pre_splitW hpre).2
  obtain ⟨d, r, rfl, h1, h2⟩ := hasAllW_cons hsh
  obtain rfl := hasAllW_nil h2
  obtain ⟨xs, rfl, h3⟩ := hasW_list h1
  obtain ⟨ns, rfl⟩ := items_int h3
  have hlen : ns.length ≤ n := by
    unfold OpenLaw.pre at hc
    have h4 : (WTm.not (.lt (.lit (.int (n : Int))) (.len (.arg 0)))).holds [] { args := [.list (ns.map .int)] } = true := by
      have h4 := (holds_andW hc).1
      rw [hn] at h4
      exact h4
    have h5 := condW_of h4 (w_not (w_lt w_lit (w_len_list (w_arg rfl))))
    rw [List.length_map] at h5
    refine Nat.le_of_not_lt fun q => ?_
    have q' : (n : Int) < ((ns.length : Nat) : Int) := by omega
    first
      | (rw [decide_eq_true q'] at h5; exact absurd h5 (by decide))
      | (simp at h5; omega)
  cases hwl with
  | cons w1 w2 =>
    cases w2
    cases w1 with
    | list ho hall => exact ⟨_, _, ns, rfl, rfl, ho, ints_of_wellAll ns _ hall, hlen⟩

theorem post_true (l : OpenLaw) (args : List WData) : l.row.toRowW.claim.post args (.bool true) args = true :=
  postW_of (r := l.row.toRowW) (X := (true == true))
    (show WShape.has [] (.bool true) .bool = true by first | rfl | decide | simp [WShape.has, WShape.arms, WShape.armsAll])
    (show (WTm.eq .res (.lit (.bool true))).value [] { args := args, res := some (.bool true), after := args } = some (.bool (true == true)) from w_eq_bool (w_res rfl) w_lit) rfl

/-! ### the attachment: holds_open's last premise (the goal 'hc' behind k_head) from a wpAny of the law's body -/
/-- the same from a codeAny of the CALL (for a layer whose function contracts speak of calls) -/
theorem attach_call {l : OpenLaw} {n : Nat} {q : Program} {loose : List Str} {XP : (Str → Option Value) → Heap → Prop} {YP : World → Heap → Prop} {d : DefRec}
    (hn : l.most = some n) (hdf : d.params.defaults = [])
    (call : ∀ (w : World) (s₀ s₁ : Shared) (mg mb : Str → Option Value) (fa : Addr) (o : Obj) (pm cd doc : Value) (a : Addr) (vs : List Value) (ns : List Int),
      Ground q loose [] XP w s₀ mg mb s₁.heap → YP w s₁.heap →
      s₁.heap.get? fa = some o → o.data = .func (docDef d.name d.params d.body d.scope pm cd doc) → s₁.heap.CodeRec cd d.name → mg d.name = some (.ref fa) →
      s₁.heap.get? a = some { cls := .type "list", data := .seq vs.toArray } → IntsAre vs ns → ns.length ≤ n → s₁.gens = #[] →
      codeAny (model l.prog w) callerA (.call (.ref fa) ⟨[.ref a], []⟩) (fun r s' => r = .ok (.ret (.bool true)) ∧ OldK s₁.heap s'.heap ∧ s'.os = s₁.os ∧ AllBare s'.gens) s₁) :
    WalkO q loose XP YP l.row.toRowW d [] (fun f vs => PySem.call f vs) := by
  intro w s₀ s₁ mg mb G Y fa o pm cd doc dV kV ho hd hcd hD hmg hg args vals as hpre hlay hrd hwl hlo
  obtain rfl : dV = .none := Dflts.none hD hdf
  obtain rfl : kV = .none := Dflts.noKw hD
  obtain ⟨a, vs, ns, rfl, rfl, hobj, hints, hlen⟩ := script_of hn hpre hwl
  refine enter_call (codeAny_mono (call w s₀ s₁ mg mb fa o pm cd doc a vs ns G Y ho (fd_plain hd) hcd hmg hobj hints hlen hg) fun r s' hq => ?_)
  obtain ⟨rfl, h2, h3, h4⟩ := hq
  exact ⟨.inl ⟨.bool true, .bool true, [], rfl, fun _ => rfl, .bool true, post_true l _, fun _ => ⟨List.Pairwise.nil, fun _ hm => (nomatch hm)⟩⟩, h2, h3, h4⟩

/-! ### rules over ANY heap (no ledger) from facts about the written part K: the library's own take a ledger (News) for what they write -/
section
variable {prog : Program} {w : World} {A : Around} {E : Value → Shared → Prop} {s : Shared} {K : Frag}

/-! the whole heap as the ledger: makes every rule that writes through a ledger a rule over any heap -/
noncomputable def ledger (h : Heap) (L d : Addr) : List (Addr × Obj) := (List.range h.objs.size).filterMap fun a => if a = L ∨ a = d then none else (h.get? a).map fun o => (a, o)
end
end Att

namespace L2
open PySem PySem.Spec PyProof.Rows

theorem vals_ints : ∀ {vs : List Value} {ns : List Int}, IntsAre vs ns → Vals (ns.map V.int) vs
  | _, _, .nil => .nil
  | _, _, .cons n t h => .cons ⟨t, rfl⟩ (vals_ints h)

/-- nothing is tracked but the script, known to the object (or it is an object of the module) -/
noncomputable def Only (H : Hp) : Prop := ∀ b, H b = none ∨ ∃ o xs, H b = some (.frz o (.lst xs))

/-- THE HEAD: the law's promise, at the heap behind the top. F, the promise of the law's def, may use that base is part of the heap (so K.In base, base.Ns mainGlobals mg stand in Mod) -/
theorem law_call {P : Program} {w : World} {K : PySem.W.Frag} {mg mb : Str → Option Value} {CX : CXT} {k : Nat} {fa a : Addr} {fd : FuncData} {x : Str} {sp : Sp} {s₁ : Shared} {vs : List Value} {ns : List Int}
    (KX : K.In s₁.heap) (hns : s₁.heap.Ns mainGlobals mg) (hb : s₁.heap.Ns builtinsNs mb) (hbb : ∀ x : Str, x ≠ "__name__" → mb x = bootBuiltins x) (hlim : s₁.heap.NoLimit) (hg : s₁.gens = #[])
    (ha : s₁.heap.get? a = some { cls := .type "list", data := .seq vs.toArray }) (hi : IntsAre vs ns) (hl : ns.length ≤ sizeLine) (hr : Room k callerA)
    (F : ∀ base : Heap, K.In base → base.Ns mainGlobals mg → FnOk P w K mg base CX k fa fd [x] sp) (hbind : ∀ (s : Shared) (u : Value), BindsTo s fd ⟨[u], []⟩ [(x, u)])
    (hsp : ∀ H : Hp, Only H → SqL K H a (ns.map V.int) → sp [.ref a] H (fun v _ => v = .bl true) fun _ _ _ => False)
    (hCX : ∀ H e s', CX [] H s₁ (fun _ _ _ => False) e s' → False) :
    codeAny (model P w) callerA (.call (.ref fa) ⟨[.ref a], []⟩) (fun r s' => r = .ok (.ret (.bool true)) ∧ OldK s₁.heap s'.heap ∧ s'.os = s₁.os ∧ AllBare s'.gens) s₁ := by
  have rv := vals_ints hi
  have lenV := hi.length
  -- from an abstract heap in which nothing but the script may be tracked
  have core : ∀ H : Hp, Only H → SqL K H a (ns.map V.int) → HOk P w H s₁.heap → (∀ b, H b ≠ none → b = a) → (H a ≠ none → K.lookup a = none) →
      codeAny (model P w) callerA (.call (.ref fa) ⟨[.ref a], []⟩) (fun r s' => r = .ok (.ret (.bool true)) ∧ OldK s₁.heap s'.heap ∧ s'.os = s₁.os ∧ AllBare s'.gens) s₁ := by
    intro H hO hS hok hA hK
    have base_of : ∀ {b : Addr} {o : Obj}, s₁.heap.get? b = some o → H b = none → (hidT s₁.heap H).get? b = some o := fun e n => hidT_get e n
    have noA : ∀ {b : Addr} {o : Obj} {es : Array DictEntry} {ep : Nat}, s₁.heap.get? b = some o → o.data = .dict es ep → H b = none := fun {b o es ep} e d => by
      cases q : H b with
      | none => rfl
      | some u =>
        have e' : b = a := hA b (by rw [q]; simp)
        subst e'
        rw [ha] at e; cases e
        have d' : Data.seq vs.toArray _ = Data.dict es ep := d
        cases d'
    have nsK : ∀ {b : Addr} {m : Str → Option Value}, s₁.heap.Ns b m → (hidT s₁.heap H).Ns b m := fun {b m} ⟨o, es, ep, e, d, r⟩ => ⟨o, es, ep, base_of e (noA e d), d, r⟩
    have hKb : K.In (hidT s₁.heap H) := fun b o e => base_of (KX b o e) (by
      cases q : H b with
      | none => rfl
      | some u =>
        have e' : b = a := hA b (by rw [q]; simp)
        subst e'
        rw [hK (by rw [q]; simp)] at e; cases e)
    have hM : Mod K mg (hidT s₁.heap H) := ⟨hKb, nsK hns, ⟨mb, nsK hb, hbb⟩, let ⟨mc, h1, h2⟩ := hlim; ⟨mc, nsK h1, h2⟩⟩
    have e0 : Env0 P w K mg (hidT s₁.heap H) callerA [] s₁ H := ⟨rfl, hM, fun b o e => of_hidT e, Nat.le_of_eq (hidT_size _ _), trivial, fun b hb => absurd (show b ∈ ([] : List Addr) from hb) (by simp), hok, .of_eq hg⟩
    refine codeAny_mono ((F _ hKb (nsK hns)).run callerA [] s₁ H ⟨[.ref a], []⟩ [.ref a] [.ref a] _ _ hr e0 (hbind s₁ (.ref a)) (.cons rfl .nil) (hsp H hO hS)) fun r s' h => ?_
    cases r with
    | error e => exact (hCX H e s' h).elim
    | ok fl =>
      cases fl with
      | next => exact False.elim h
      | brk => exact False.elim h
      | cont => exact False.elim h
      | ret u =>
        obtain ⟨v, H', os, bare, un, hok', r', q⟩ := h
        have q' : v = .bl true := q
        subst q'
        obtain rfl : u = Value.bool true := r'
        refine ⟨rfl, OldK.of_keep fun b o e => ?_, os, bare⟩
        cases q : H b with
        | none => exact un.keep b o e q (by intro z; exact absurd (show b ∈ ([] : List Addr) from z) (by simp)) (by simp)
        | some u =>
          rcases hO b with z | ⟨ob, xs, z⟩
          · rw [q] at z; cases z
          · have z2 := un.frzs b ob _ z
            obtain ⟨e1, _⟩ := hok b _ z
            obtain ⟨e2, _⟩ := hok' b _ z2
            rw [e] at e1; cases e1
            exact e2
  cases hk : K.lookup a with
  | some o =>
    -- the script is one of the module's own objects
    have e := KX a o hk
    rw [ha] at e
    cases e
    refine core (fun _ => none) (fun _ => .inl rfl) (.inr ⟨_, vs.toArray, _, hk, rfl, rfl, rfl, by rw [List.size_toArray, lenV]; exact hl, by simpa using rv⟩) (fun b u z => by have z' : (none : Option HO) = some u := z; cases z') (fun b z => absurd rfl z) fun z => absurd rfl z
  | none =>
    refine core (fun b => if b = a then some (.frz { cls := .type "list", data := .seq vs.toArray } (.lst (ns.map V.int))) else none) (fun b => ?_) (.inl (.inr ⟨{ cls := .type "list", data := .seq vs.toArray }, if_pos rfl⟩)) (fun b u z => ?_) (fun b z => ?_) fun _ => hk
    · by_cases hb : b = a
      · exact .inr ⟨_, _, if_pos hb⟩
      · exact .inl (if_neg hb)
    · by_cases hb : b = a
      · have z' := (if_pos hb).symm.trans z
        cases z'
        subst hb
        exact ⟨ha, by rw [List.length_map]; exact hl, vs, _, rv, ha⟩
      · have z' := (if_neg hb).symm.trans z
        cases z'
    · by_cases hb : b = a
      · exact hb
      · exact absurd (if_neg hb) z
end L2

namespace L2
open PySem PySem.Spec PyProof.Rows

noncomputable abbrev KOf {K : PySem.W.Frag} {h : Heap} (_ : K.In h) : PySem.W.Frag := K

/-- the goal that k_head leaves (case hc), from the law's promise. F gives the function object fd (K's own) once, then the promise over every base -/
theorem walk_of {l : PySem.W.OpenLaw} {n k : Nat} {q : Program} {loose : List Str} {XP : (Str → Option Value) → Heap → Prop} {YP : World → Heap → Prop} {d : DefRec} {K : Params → PySem.W.Frag} {CX : World → CXT} {sp : World → Sp} {x : Str}
    (hn : l.most = some n) (hn2 : n ≤ sizeLine) (hdf : d.params.defaults = []) (hr : Room k callerA)
    (hY : ∀ (w : World) (h : Heap), YP w h → (K w.params).In h)
    (F : ∀ (w : World) (mg : Str → Option Value) (fa : Addr) (h : Heap), (K w.params).In h → h.Ns mainGlobals mg → mg d.name = some (.ref fa) →
      ∃ fd : FuncData, (∀ (s : Shared) (u : Value), BindsTo s fd ⟨[u], []⟩ [(x, u)]) ∧
        ∀ base : Heap, (K w.params).In base → base.Ns mainGlobals mg → FnOk l.prog w (K w.params) mg base (CX w) k fa fd [x] (sp w))
    (hsp : ∀ (w : World) (H : Hp) (a : Addr) (ns : List Int), ns.length ≤ n → Only H → SqL (K w.params) H a (ns.map V.int) → sp w [.ref a] H (fun v _ => v = .bl true) fun _ _ _ => False)
    (hCX : ∀ (w : World) (H : Hp) (s : Shared) (e : Value) (s' : Shared), CX w [] H s (fun _ _ _ => False) e s' → False) :
    PySem.W.WalkO q loose XP YP l.row.toRowW d [] (fun f vs => PySem.call f vs) := by
  refine Att.attach_call hn hdf fun w s₀ s₁ mg mb fa o pm cd doc a vs ns G Y ho hd hcd hmg hobj hints hlen hg => ?_
  have KX := hY w _ Y
  obtain ⟨fd, hb, hF⟩ := F w mg fa _ KX G.T.g hmg
  exact law_call KX G.T.g G.T.b G.T.builtins G.T.nolimit hg hobj hints (Nat.le_trans hlen hn2) hr hF hb (fun H hO hS => hsp w H a ns hlen hO hS) fun H e s' => hCX w H s₁ e s'
end L2

/- THE LAST THEOREM (shape; LID, My.* are yours):
   My.Adr: a structure of the addresses that your layer names (classes, functions); My.Txt K t: a structure (Prop) of the equations over K;
   My.txt_mk : {K} {implicit addresses ..} (e1 : nsIn K mainGlobals "law" = some (some (.ref f))) (e2 : K.lookup f = some ⟨oc, od, .func (fnOf "law" "law" params body scope dV kV doc pm an cdv ct), sl⟩) (e3 : codeIn K cdv "law" = true) .. : ∃ t, My.Txt K t

set_option maxRecDepth 100000 in
set_option maxHeartbeats 0 in
theorem PySem.Challenge.cw_LID_holds : PySem.Challenge.rw_LID.Holds := by
  w_on; o_law; k_head; (case hw => w_witness2)
  k_fill
  refine L2.walk_of (l := PySem.Challenge.rw_LID) (n := 63) (k := 40) (x := "script") (CX := fun w => ..) (sp := fun _ => My.sp_law) rfl (by decide) rfl ⟨rfl, by decide, by decide⟩ (fun w h Y => PySem.W.kIn_of Y) ?F ?S ?C
  case F =>
    intro w mg fa h KX G hmg
    have T : ∃ t, My.Txt (L2.KOf KX) t := by
      dsimp only [L2.KOf]                          -- K must stand as «<heap const> w.params» for k_is
      refine' My.txt_mk ?e1 ?e2 ?e3 ..
      (case e1 => PySem.W.k_is)                    -- in the order: a name -> its address -> its object -> its parts
      (case e2 => PySem.W.k_is)
      ..
    obtain ⟨t, T⟩ := T
    have e0 := hmg.symm.trans (PySem.W.mg_of KX G T.law)
    cases e0                                       -- fa is the law's own address
    exact ⟨_, fun s u => .of_eq rfl, fun base kb nb => My.law_fn T kb nb⟩     -- if «.of_eq rfl» comes too early: refine' ⟨_, ?b, fun base kb nb => My.law_fn T kb nb⟩; exact fun s u => .of_eq rfl
  case S => exact fun w H a ns hl hO hS => ..
  case C => exact ..
(the tactic k_is has no namespace: write k_is) -/

/-! SHORT WORDS over the layer: a def of the text, its body, what a loop and a test want. -/
namespace L2
open PySem PySem.Spec PyProof.Rows

/-! ### the text by places -/
/-- the j-th statement of a class's body -/
noncomputable def inClass (s : Stmt) (j : Nat) : Stmt := match s with
  | .ClassDef _ _ _ body _ _ _ _ _ _ _ => body.getD j (.Pass ⟨0, 0, 0, 0⟩)
  | _ => .Pass ⟨0, 0, 0, 0⟩
noncomputable def defArgs (s : Stmt) : Arguments := match s with
  | .FunctionDef _ a _ _ _ _ _ _ _ _ => a
  | _ => { posonlyargs := [], args := [], vararg := none, kwonlyargs := [], kw_defaults := [], kwarg := none, defaults := [] }
noncomputable def defBody (s : Stmt) : List Stmt := match s with
  | .FunctionDef _ _ b _ _ _ _ _ _ _ => b
  | _ => []
noncomputable def defScope (s : Stmt) : Scope := match s with
  | .FunctionDef _ _ _ _ _ _ sc _ _ _ => sc
  | _ => { kind := .function, names := [], isGenerator := false, isCoroutine := false }

/-! ### no exception leaves a def -/
noncomputable abbrev CX0 : CXT := fun _ _ _ _ _ _ => False
noncomputable abbrev E0 : XK := fun _ _ _ => False
theorem pass0 {X : Cx} : Passes CX0 X E0 := fun _ _ _ _ _ _ _ h => h.elim

/-! ### a def (or method) of the text as it stands behind the top -/
structure Fun (K : PySem.W.Frag) (x qual : Str) (st : Stmt) (f : Addr) (fd : FuncData) : Prop where
  ex : ∃ (oc : Value) (od : Option Addr) (kV doc pm : Value) (an : Option Addr) (cdv ct : Value) (osl : Array (Option Value)),
    fd = PySem.W.fnOf x qual (defArgs st) (defBody st) (defScope st) .none kV doc pm an cdv ct ∧ K.lookup f = some ⟨oc, od, .func fd, osl⟩ ∧ PySem.W.codeIn K cdv qual = true
  kp : PySem.W.keepIn K (.ref f) = true
section
variable {P : Program} {w : World} {K : PySem.W.Frag} {mg : Str → Option Value} {base : Heap}
/-- THE RULE for a def: its body as a term of rules, and the reading of that term -/
theorem Fun.ok {x qual : Str} {st : Stmt} {f : Addr} {fd : FuncData} {N ps : List Str} {k : Nat} {sp : Sp} (F : Fun K x qual st f fd) (S : FnScope N ps (defScope st)) (len : ∀ vs H Q E, sp vs H Q E → vs.length = ps.length)
    (hbody : ∀ (cdv : Value) (A : Around) (outer : List Env) (s : Shared) (H : Hp) (vs : List V) (Q : VK) (E : XK), Room k (A.deeper (envOfC qual (defScope st) s.heap.objs.size f cdv)) → sp vs H Q E →
      ∃ t, PSs (cxOf CX0 P w K mg base N qual (defScope st) f cdv A outer s H E).nox (defBody st) t ∧ t { nx := fun _ H' => Q .non H', rt := Q } (start N vs) H) : FnOk P w K mg base CX0 (k + 1) f fd ps sp := by
  obtain ⟨oc, od, kV, doc, pm, an, cdv, ct, osl, rfl, lk, hcd⟩ := F.ex
  refine fn_of lk hcd S len fun A outer s H vs Q E hr hsp => ?_
  obtain ⟨t, h, q⟩ := hbody cdv A outer s H vs Q E hr hsp
  exact ⟨t, h.nox, q⟩
/-- how its arguments bind (no defaults): h is «fun _ _ _ _ _ _ us hl => match us, hl with | [_, _], _ => rfl», one _ a parameter -/
theorem Fun.binds {x qual : Str} {st : Stmt} {f : Addr} {fd : FuncData} {ps : List Str} (F : Fun K x qual st f fd)
    (h : ∀ (kV doc pm : Value) (an : Option Addr) (cdv ct : Value) (us : List Value), us.length = ps.length → bindArgs (PySem.W.fnOf x qual (defArgs st) (defBody st) (defScope st) .none kV doc pm an cdv ct) ⟨us, []⟩ = pure (ps.zip us)) : Binds K fd ps [] := by
  obtain ⟨oc, od, kV, doc, pm, an, cdv, ct, osl, rfl, lk, hcd⟩ := F.ex
  exact .all (h kV doc pm an cdv ct)
theorem fun_mk {x qual : Str} {st : Stmt} {f : Addr} {oc : Value} {od an : Option Addr} {osl : Array (Option Value)} {kV doc pm cdv ct : Value} (l : K.lookup f = some ⟨oc, od, .func (PySem.W.fnOf x qual (defArgs st) (defBody st) (defScope st) .none kV doc pm an cdv ct), osl⟩)
    (c : PySem.W.codeIn K cdv qual = true) (k : PySem.W.keepIn K (.ref f) = true) : Fun K x qual st f (PySem.W.fnOf x qual (defArgs st) (defBody st) (defScope st) .none kV doc pm an cdv ct) := ⟨⟨oc, od, kV, doc, pm, an, cdv, ct, osl, rfl, l, c⟩, k⟩
end
theorem small1000 {n : Nat} (h : n ≤ 1000) : n < sizeLine := Nat.lt_of_le_of_lt h (by decide)

/-! ### expressions in short: the name that stands in the i-th slot -/
section
variable {X : Cx}
theorem pv (i : Nat) {x : Str} {pos : Pos} (hN : X.N[i]? = some x := by rfl) (hv : Vis X.env.scope x := by first | exact Or.inl rfl | exact Or.inr (Or.inl rfl) | exact Or.inr (Or.inr rfl)) (hd : (x == ("__debug__" : Str)) = false := by decide)
    (hcd : (x == ("__classdict__" : Str)) = false := by decide) : PE X (.Name x pos) (tVar i) := pe_var hN hv hd hcd
end

/-! ### tests -/
theorem iteF {A B : Prop} (h : B) : if false = true then A else B := by
  rw [if_neg Bool.false_ne_true]
  exact h
theorem iteT {A B : Prop} (h : A) : if true = true then A else B := by
  rw [if_pos rfl]
  exact h
/-! ### heaps -/
/-- all that was tracked is as it was -/
noncomputable def Same (H H' : Hp) : Prop := ∀ b o, H b = some o → H' b = some o
theorem Same.refl (H : Hp) : Same H H := fun _ _ h => h
theorem Same.trans {H H1 H2 : Hp} (a : Same H H1) (b : Same H1 H2) : Same H H2 := fun c o h => b c o (a c o h)
theorem Same.free {H H' : Hp} (e : Same H H') {l : Addr} (h : H' l = Option.none) : H l = Option.none := by
  cases q : H l with
  | none => rfl
  | some o =>
    rw [e l o q] at h
    cases h
theorem Same.seq {K : PySem.W.Frag} {H H' : Hp} {a : Addr} {xs : List V} (e : Same H H') (h : SqL K H a xs) : SqL K H' a xs := by
  rcases h with (h | ⟨o, h⟩) | h
  · exact .inl (.inl (e _ _ h))
  · exact .inl (.inr ⟨o, e _ _ h⟩)
  · exact .inr h

end L2

/-! ### whole numbers that lean on the frame (and what is read of the heap) alone -/
namespace L2
open PySem PySem.Spec PyProof.Rows
/-- the int in slot i -/
noncomputable def gI (σ : St) (i : Nat) : Int := match σ[i]? with
  | some (some (.int n)) => n
  | _ => 0
noncomputable def hI (σ : St) (i : Nat) : Prop := σ[i]? = some (some (.int (gI σ i)))
/-- a number g under C, the heap stays -/
noncomputable def tN (C : St → Hp → Prop) (g : St → Int) : TE := fun σ H Q => C σ H ∧ Q (.int (g σ)) H
/-- a test p under C, the heap stays -/
noncomputable def tP (C : St → Hp → Prop) (p : St → Prop) [∀ σ, Decidable (p σ)] : TT := fun σ H Q => C σ H ∧ Q (decide (p σ)) H
/-- the same as a value -/
noncomputable def tV (C : St → Hp → Prop) (p : St → Prop) [∀ σ, Decidable (p σ)] : TE := fun σ H Q => C σ H ∧ Q (.bl (decide (p σ))) H
/-- several numbers -/
noncomputable def tNs (C : St → Hp → Prop) (g : St → List Int) : TA := fun σ H Q => C σ H ∧ Q ((g σ).map V.int) H
section
variable {X : Cx} {a b : Expr} {pos : Pos} {Ca Cb : St → Hp → Prop} {ga gb : St → Int}
theorem pn_var (i : Nat) {x : Str} (hN : X.N[i]? = some x := by rfl) (hv : Vis X.env.scope x := by first | exact Or.inl rfl | exact Or.inr (Or.inl rfl) | exact Or.inr (Or.inr rfl))
    (hd : (x == ("__debug__" : Str)) = false := by decide) (hcd : (x == ("__classdict__" : Str)) = false := by decide) : PE X (.Name x pos) (tN (fun σ _ => hI σ i) (fun σ => gI σ i)) :=
  fun pins s σ H Q I h => pe_var hN hv hd hcd pins s σ H Q I ⟨_, h.1, h.2⟩
theorem pn_int {i : Int} {j : Nat} : PE X (.Constant (.int i) j pos) (tN (fun _ _ => True) (fun _ => i)) := fun pins s σ H Q I h => pe_int pins s σ H Q I h.2
theorem pn_glob {x : Str} {i : Int} (hg : Gl X x) (hm : ∃ tk, X.mg x = some (.int i tk)) (hd : (x == ("__debug__" : Str)) = false := by decide) : PE X (.Name x pos) (tN (fun _ _ => True) (fun _ => i)) :=
  fun pins s σ H Q I h => let ⟨_, hm⟩ := hm; pe_glob hg hm (v := .int i) ⟨_, rfl⟩ hd pins s σ H Q I h.2
theorem pn_op {op : Operator} {C : Int → Int → Prop} {g : Int → Int → Int} (ho : OpR X (binaryOp op) (rI C fun i j => .int (g i j))) (ha : PE X a (tN Ca ga)) (hb : PE X b (tN Cb gb)) :
    PE X (.BinOp a op b pos) (tN (fun σ H => Ca σ H ∧ Cb σ H ∧ C (ga σ) (gb σ)) (fun σ => g (ga σ) (gb σ))) :=
  fun pins s σ H Q I h => pe_op ho ha hb pins s σ H Q I ⟨h.1.1, h.1.2.1, _, _, rfl, rfl, h.1.2.2, h.2⟩
/-- a product of any two that the machine takes -/
theorem op_mulB : OpR X (binaryOp .Mult) (rI IntMulOk fun i j => .int (i * j)) := opI fun _ _ _ _ _ _ _ hc q => mul_int q hc
/-- // by a positive divisor below 2 ^ 9000 -/
noncomputable def CDivB (_ j : Int) : Prop := 0 < j ∧ j.natAbs.log2 < 9000
theorem op_fdivB : OpR X (binaryOp .FloorDiv) (rI CDivB fun i j => .int (i / j)) := opI fun i j _ _ _ _ _ hc q => by
  have h1 : (0 : Int) < j := hc.1
  exact floordiv_int (by omega) (by rw [Int.fdiv_eq_ediv_of_nonneg i (by omega)]; exact q) (.inl (PyProof.noPylong_of_log2 hc.2))
theorem pn_mul (ha : PE X a (tN Ca ga)) (hb : PE X b (tN Cb gb)) : PE X (.BinOp a .Mult b pos) (tN (fun σ H => Ca σ H ∧ Cb σ H ∧ IntMulOk (ga σ) (gb σ)) (fun σ => ga σ * gb σ)) := pn_op op_mulB ha hb
theorem pn_mod (ha : PE X a (tN Ca ga)) (hb : PE X b (tN Cb gb)) : PE X (.BinOp a .Mod b pos) (tN (fun σ H => Ca σ H ∧ Cb σ H ∧ 0 < gb σ) (fun σ => ga σ % gb σ)) := pn_op op_mod ha hb
theorem pn_neg (ha : PE X a (tN Ca ga)) : PE X (.UnaryOp .USub a pos) (tN Ca (fun σ => -ga σ)) :=
  fun pins s σ H Q I h => pe_un un_neg ha pins s σ H Q I ⟨h.1, _, rfl, h.2⟩
/-! tests -/
theorem pt_cmpN {op : CmpOp} {p : Int → Int → Prop} [∀ i j, Decidable (p i j)] (ho : OpR X (compareOp op) (rI0 fun i j => .bl (decide (p i j)))) (hm : behindInMarks op b = false) (ha : PE X a (tN Ca ga)) (hb : PE X b (tN Cb gb)) :
    PT X (.Compare a [op] [b] pos) (tP (fun σ H => Ca σ H ∧ Cb σ H) (fun σ => p (ga σ) (gb σ))) :=
  fun pins s σ H Q I h => pt_cmpR ho ha hb hm pins s σ H Q I ⟨h.1.1, h.1.2, _, _, rfl, rfl, _, rfl, h.2⟩
theorem op_eqI : OpR X (compareOp .Eq) (rI0 fun i j => .bl (decide (i = j))) := fun pins s σ H x y v u Q I rx ry h => by
  obtain ⟨i, j, rfl, rfl, q⟩ := h
  have q : Q (.bl (decide (i = j))) H := q
  refine op_eq pins s σ H _ _ v u Q I rx ry ⟨rfl, ?_⟩
  rw [dec_int, Bool.beq_eq_decide_eq]
  exact q
theorem op_neI : OpR X (compareOp .NotEq) (rI0 fun i j => .bl (decide (¬ i = j))) := fun pins s σ H x y v u Q I rx ry h => by
  obtain ⟨i, j, rfl, rfl, q⟩ := h
  have q : Q (.bl (decide (¬ i = j))) H := q
  rw [decide_not] at q
  refine op_ne pins s σ H _ _ v u Q I rx ry ⟨rfl, ?_⟩
  rw [dec_int, Bool.beq_eq_decide_eq]
  exact q
theorem ptn_lt (ha : PE X a (tN Ca ga)) (hb : PE X b (tN Cb gb)) : PT X (.Compare a [.Lt] [b] pos) (tP (fun σ H => Ca σ H ∧ Cb σ H) (fun σ => ga σ < gb σ)) := pt_cmpN op_lt (nomark _) ha hb
theorem ptn_le (ha : PE X a (tN Ca ga)) (hb : PE X b (tN Cb gb)) : PT X (.Compare a [.LtE] [b] pos) (tP (fun σ H => Ca σ H ∧ Cb σ H) (fun σ => ga σ ≤ gb σ)) := pt_cmpN op_le (nomark _) ha hb
theorem ptn_gt (ha : PE X a (tN Ca ga)) (hb : PE X b (tN Cb gb)) : PT X (.Compare a [.Gt] [b] pos) (tP (fun σ H => Ca σ H ∧ Cb σ H) (fun σ => gb σ < ga σ)) := pt_cmpN (p := fun i j => j < i) op_gt (nomark _) ha hb
theorem ptn_eq (ha : PE X a (tN Ca ga)) (hb : PE X b (tN Cb gb)) : PT X (.Compare a [.Eq] [b] pos) (tP (fun σ H => Ca σ H ∧ Cb σ H) (fun σ => ga σ = gb σ)) := pt_cmpN op_eqI (nomark _) ha hb
variable {pa pb : St → Prop} [∀ σ, Decidable (pa σ)] [∀ σ, Decidable (pb σ)] {rest : List Expr}
theorem pt_notP (ha : PT X a (tP Ca pa)) : PT X (.UnaryOp .Not a pos) (tP Ca (fun σ => ¬ pa σ)) :=
  fun pins s σ H Q I h => pt_not ha pins s σ H Q I ⟨h.1, by have q := h.2; rw [decide_not] at q; exact q⟩
theorem pw_or1P (ha : PT X a (tP Ca pa)) : PW X (.BoolOp .Or [a] pos) (tP Ca pa) := pw_or1 ha
theorem pw_orP (ha : PT X a (tP Ca pa)) (hb : PW X (.BoolOp .Or (b :: rest) pos) (tP Cb pb)) : PW X (.BoolOp .Or (a :: b :: rest) pos) (tP (fun σ H => Ca σ H ∧ (¬ pa σ → Cb σ H)) (fun σ => pa σ ∨ pb σ)) :=
  fun wh pins s σ H Q I h => pw_or ha hb wh pins s σ H Q I ⟨h.1.1, by
    have q := h.2
    by_cases c : pa σ
    · rw [decide_eq_true (Or.inl c : pa σ ∨ pb σ)] at q
      rw [decide_eq_true c]; refine iteT ?_; exact q
    · rw [decide_eq_false c]; refine iteF ?_
      refine ⟨h.1.2 c, ?_⟩
      have e : decide (pa σ ∨ pb σ) = decide (pb σ) := by simp [c]
      rw [e] at q; exact q⟩
/-- a value that is a test, as a test -/
theorem pt_V {e : Expr} (h : PE X e (tV Ca pa)) (he : ∀ whole, isTrue e X.env whole = (do let v ← whole; standAt e.pos; holding [v] (truthy v)) := by intro _; rfl) : PT X e (tP Ca pa) :=
  fun pins s σ H Q I q => pt_val h he pins s σ H Q I ⟨q.1, _, rfl, q.2⟩
/-! statements -/
noncomputable def tIfP (C : St → Hp → Prop) (p : St → Prop) (t u : TS) : TS := fun D σ H => C σ H ∧ (p σ → t D σ H) ∧ (¬ p σ → u D σ H)
theorem ps_ifP {c : Expr} {x y : List Stmt} {t u : TS} (hc : PT X c (tP Ca pa)) (hx : PSs X x t) (hy : PSs X y u) : PS X (.If c x y pos) (tIfP Ca pa t u) :=
  fun pins s σ H D I h => ps_if hc hx hy pins s σ H D I ⟨h.1, by
    by_cases c : pa σ
    · rw [decide_eq_true c]; refine iteT ?_; exact h.2.1 c
    · rw [decide_eq_false c]; refine iteF ?_; exact h.2.2 c⟩
/-- x = a number: a letter n for it -/
noncomputable def tSetN (i : Nat) (C : St → Hp → Prop) (g : St → Int) : TS := fun D σ H => C σ H ∧ ∀ n, n = g σ → D.nx (σ.set i (some (.int n))) H
theorem ps_setN {i : Nat} {x : Str} {e : Expr} {pos' : Pos} (hN : X.N.Nodup) (hi : X.N[i]? = some x) (hx : Loc X.env.scope x) (he : PE X e (tN Ca ga)) (hs : swapsWith e (some (.Name x pos')) pos.line X.env = pure false := by rfl)
    (hf : X.fn x = true ∨ X.env.scope.names.lookup x = some .local := by first | exact .inl rfl | exact .inr rfl | assumption) : PS X (.Assign [.Name x pos'] e pos) (tSetN i Ca ga) :=
  fun pins s σ H D I h => ps_set hN hi hx he hs hf pins s σ H D I ⟨h.1, h.2 _ rfl⟩
noncomputable def tAugN (i : Nat) (C : St → Hp → Prop) (g : St → Int) (P : Int → Int → Prop) (f : Int → Int → Int) : TS := fun D σ H => hI σ i ∧ C σ H ∧ P (gI σ i) (g σ) ∧ ∀ n, n = f (gI σ i) (g σ) → D.nx (σ.set i (some (.int n))) H
theorem ps_augN {i : Nat} {x : Str} {e : Expr} {op : Operator} {pos' : Pos} {P : Int → Int → Prop} {f : Int → Int → Int} (hN : X.N.Nodup) (hi : X.N[i]? = some x) (hx : Loc X.env.scope x) (he : PE X e (tN Ca ga)) (ho : OpR X (inplaceOp op) (rI P fun i j => .int (f i j)))
    (hf : X.fn x = true ∨ X.env.scope.names.lookup x = some .local := by first | exact .inl rfl | exact .inr rfl | assumption) : PS X (.AugAssign (.Name x pos') op e pos) (tAugN i Ca ga P f) :=
  fun pins s σ H D I h => ps_aug hN hi hx he ho hf pins s σ H D I ⟨_, h.1, h.2.1, _, _, rfl, rfl, h.2.2.1, h.2.2.2 _ rfl⟩
theorem iop_addT : OpR X (inplaceOp .Add) (rI (fun _ _ => True) fun i j => .int (i + j)) := fun pins s σ H x y v u Q I rx ry h => by
  obtain ⟨i, j, e1, e2, _, q⟩ := h
  exact iop_add pins s σ H x y v u Q I rx ry ⟨i, j, e1, e2, q⟩
/-- a while whose test is one of numbers: an invariant W, a measure μ -/
noncomputable def tWhileP (C : St → Hp → Prop) (p : St → Prop) (tb : TS) : TS := fun D σ H => ∃ (W : St → Hp → Prop) (μ : St → Hp → Nat), W σ H ∧
  ∀ σ H, W σ H → C σ H ∧ (p σ → tb { D with nx := fun σ' H' => W σ' H' ∧ μ σ' H' < μ σ H, ct := fun σ' H' => W σ' H' ∧ μ σ' H' < μ σ H, bk := D.nx } σ H) ∧ (¬ p σ → D.nx σ H)
theorem ps_whileP {c : Expr} {body : List Stmt} {tb : TS} (hp : PassesOwn (model X.prog X.w) X.A X.env X.xe) (hc : PT X c (tP Ca pa)) (hb : PSs X body tb) : PS X (.While c body [] pos) (tWhileP Ca pa tb) :=
  fun pins s σ H D I h => ps_while hp hc hb pins s σ H D I (by
    obtain ⟨W, μ, w0, st⟩ := h
    refine while_by W μ w0 (fun σ H w => ?_) (fun σ H Q Q' m q => ⟨q.1, m _ _ q.2⟩)
    obtain ⟨c1, c2, c3⟩ := st σ H w
    refine ⟨c1, ?_⟩
    by_cases c : pa σ
    · rw [decide_eq_true c]; refine iteT ?_; exact c2 c
    · rw [decide_eq_false c]; refine iteF ?_; exact c3 c)
end
/-! a list that nothing holds any more is forgotten -/
section
variable {X : Cx} {pins : List (Addr × Obj)} {σ : St} {H : Hp} {s : Shared} {p : Addr} {xs : List V}
end
section
variable {X : Cx} {b : Expr} {es : List Expr} {pos p1 : Pos} {Cb C : St → Hp → Prop} {gb : St → Int}
theorem atI_int {ns : List Int} {i : Int} (h0 : 0 ≤ i) (h1 : i < (ns.length : Int)) : atI (ns.map V.int) i = some (V.int (ns.getD i.toNat 0)) := by
  have e : i = ((i.toNat : Nat) : Int) := by omega
  have l : i.toNat < ns.length := by omega
  have q : atI (ns.map V.int) ((i.toNat : Nat) : Int) = some (V.int (ns.getD i.toNat 0)) := atI_nat (by rw [List.getElem?_map, List.getElem?_eq_getElem l, List.getD_eq_getElem?_getD, List.getElem?_eq_getElem l]; rfl)
  rw [← e] at q
  exact q
/-- an item of a list of numbers that stands in slot j; the place of any sign -/
noncomputable def tItem (K : PySem.W.Frag) (j : Nat) (C : St → Hp → Prop) (g : St → Int) : TE := fun σ H Q => C σ H ∧ ∃ (a : Addr) (ns : List Int) (n : Int), σ[j]? = some (some (.ref a)) ∧ SqL K H a (ns.map V.int) ∧ atI (ns.map V.int) (g σ) = some (.int n) ∧ Q (.int n) H
theorem pe_item (j : Nat) {x : Str} {px : Pos} (hb : PE X b (tN C gb)) (hs : PlainIx b) (hN : X.N[j]? = some x := by rfl) (hv : Vis X.env.scope x := by first | exact Or.inl rfl | exact Or.inr (Or.inl rfl) | exact Or.inr (Or.inr rfl))
    (hd : (x == ("__debug__" : Str)) = false := by decide) (hcd : (x == ("__classdict__" : Str)) = false := by decide) : PE X (.Subscript (.Name x px) b pos) (tItem X.K j C gb) := by
  intro pins s σ H Q I h
  obtain ⟨c, a, ns, n, e1, e2, e3, q⟩ := h
  exact pe_ix ix_list (pe_var hN hv hd hcd) hb hs pins s σ H Q I ⟨_, e1, c, a, _, _, _, rfl, rfl, e2, e3, q⟩
/-- the same where the list a and its numbers ns are known beforehand -/
theorem pn_item (j : Nat) (a : Addr) (ns : List Int) {x : Str} {px : Pos} (hb : PE X b (tN C gb)) (hs : PlainIx b) (hN : X.N[j]? = some x := by rfl) (hv : Vis X.env.scope x := by first | exact Or.inl rfl | exact Or.inr (Or.inl rfl) | exact Or.inr (Or.inr rfl))
    (hd : (x == ("__debug__" : Str)) = false := by decide) (hcd : (x == ("__classdict__" : Str)) = false := by decide) :
    PE X (.Subscript (.Name x px) b pos) (tN (fun σ H => C σ H ∧ σ[j]? = some (some (.ref a)) ∧ SqL X.K H a (ns.map V.int) ∧ -(ns.length : Int) ≤ gb σ ∧ gb σ < (ns.length : Int)) (fun σ => ns.getD (if 0 ≤ gb σ then gb σ else gb σ + ns.length).toNat 0)) := by
  intro pins s σ H Q I h
  obtain ⟨⟨c, e1, e2, b1, b2⟩, q⟩ := h
  refine pe_ix ix_list (pe_var hN hv hd hcd) hb hs pins s σ H Q I ⟨_, e1, c, a, _, _, _, rfl, rfl, e2, ?_, q⟩
  show atI (ns.map V.int) (gb σ) = some (V.int (ns.getD (if 0 ≤ gb σ then gb σ else gb σ + ns.length).toNat 0))
  by_cases c0 : 0 ≤ gb σ
  · rw [if_pos c0]; exact atI_int c0 b2
  · rw [if_neg c0]
    have q2 := atI_int (ns := ns) (i := gb σ + ns.length) (by omega) (by omega)
    unfold atI ixN at q2 ⊢
    rw [List.length_map] at q2 ⊢
    rw [if_pos (show 0 ≤ gb σ + (ns.length : Int) by omega), if_pos (show gb σ + (ns.length : Int) < (ns.length : Int) by omega)] at q2
    rw [if_neg c0, if_pos b1]
    exact q2
/-- len(x), x a list known beforehand -/
theorem pn_len (j : Nat) (a : Addr) (xs : List V) {x : Str} {px p : Pos} (hm : X.mg "len" = none) (hN : X.N[j]? = some x := by rfl) (hg : Gl X "len" := by rfl) (hv : Vis X.env.scope x := by first | exact Or.inl rfl | exact Or.inr (Or.inl rfl) | exact Or.inr (Or.inr rfl))
    (hd : (x == ("__debug__" : Str)) = false := by decide) (hcd : (x == ("__classdict__" : Str)) = false := by decide) (he : starEach [.Name x px] X.env = [(false, eval (.Name x px) X.env)] := by rfl) :
    PE X (.Call (.Name "len" p) [.Name x px] [] pos) (tN (fun σ H => σ[j]? = some (some (.ref a)) ∧ SqL X.K H a xs) (fun _ => (xs.length : Int))) := by
  intro pins s σ H Q I h
  exact pe_callB call_len_seq hg hm PySem.boot_len (pa_cons (pe_var hN hv hd hcd) pa_nil he) (by decide) (by decide) he rfl pins s σ H Q I ⟨_, h.1.1, a, _, rfl, .inl h.1.2, h.2⟩
end
/-! calls of defs that tell numbers of numbers -/
section
variable {X : Cx} {e : Expr} {es : List Expr} {pos p : Pos} {Ca Cb : St → Hp → Prop} {ga : St → Int} {gs : St → List Int}
theorem pns_nil : PA X [] (tNs (fun _ _ => True) (fun _ => [])) := fun pos pins s σ H Q I h => pa_nil pos pins s σ H Q I h.2
theorem pns_cons (ha : PE X e (tN Ca ga)) (hr : PA X es (tNs Cb gs)) (hs : starEach (e :: es) X.env = (false, eval e X.env) :: starEach es X.env := by rfl) : PA X (e :: es) (tNs (fun σ H => Ca σ H ∧ Cb σ H) (fun σ => ga σ :: gs σ)) :=
  fun pos pins s σ H Q I h => pa_cons ha hr hs pos pins s σ H Q I ⟨h.1.1, h.1.2, h.2⟩
end
/-- numbers in, True or False out -/
noncomputable def spB (n : Nat) (pre : List Int → Prop) (F : List Int → Bool) : Sp := fun vs H Q _ => ∃ ns : List Int, ns.length = n ∧ vs = ns.map V.int ∧ pre ns ∧ Q (.bl (F ns)) H
/-- a def of the text under its name keeps the promise sp -/
structure Ok (P : Program) (w : World) (K : PySem.W.Frag) (mg : Str → Option Value) (base : Heap) (k : Nat) (x : Str) (ps : List Str) (sp : Sp) : Prop where
  ex : ∃ f fd, FnOk P w K mg base CX0 k f fd ps sp ∧ Binds K fd ps [] ∧ PySem.W.keepIn K (.ref f) = true ∧ mg x = some (.ref f)
theorem Ok.imp {P : Program} {w : World} {K : PySem.W.Frag} {mg : Str → Option Value} {base : Heap} {k : Nat} {x : Str} {ps : List Str} {sp sp' : Sp} (o : Ok P w K mg base k x ps sp) (h : ∀ vs H Q E, sp' vs H Q E → sp vs H Q E) : Ok P w K mg base k x ps sp' := by
  obtain ⟨f, fd, a, b⟩ := o.ex
  exact ⟨f, fd, a.imp h, b⟩
section
variable {X : Cx} {e : Expr} {es : List Expr} {pos p : Pos} {j k : Nat} {x : Str} {ps : List Str} {sp : Sp} {t : TA}
theorem pe_callO (o : Ok X.prog X.w X.K X.mg X.base j x ps sp) (hr : Room k X.A) (ha : PA X (e :: es) t) (hj : j ≤ k := by decide) (hg : Gl X x := by rfl) (hdb : (x == ("__debug__" : Str)) = false := by decide)
    (he : starEach (e :: es) X.env = (false, eval e X.env) :: starEach es X.env := by rfl) (hpl : (backTo pos (starEach es X.env)).any (·.1) = false := by rfl) : PE X (.Call (.Name x p) (e :: es) [] pos) (tCall sp [] E0 t) := by
  obtain ⟨f, fd, F, b, kp, m⟩ := o.ex
  exact pe_call (F.mono hj) hr hg m kp b .nil pass0 ha hdb he hpl
variable {C : St → Hp → Prop} {g : St → List Int} {n : Nat} {pre : List Int → Prop}
theorem pv_call {F : List Int → Bool} (o : Ok X.prog X.w X.K X.mg X.base j x ps (spB n pre F)) (hr : Room k X.A) (ha : PA X (e :: es) (tNs C g)) (hn : ∀ σ, (g σ).length = n := by intro _; rfl) (hj : j ≤ k := by decide) (hg : Gl X x := by rfl)
    (hdb : (x == ("__debug__" : Str)) = false := by decide) (he : starEach (e :: es) X.env = (false, eval e X.env) :: starEach es X.env := by rfl) (hpl : (backTo pos (starEach es X.env)).any (·.1) = false := by rfl) :
    PE X (.Call (.Name x p) (e :: es) [] pos) (tV (fun σ H => C σ H ∧ pre (g σ)) (fun σ => F (g σ) = true)) :=
  fun pins s σ H Q I h => pe_callO o hr ha hj hg hdb he hpl pins s σ H Q I ⟨h.1.1, g σ, hn σ, by rw [List.append_nil], h.1.2, by have q := h.2; rw [Bool.decide_eq_true] at q; exact q⟩
end
/-! ### a def by its promise -/
structure Def (K : PySem.W.Frag) (mg : Str → Option Value) (x : Str) (st : Stmt) (ps : List Str) : Prop where
  ex : ∃ f fd, Fun K x x st f fd ∧ Binds K fd ps [] ∧ mg x = some (.ref f)
section
variable {P : Program} {w : World} {K : PySem.W.Frag} {mg : Str → Option Value} {base : Heap}
theorem Def.ok {x : Str} {st : Stmt} {N ps : List Str} {k : Nat} {sp : Sp} (d : Def K mg x st ps) (S : FnScope N ps (defScope st)) (len : ∀ vs H Q E, sp vs H Q E → vs.length = ps.length)
    (hbody : ∀ (f : Addr) (cdv : Value) (A : Around) (outer : List Env) (s : Shared) (H : Hp) (vs : List V) (Q : VK) (E : XK), Room k (A.deeper (envOfC x (defScope st) s.heap.objs.size f cdv)) → sp vs H Q E →
      ∃ t, PSs (cxOf CX0 P w K mg base N x (defScope st) f cdv A outer s H E).nox (defBody st) t ∧ t { nx := fun _ H' => Q .non H', rt := Q } (start N vs) H) : Ok P w K mg base (k + 1) x ps sp := by
  obtain ⟨f, fd, F, b, m⟩ := d.ex
  exact ⟨f, fd, F.ok S len fun cdv A outer s H vs Q E hr h => hbody f cdv A outer s H vs Q E hr h, b, F.kp, m⟩
theorem Def.mk' {x : Str} {st : Stmt} {ps : List Str} {f : Addr} {fd : FuncData} (F : Fun K x x st f fd) (b : Binds K fd ps []) (m : mg x = some (.ref f)) : Def K mg x st ps := ⟨f, fd, F, b, m⟩
end
end L2

/-! ### isinstance, built-in names, lengths -/
namespace L2
open PySem PySem.Spec PyProof.Rows
theorem bt_int : bootBuiltins "int" = some (.type "int") := by decide +kernel
theorem bt_bool : bootBuiltins "bool" = some (.type "bool") := by decide +kernel
theorem bt_list : bootBuiltins "list" = some (.type "list") := by decide +kernel
theorem bt_len : bootBuiltins "len" = some (.builtin "len") := by decide +kernel
theorem bt_isinstance : bootBuiltins "isinstance" = some (.builtin "isinstance") := by decide +kernel
theorem bt_abs : bootBuiltins "abs" = some (.builtin "abs") := by decide +kernel
/-- the class that a value names -/
noncomputable def clsV : V → Option Value
  | .ty n => some (.type n)
  | .ref a => some (.ref a)
  | _ => none
theorem clsV_rel {c : V} {u cv : Value} (h : clsV c = some cv) (r : RelV c u) : u = cv := by
  cases c with
  | ty n => cases h; exact r
  | ref a => cases h; exact r
  | non => cases h
  | bl _ => cases h
  | int _ => cases h
  | str _ => cases h
  | byt _ => cases h
  | flt _ => cases h
section
variable {X : Cx}
theorem call_isinst : CallR X (.builtin "isinstance") (fun xs H Q => ∃ x c t cv b, xs = [x, c] ∧ clsV c = some cv ∧ TyOf X.K H x t ∧ PySem.W.kitOne X.K t cv = some b ∧ Q (.bl b) H) := by
  intro pins s σ H xs us Q I r h
  obtain ⟨x, c, t, cv, b, rfl, hc, ty, e, q⟩ := h
  obtain ⟨u, w', rfl, r1, r2⟩ := vals2 r
  obtain rfl := clsV_rel hc r2
  exact isinst_ok I r1 ty e fun tk => ⟨.bl b, H, I.tok tk, rfl, q⟩
end
theorem len1 {ns : List Int} (h : ns.length = 1) : ∃ a, ns = [a] := match ns, h with | [a], _ => ⟨a, rfl⟩
theorem len2 {ns : List Int} (h : ns.length = 2) : ∃ a b, ns = [a, b] := match ns, h with | [a, b], _ => ⟨a, b, rfl⟩
theorem same_new {H : Hp} {p : Addr} (h : H p = none) (o : HO) : Same H (upd H p o) := fun b u q => by rw [upd_ne (ne_of_none q h)]; exact q
/-! products that the machine takes -/
theorem bits_le {k : Int} {n : Nat} (h : k.natAbs < 2 ^ n) : Builtin.Int.intBits k ≤ n := by
  unfold Builtin.Int.intBits
  split
  · exact Nat.zero_le _
  · have hk : k.natAbs ≠ 0 := by
      rename_i c
      intro z
      apply c
      first | exact z | (have : k = 0 := by omega
                         simp [this]) | omega
    have := (Nat.log2_lt hk).mpr h
    omega
theorem mul_ok {a b : Int} {n m : Nat} (ha : a.natAbs < 2 ^ n) (hb : b.natAbs < 2 ^ m) (hn : n ≤ 1048576 := by decide) (hm : m ≤ 1048576 := by decide) : IntMulOk a b :=
  .of_bits (Nat.le_trans (bits_le ha) (Nat.le_trans hn (by decide))) (Nat.le_trans (bits_le hb) (Nat.le_trans hm (by decide)))
theorem mul_okR {a b : Int} (h : -(2 ^ 64) < b ∧ b < 2 ^ 64) : IntMulOk a b := .of_right (intBits_le_64 h.1 h.2)
theorem mul_okL {a b : Int} (h : -(2 ^ 64) < a ∧ a < 2 ^ 64) : IntMulOk a b := .of_left (intBits_le_64 h.1 h.2)
end L2

/-! ### list comprehensions: one clause, any target, at most one test -/
namespace L2
open PySem PySem.Spec PyProof.Rows
noncomputable abbrev NoX : Value → Shared → Prop := fun _ _ => False
noncomputable def testsTree (cs : List Expr) (ev : Env) : Sem Bool := forIn cs true fun c r => if r = true then do let ok ← isTrue c ev (eval c ev); pure (ForInStep.yield ok) else pure (ForInStep.yield r)
section
variable {P : Program} {w : World} {A : Around} {R : Result → Shared → Prop} {s : Shared}
theorem comp_loop {el tg src : Expr} {cs : List Expr} {sc : Scope} {at' : Pos} {it acc : Value} {ev : Env} (I : Nat → Shared → Prop)
    (turn : ∀ n s, I n s → wpAny (model P w) A (pyNext it) (fun r s1 => (r = none ∧ R (.ok .next) s1) ∨ ∃ v, r = some v ∧
      wpAny (model P w) A (letOwnedTupleGo tg it v) (fun _ s2 => wpAny (model P w) A (assign tg ev v) (fun _ s3 => wpAny (model P w) A (testsTree cs ev) (fun ok s4 =>
        if ok = true then wpAny (model P w) A (eval el ev) (fun x s5 => wpAny (model P w) A (call (.builtin "list.append") [acc, x]) (fun _ s6 => ∃ m, m < n ∧ I m s6) NoX s5) NoX s4
        else ∃ m, m < n ∧ I m s4) NoX s3) NoX s2) NoX s1) NoX s)
    (n : Nat) (h : I n s) : codeAny (model P w) A (.compLoop (.ListComp el [⟨tg, src, cs, 0⟩] sc at') 0 it acc ev) R s := by
  refine codeAny_loop rfl I (fun n s hI => ?_) n h
  show wpAny _ A ((compTurn (.ListComp el [⟨tg, src, cs, 0⟩] sc at') 0 it acc ev).onRaise (fun z => do noteFrame z ev; theTreesLotGoes z)) _ _ s
  refine wpAny_noted (wpAny_noRaise ?_)
  rw [compTurn_list]
  refine wpAny_bind (wpAny_standAt (wpAny_bind (thn (turn n s hI) fun r s1 h1 => ?_)))
  rcases h1 with ⟨rfl, h1⟩ | ⟨v, rfl, h1⟩
  · exact wpAny_pure h1
  · refine wpAny_bind (thn h1 fun _ s2 h2 => wpAny_bind (thn h2 fun _ s3 h3 => wpAny_bind (thn h3 fun ok s4 h4 => ?_)))
    cases ok with
    | false => exact wpAny_pure ⟨rfl, h4⟩
    | true => exact wpAny_bind (wpAny_bind (thn h4 fun x s5 h5 => wpAny_bind (thn h5 fun _ s6 h6 => wpAny_pure (wpAny_pure ⟨rfl, h6⟩))))
end
/-- the names that the block takes from the def, with their slots there -/
noncomputable def CapOk (X : Cx) (sc : Scope) (cl : List (Str × Addr)) : List Str → List (Option Nat) → Prop
  | [], [] => True
  | _ :: xs, none :: cs => CapOk X sc cl xs cs
  | x :: xs, some i :: cs => (X.N[i]? = some x ∧ Vis X.env.scope x ∧ X.env.kindOf x ≠ some .local ∧ ((relabel sc X.env).names.lookup x = some .cell ∨ (relabel sc X.env).names.lookup x = some .free) ∧ ∃ c, cl.lookup x = some c ∧ X.env.cells.lookup x = some c) ∧ CapOk X sc cl xs cs
  | _, _ => False
noncomputable def SubC (ev : Env) : List (Str × Addr) → Prop
  | [] => True
  | (x, c) :: r => ev.cells.lookup x = some c ∧ SubC ev r
theorem SubC.look {ev : Env} : ∀ {cl : List (Str × Addr)}, SubC ev cl → ∀ {x : Str} {c : Addr}, cl.lookup x = some c → ev.cells.lookup x = some c
  | [], _, x, c, h => by simp at h
  | (y, d) :: r, q, x, c, h => by
    rw [List.lookup_cons] at h
    cases e : x == y with
    | true =>
      rw [e] at h
      have e' : x = y := by simpa using e
      subst e'
      cases h
      exact q.1
    | false => rw [e] at h; exact SubC.look q.2 h
noncomputable def capS (cap : List (Option Nat)) (σ : St) : St := cap.map fun o => match o with
  | some i => (σ[i]?).join
  | none => none
noncomputable def cxComp (X : Cx) (N' : List Str) (sc : Scope) (cl : List (Str × Addr)) (s : Shared) (H : Hp) (fp : List Addr) : Cx :=
  { X with N := N', s₀ := s, H₀ := H, env := compEnvC sc cl s.heap.objs.size X.env, outer := X.stack, ex := fp, fn := fun _ => false, pn := [], xe := NoX }
section
variable {X : Cx} {pins : List (Addr × Obj)} {σ : St} {H : Hp} {s : Shared} {N' : List Str} {sc : Scope} {cl : List (Str × Addr)} {cap : List (Option Nat)} {fp : List Addr}
theorem CapOk.length {X : Cx} {sc : Scope} {cl : List (Str × Addr)} : ∀ {N' : List Str} {cap : List (Option Nat)}, CapOk X sc cl N' cap → cap.length = N'.length
  | [], [], _ => rfl
  | _ :: xs, none :: cs, h => by
    have := CapOk.length (X := X) (sc := sc) (cl := cl) (N' := xs) (cap := cs) h
    simp [this]
  | _ :: xs, some i :: cs, h => by
    have := CapOk.length (X := X) (sc := sc) (cl := cl) (N' := xs) (cap := cs) h.2
    simp [this]
  | [], _ :: _, h => h.elim
  | _ :: _, [], h => h.elim
theorem CapOk.at {X : Cx} {sc : Scope} {cl : List (Str × Addr)} {i : Nat} {x : Str} : ∀ {N' : List Str} {cap : List (Option Nat)} {j : Nat}, CapOk X sc cl N' cap → N'[j]? = some x → cap[j]? = some (some i) →
    X.N[i]? = some x ∧ Vis X.env.scope x ∧ X.env.kindOf x ≠ some .local ∧ ((relabel sc X.env).names.lookup x = some .cell ∨ (relabel sc X.env).names.lookup x = some .free) ∧ ∃ c, cl.lookup x = some c ∧ X.env.cells.lookup x = some c
  | [], [], j, _, h, _ => by simp at h
  | _ :: xs, none :: cs, 0, _, _, h => by simp at h
  | _ :: xs, none :: cs, j + 1, q, h1, h2 => CapOk.at (N' := xs) (cap := cs) (j := j) q (by simpa using h1) (by simpa using h2)
  | y :: xs, some k :: cs, 0, q, h1, h2 => by
    have e1 : y = x := by simpa using h1
    have e2 : k = i := by simpa using h2
    subst e1 e2
    exact q.1
  | _ :: xs, some _ :: cs, j + 1, q, h1, h2 => CapOk.at (N' := xs) (cap := cs) (j := j) q.2 (by simpa using h1) (by simpa using h2)
  | [], _ :: _, _, h, _, _ => h.elim
  | _ :: _, [], _, h, _, _ => h.elim
/-- the block begins -/
theorem Inv.block (I : Inv X pins σ H s) (hk : sc.kind = .function) (hcap : CapOk X sc cl N' cap) (sub : SubC X.env cl)
    (has : ∀ x, ((relabel sc X.env).names.lookup x = some .cell ∨ (relabel sc X.env).names.lookup x = some .free) → ∃ c, cl.lookup x = some c)
    (hf : ∀ b ∈ fp, FpOk X pins H b) (hfo : ∀ b ∈ fp, ∃ o, s.heap.get? b = some o) {h' : Heap} {m : Str → Option Value} {o : Obj} {tk : Nat} (hns : h'.Ns s.heap.objs.size m) (hsb : Heap.SameBut s.heap.objs.size (s.heap.push o) h') :
    Inv (cxComp X N' sc cl s H fp) [] (capS cap σ) H { s with heap := h', toks := tk } := by
  have keep : ∀ b u, s.heap.get? b = some u → h'.get? b = some u := fun b u e =>
    (hsb.2 b (Nat.ne_of_lt (Heap.lt_size e))).trans (Heap.get?_push_of_some _ e)
  refine ⟨⟨I.ok.mod, hk, I.ok.glob, I.ok.blt, Nat.le_refl _, fun x y c h1 h2 => I.ok.inj x y c (sub.look h1) (sub.look h2), has, (fun x c h _ => nomatch h), I.ok.hd, I.ok.frames, .inl rfl,
    fun b hb => ⟨?_, fun x c e => (hf b hb).2.2.2.2.1 x c (sub.look e)⟩, I.bs, Nat.le_trans I.ok.bsz I.sz, fun b u e hb => ?_, fun b hb hb' => ?_, I.stack, I.stkFree⟩,
    rfl, I.bare, Un.kept keep, ⟨m, hns, fun j x v h1 h2 h3 => ?_⟩, fun x c e => ?_, I.hok.fresh (Nat.le_refl _), fun x c e => I.freeC x c (sub.look e), fun p hp => absurd (show p ∈ ([] : List (Addr × Obj)) from hp) (by simp), I.hok.kept keep, ?_⟩
  · obtain ⟨u, e⟩ := hfo b hb
    exact Nat.ne_of_lt (Heap.lt_size e)
  · rcases (hf b hb).2.2.2.1 with z | z
    · exact I.ok.noex b u e z
    · exact absurd (Nat.lt_of_lt_of_le (Heap.lt_size e) (Nat.le_trans I.ok.bsz z)) (Nat.lt_irrefl _)
  · rcases List.mem_cons.mp (I.stkSub b hb') with z | z
    · exact (hf b hb).2.1 z
    · exact (hf b hb).2.2.1 z
  · obtain ⟨m0, hn0, hl0⟩ := I.loc
    have h2' : ((cap.map fun o => match o with | some i => (σ[i]?).join | none => none) : St)[j]? = some (some v) := h2
    rw [List.getElem?_map] at h2'
    cases e : cap[j]? with
    | none => rw [e] at h2'; cases h2'
    | some oi =>
      rw [e] at h2'
      cases oi with
      | none => cases h2'
      | some i =>
        have h4 : (σ[i]?).join = some v := Option.some.inj h2'
        have h5 : σ[i]? = some (some v) := by
          cases z : σ[i]? with
          | none => rw [z] at h4; cases h4
          | some y => rw [z] at h4; cases h4; rfl
        obtain ⟨a1, a2, a3, a4, c, a5, a6⟩ := hcap.at h1 e
        obtain ⟨u, r, l⟩ := hl0 i x v a1 h5 a2
        refine ⟨u, r, .inr ⟨a4, c, a5, ?_⟩⟩
        rcases l with ⟨k, _⟩ | ⟨_, c', e', ic⟩
        · exact absurd k a3
        · rw [a6] at e'
          cases e'
          obtain ⟨oc, h7, h8⟩ := ic
          exact ⟨oc, keep _ _ h7, h8⟩
  · obtain ⟨v, oc, h7, h8⟩ := I.cell x c (sub.look e)
    exact ⟨v, oc, keep _ _ h7, h8⟩
  · show (capS cap σ).length = N'.length
    unfold capS
    rw [List.length_map]
    exact hcap.length
/-- the block ends: back in the def's body -/
theorem Inv.unblock {σ' : St} {H' : Hp} {s' : Shared} {pins' : List (Addr × Obj)} (I : Inv X pins σ H s) (hf : ∀ b ∈ fp, FpOk X pins H b) (J : Inv (cxComp X N' sc cl s H fp) pins' σ' H' s') : Inv X pins σ H' s' :=
  I.call' (ch := fp) J.os J.base J.hok J.bare fun b hb => ⟨(hf b hb).2.2.2.1, (hf b hb).2.1, (hf b hb).2.2.2.2.1, (hf b hb).2.2.2.2.2⟩
end
/-- a turn's end knows what the block took from the def -/
noncomputable def ExtS : St → St → Prop
  | [], [] => True
  | none :: a, _ :: b => ExtS a b
  | some v :: a, y :: b => y = some v ∧ ExtS a b
  | _, _ => False
theorem ExtS.at : ∀ {a b : St}, ExtS a b → ∀ (i : Nat) (v : V), a[i]? = some (some v) → b[i]? = some (some v)
  | [], [], _, i, v, h => by simp at h
  | none :: a, _ :: b, q, 0, v, h => by simp at h
  | none :: a, _ :: b, q, i + 1, v, h => by
    have := ExtS.at (a := a) (b := b) q i v (by simpa using h)
    simpa using this
  | some u :: a, y :: b, q, 0, v, h => by
    have e : u = v := by simpa using h
    rw [q.1, e]
    rfl
  | some u :: a, y :: b, q, i + 1, v, h => by
    have := ExtS.at (a := a) (b := b) q.2 i v (by simpa using h)
    simpa using this
  | [], _ :: _, q, _, _, _ => q.elim
  | none :: _, [], q, _, _, _ => q.elim
  | some _ :: _, [], q, _, _, _ => q.elim
/-- the tests of the clause -/
noncomputable def PTs (X : Cx) (cs : List Expr) (t : TT) : Prop :=
  ∀ (pins : List (Addr × Obj)) (s : Shared) (σ : St) (H : Hp) (Q : Bool → Hp → Prop), Inv X pins σ H s → t σ H Q → wpAny (model X.prog X.w) X.A (testsTree cs X.env) (TP X pins σ Q) X.xe s
theorem pts_nil {X : Cx} : PTs X [] (fun _ H Q => Q true H) := fun _ _ _ H _ I h => wpAny_tests_nil ⟨H, I, h⟩
/-- the loop of the clause: W by the turn, a measure and the numbers made so far -/
noncomputable def lcW (D : Addr) (J : It) (σ : St) (g : TG) (tt : TT) (te : TE) (Q : VK) (W : Nat → Nat → List V → Hp → Prop) : Prop :=
  ∀ i m ys H, W i m ys H → H D = some (.lst ys) ∧ ys.length < sizeLine ∧
    ((J.stop i H ∧ Q (.ref D) H) ∨ (J.go i H ∧ ∀ x H', J.yld i H x H' → g x σ H' fun σ2 H2 => ExtS σ σ2 ∧ tt σ2 H2 fun ok H3 =>
      if ok = true then te σ2 H3 fun y H4 => H4 D = some (.lst ys) ∧ ∃ m', m' < m ∧ W (i + 1) m' (ys ++ [y]) (upd H4 D (.lst (ys ++ [y])))
      else ∃ m', m' < m ∧ W (i + 1) m' ys H3))
noncomputable def tLC (cap : List (Option Nat)) (wi : TI) (g : TG) (tt : TT) (te : TE) : TE := fun σ H Q => wi σ H fun J H1 => ∀ D, H1 D = none → ∃ W : Nat → Nat → List V → Hp → Prop, (∃ m, W 0 m [] (upd H1 D (.lst []))) ∧ lcW D J (capS cap σ) g tt te Q W
section
variable {X : Cx} {pins : List (Addr × Obj)} {σ : St} {H : Hp} {s : Shared} {N' : List Str} {sc : Scope} {cl : List (Str × Addr)} {cap : List (Option Nat)} {fp : List Addr}
  {el tg src : Expr} {cs : List Expr} {at' : Pos} {g : TG} {tt : TT} {te : TE} {J : It} {it : Addr} {tn : Nat → Heap → Prop} {Q : VK}
/-- what a comprehension's clause and scope must be -/
structure LcOk (X : Cx) (N' : List Str) (sc : Scope) (cl : List (Str × Addr)) (cap : List (Option Nat)) : Prop where
  kind : sc.kind = .function
  clos : closureFor sc X.env = pure cl
  nocell : ∀ y ∈ sc.names, y.2 ≠ .cell
  names : ∀ y ∈ sc.names, y.2 = .local → sc.names.lookup y.1 = some .local
  cap : CapOk X sc cl N' cap
  sub : SubC X.env cl
  has : ∀ x, ((relabel sc X.env).names.lookup x = some .cell ∨ (relabel sc X.env).names.lookup x = some .free) → ∃ c, cl.lookup x = some c
theorem lc_ok (kind : sc.kind = .function) (clos : closureFor sc X.env = pure cl) (h1 : (sc.names.all fun y => y.2 != .cell) = true) (h2 : (sc.names.all fun y => y.2 != .local || sc.names.lookup y.1 == some .local) = true)
    (hcap : CapOk X sc cl N' cap) (sub : SubC X.env cl) (h3 : ((relabel sc X.env).names.all fun y => (y.2 != .cell && y.2 != .free) || (cl.lookup y.1).isSome) = true) : LcOk X N' sc cl cap := by
  refine ⟨kind, clos, fun y hy e => ?_, fun y hy e => ?_, hcap, sub, fun x hx => ?_⟩
  · have q := List.all_eq_true.mp h1 y hy
    rw [e] at q
    exact absurd q (by decide)
  · have q := List.all_eq_true.mp h2 y hy
    rw [e] at q
    simpa using q
  · have key : ∀ k, (k = NameKind.cell ∨ k = NameKind.free) → (relabel sc X.env).names.lookup x = some k → ∃ c, cl.lookup x = some c := fun k hk e => by
      have q := List.all_eq_true.mp h3 _ (PySem.mem_of_lookup e)
      rcases hk with rfl | rfl
      · exact Option.isSome_iff_exists.mp (by simpa using q)
      · exact Option.isSome_iff_exists.mp (by simpa using q)
    rcases hx with e | e
    · exact key _ (.inl rfl) e
    · exact key _ (.inr rfl) e
theorem comp_main (L : LcOk X N' sc cl cap) (hc : X.calm = true) (I : Inv X pins σ H s) (T : Turn X.prog X.w X.K tg J fp it tn) (st : tn 0 s.heap) (hf : ∀ b ∈ fp, FpOk X pins H b)
    (hg : ∀ s H fp, PG (cxComp X N' sc cl s H fp) tg g) (ht : ∀ s H fp, PTs (cxComp X N' sc cl s H fp) cs tt) (he : ∀ s H fp, PE (cxComp X N' sc cl s H fp) el te)
    (rd : ∀ D, H D = none → ∃ W : Nat → Nat → List V → Hp → Prop, (∃ m, W 0 m [] (upd H D (.lst []))) ∧ lcW D J (capS cap σ) g tt te Q W)
    {Ex : Value → Shared → Prop} {RR : Value → Addr → Result → Shared → Prop} (hR : ∀ D C m H' s', Inv X pins σ H' s' → s'.heap.Ns C m → FpOk X pins H' C → Q (.ref D) H' → RR (.ref D) C (.ok .next) s') :
    wpAny (model X.prog X.w) X.A (newList []) (fun acc s3 => wpAny (model X.prog X.w) X.A (newFunctionEnv sc X.env.globals cl [] X.env.qual none .none (some X.env)) (fun cv s4 =>
      codeAny (model X.prog X.w) X.A (.compStart (.ListComp el [⟨tg, src, cs, 0⟩] sc at') 0 (.ref it) acc { cv with scope := relabel sc X.env }) (RR acc cv.locals) s4) Ex s3) Ex s := by
  obtain ⟨W, ⟨m0, w0⟩, step⟩ := rd _ I.fresh
  refine wpAny_newObj_type (wpAny_newFunctionEnv L.nocell (by intro y hy; simp at hy) (fun h1 hns hsb => ?_) L.kind)
  have I3 : Inv X pins σ (upd H s.heap.objs.size (.lst [])) { s with heap := s.heap.push { cls := .type "list", dict := none, data := .seq ([] : List Value).toArray } } := I.lnew (its := []) (t' := s.toks) .nil (by show 0 ≤ sizeLine; decide)
  have hfo : ∀ b ∈ fp, ∃ o, s.heap.get? b = some o := fun b hb => let ⟨o, e, _⟩ := T.obj 0 s.heap st b hb; ⟨o, e⟩
  have hf3 : ∀ b ∈ fp, FpOk X pins (upd H s.heap.objs.size (.lst [])) b := fun b hb => by
    obtain ⟨o, e⟩ := hfo b hb
    exact ⟨by rw [upd_ne (Nat.ne_of_lt (Heap.lt_size e))]; exact (hf b hb).1, (hf b hb).2⟩
  dsimp only at hns hsb ⊢
  generalize hs3 : ({ s with heap := s.heap.push { cls := .type "list", dict := none, data := .seq ([] : List Value).toArray } } : Shared) = s3 at I3 hns hsb ⊢
  have hh3 : s3.heap = s.heap.push { cls := .type "list", dict := none, data := .seq ([] : List Value).toArray } := by rw [← hs3]
  have hns : h1.Ns s3.heap.objs.size (fun x => List.lookup x ([] : List (Str × Value)).reverse) := by rw [hh3]; exact hns
  have hsb : Heap.SameBut s3.heap.objs.size (s3.heap.push { cls := .type (if (some X.env).isSome = true then "dict" else "frame"), data := .dict #[] }) h1 := by rw [hh3]; exact hsb
  have hk3 : ∀ b o, s.heap.get? b = some o → s3.heap.get? b = some o := fun b o e => by rw [hh3]; exact Heap.get?_push_of_some _ e
  have J0 := I3.block (N' := N') (cap := cap) (fp := fp) (tk := s3.toks + ([] : List (Str × Value)).length) L.kind L.cap L.sub L.has hf3 (fun b hb => let ⟨o, e⟩ := hfo b hb; ⟨o, hk3 b o e⟩) hns hsb
  have st1 : tn 0 h1 := T.keep 0 s.heap h1 st fun b hb o e => (hsb.2 b (Nat.ne_of_lt (Heap.lt_size (hk3 b o e)))).trans (Heap.get?_push_of_some _ (hk3 b o e))
  have fpx : ∀ {H' : Hp}, (∀ b ∈ fp, H' b = none) → ∀ b ∈ fp, FpOk (cxComp X N' sc cl s3 (upd H s.heap.objs.size (.lst [])) fp) [] H' b := fun hn b hb => by
    obtain ⟨o, e⟩ := hfo b hb
    refine ⟨hn b hb, Nat.ne_of_lt (Heap.lt_size (hk3 b o e)), fun hb' => ?_, .inl hb, fun x c q => (hf b hb).2.2.2.2.1 x c (L.sub.look q), fun p hp => absurd (show p ∈ ([] : List (Addr × Obj)) from hp) (by simp)⟩
    rcases List.mem_cons.mp (I.stkSub b hb') with z | z
    · exact (hf b hb).2.1 z
    · exact (hf b hb).2.2.1 z
  have loop : ∀ s4 : Shared, s4 = { s3 with heap := h1, toks := s3.toks + ([] : List (Str × Value)).length } →
      codeAny (model X.prog X.w) X.A (.compLoop (.ListComp el [⟨tg, src, cs, 0⟩] sc at') 0 (.ref it) (.ref s.heap.objs.size) (compEnvC sc cl s3.heap.objs.size X.env)) (RR (.ref s.heap.objs.size) s3.heap.objs.size) s4 := by
    rintro s4 rfl
    refine comp_loop (fun n s' => ∃ i ys H', Inv (cxComp X N' sc cl s3 (upd H s.heap.objs.size (.lst [])) fp) [] (capS cap σ) H' s' ∧ tn i s'.heap ∧ (∀ b ∈ fp, H' b = none) ∧ W i n ys H') ?_ m0 ⟨0, [], _, J0, st1, fun b hb => (hf3 b hb).1, w0⟩
    rintro n s' ⟨i, ys, H', Ji, sti, fri, wi⟩
    obtain ⟨hD, hlen, hgo⟩ := step i n ys H' wi
    rcases hgo with ⟨hstop, hq⟩ | ⟨hgo, hbody⟩
    · refine thn (T.done (cxComp X N' sc cl s3 (upd H s.heap.objs.size (.lst [])) fp) rfl rfl rfl hc i [] s' _ H' NoX Ji (fpx fri) sti hstop) fun r s1 ⟨hr, J1⟩ => .inl ⟨hr, ?_⟩
      obtain ⟨m1, hm1, _⟩ := J1.loc
      exact hR _ _ m1 H' s1 (I3.unblock hf3 J1) hm1 (I3.fpOk (Nat.le_refl _) J1.free) hq
    · refine thn (T.item (cxComp X N' sc cl s3 (upd H s.heap.objs.size (.lst [])) fp) rfl rfl rfl hc i [] s' _ H' NoX Ji (fpx fri) sti hgo) fun r s1 ⟨u, hr, h4⟩ => .inr ⟨u, hr, thn h4 fun _ s5 ⟨x, H5, J5, r5, y5, st5, fr5⟩ => ?_⟩
      have J5' := J5.pinned (fpx fr5) (T.obj _ _ st5)
      refine thn (hg _ _ _ _ s5 _ H5 x u _ J5' r5 (hbody x H5 y5)) fun _ s6 ⟨σ6, H6, J6, ext, q6⟩ => ?_
      have endT : ∀ {ys' : List V} {H7 : Hp} {s7 : Shared} {m' : Nat}, Inv (cxComp X N' sc cl s3 (upd H s.heap.objs.size (.lst [])) fp) ([] ++ pinsAt fp s5.heap) σ6 H7 s7 → m' < n → W (i + 1) m' ys' H7 →
          ∃ m, m < n ∧ ∃ i ys H', Inv (cxComp X N' sc cl s3 (upd H s.heap.objs.size (.lst [])) fp) [] (capS cap σ) H' s7 ∧ tn i s7.heap ∧ (∀ b ∈ fp, H' b = none) ∧ W i m ys H' := fun {ys' H7 s7 m'} J7 hm w7 => by
        refine ⟨m', hm, i + 1, ys', H7, (J7.unpinned).weak ?_ fun j v z => ext.at j v z, T.keep _ _ _ st5 fun b hb o e => (J7.pin (b, o) (List.mem_append_right _ (List.mem_append_right _ (mem_pinsAt hb e)))).1, fun b hb => ?_, w7⟩
        · rw [J7.len, Ji.len]
        · obtain ⟨o, e, _⟩ := T.obj _ _ st5 b hb
          exact (J7.pin (b, o) (List.mem_append_right _ (List.mem_append_right _ (mem_pinsAt hb e)))).2.1
      refine thn (ht _ _ _ _ s6 _ H6 _ J6 q6) fun ok s7 ⟨H7, J7, q7⟩ => ?_
      cases ok with
      | false =>
        obtain ⟨m', hm, w7⟩ := q7
        exact endT J7 hm w7
      | true =>
        refine thn (he _ _ _ _ s7 _ H7 _ J7 q7) fun y s8 ⟨yv, H8, J8, r8, hD8, m', hm, w8⟩ => ?_
        exact thn (mt_append _ s8 _ H8 (.ref s.heap.objs.size) [yv] (.ref s.heap.objs.size) [y] (fun v H9 => H9 = upd H8 s.heap.objs.size (.lst (ys ++ [yv]))) J8 rfl (.cons r8 .nil) ⟨_, ys, yv, rfl, rfl, hD8, hlen, rfl⟩) fun _ s9 ⟨_, H9, J9, _, e9⟩ => by
          subst e9
          exact endT J9 hm w8
  subst hs3
  exact codeAny_compStart_list (loop _ rfl) (T.self _ 0 _ _ _ st1 (loop _ rfl))
/-- [el for tg in src if ..], as a value -/
theorem pe_lc {wi : TI} (L : LcOk X N' sc cl cap) (hc : X.calm = true) (hi : PI X tg src wi) (hg : ∀ s H fp, PG (cxComp X N' sc cl s H fp) tg g) (ht : ∀ s H fp, PTs (cxComp X N' sc cl s H fp) cs tt) (he : ∀ s H fp, PE (cxComp X N' sc cl s H fp) el te)
    (hs : ∀ x, foldedSetIterable src X.env x = pure x := by intro _; rfl) : PE X (.ListComp el [⟨tg, src, cs, 0⟩] sc at') (tLC cap wi g tt te) := by
  intro pins s σ H Q I h
  rw [eval_ListComp]
  refine wpAny_comprehension_free (use := none) rfl hs L.clos L.kind L.names (thn (hi pins s σ H _ I h) fun v s1 h1 => thn h1 fun itv s2 h2 => ?_)
  obtain ⟨it, fp, tn, J, H2, rfl, I2, T, st2, f2, rd⟩ := h2
  refine comp_main L hc I2 T st2 f2 hg ht he rd (RR := fun acc C => compPost (model X.prog X.w) X.A X.xe none (EP X pins σ Q) acc C) fun D C m H' s' J' hn fC q => ?_
  refine ⟨m, hn, fun h' sb => ⟨.ref D, H', J'.turned (t' := s'.toks) (fun b o hb e => (sb.2 b hb).trans e) fC.1 fC.2.1 fC.2.2.2.1 fC.2.2.2.2.1 fC.2.2.2.2.2, rfl, q⟩⟩
/-- x = [el for tg in src if ..] where the machine stores ahead of letting the clause's names go -/
theorem ps_lc {wi : TI} {i : Nat} {x : Str} {px spos : Pos} (hN : X.N.Nodup) (hi' : X.N[i]? = some x) (hx : X.env.scope.names.lookup x = some .local) (L : LcOk X N' sc cl cap) (hc : X.calm = true) (hi : PI X tg src wi) (hg : ∀ s H fp, PG (cxComp X N' sc cl s H fp) tg g)
    (ht : ∀ s H fp, PTs (cxComp X N' sc cl s H fp) cs tt) (he : ∀ s H fp, PE (cxComp X N' sc cl s H fp) el te) (hsw : swapsWith (.ListComp el [⟨tg, src, cs, 0⟩] sc at') (some (.Name x px)) spos.line X.env = pure true)
    (hs : ∀ x, foldedSetIterable src X.env x = pure x := by intro _; rfl) : PS X (.Assign [.Name x px] (.ListComp el [⟨tg, src, cs, 0⟩] sc at') spos) (tAsg (tLC cap wi g tt te) (gName i)) := by
  intro pins s σ H D I h
  rw [exec_Assign_Name_used _ _ _ _ hsw]
  refine wpAny_bind (wpAny_standAt (wpAny_bind ?_))
  show wpAny _ X.A (do let _ ← comprehension (.ListComp el [⟨tg, src, cs, 0⟩] sc at') sc X.env _ (newList []) false (eval src X.env) (some (assign (.Name x px) X.env))) _ _ s
  refine wpAny_bind (thn (wpAny_comprehension_free (use := some (assign (.Name x px) X.env)) (Q := fun _ s' => SP X pins D .next s') rfl hs L.clos L.kind L.names (thn (hi pins s σ H _ I h) fun v s1 h1 => thn h1 fun itv s2 h2 => ?_)) fun _ s' q => wpAny_pure (wpAny_pure q))
  obtain ⟨it, fp, tn, J, H2, rfl, I2, T, st2, f2, rd⟩ := h2
  refine comp_main L hc I2 T st2 f2 hg ht he rd (RR := fun acc C => compPost (model X.prog X.w) X.A X.xe (some (assign (.Name x px) X.env)) (fun _ s' => SP X pins D .next s') acc C) fun D' C m H' s' J' hn fC q => ?_
  obtain ⟨oC, es, ep, hoC, hdC, hr⟩ := hn
  have Jp : Inv X (pins ++ [(C, oC)]) σ H' s' := J'.pins_of fun p hp => by
    rcases List.mem_append.mp hp with z | z
    · exact J'.pin p (List.mem_append_right _ z)
    · have e : p = (C, oC) := by simpa using z
      subst e
      exact ⟨hoC, fC.1, fC.2.1, fC.2.2.1, fun v z => by rw [hdC] at z; cases z⟩
  show wpAny _ X.A (assign (.Name x px) X.env (.ref D')) _ _ s'
  refine thn (pg_name (i := i) hN hi' (.inl hx) (.inr hx) _ s' σ H' (.ref D') (.ref D') (fun σ' H'' => D.nx σ' H'') Jp rfl q) fun _ s'' ⟨σ', H'', J2, q2⟩ => ?_
  obtain ⟨p1, p2, p3, p4, p5⟩ := J2.pin (C, oC) (List.mem_append_right _ (List.mem_append_right _ (by simp)))
  refine ⟨m, ⟨oC, es, ep, p1, hdC, hr⟩, fun h' sb => ⟨σ', H'', (J2.pins_of (pins' := pins) fun p hp => J2.pin p (List.mem_append_right _ (List.mem_append_left _ hp))).turned (t' := s''.toks) (fun b o hb e => (sb.2 b hb).trans e) p2 fC.2.1 fC.2.2.2.1 fC.2.2.2.2.1 fC.2.2.2.2.2, q2⟩⟩
end
end L2

/-! ### errors: how one lies behind a call, raised, passed on -/
namespace L2
open PySem PySem.Spec PyProof.Rows
theorem ObjOk.get {P : Program} {w : World} {H : Hp} {h : Heap} {a : Addr} {o : HO} (x : ObjOk P w H h a o) : ∃ ob, h.get? a = some ob := by
  cases o with
  | lst xs => obtain ⟨_, _, _, _, e⟩ := x; exact ⟨_, e⟩
  | tup xs => obtain ⟨_, _, _, ob, e, _⟩ := x; exact ⟨ob, e⟩
  | dK kvs => obtain ⟨_, _, _, _, o, _, _, e, _⟩ := x; exact ⟨o, e⟩
  | dT kvs => obtain ⟨_, _, _, _, o, _, _, e, _⟩ := x; exact ⟨o, e⟩
  | set S n => obtain ⟨o, _, _, _, e, _⟩ := x; exact ⟨o, e⟩
  | ins C dx fs => obtain ⟨_, _, _, e, _⟩ := x; exact ⟨_, e⟩
  | own y => exact x
  | xd fs => obtain ⟨_, ⟨o, _, _, e, _⟩, _⟩ := x; exact ⟨o, e⟩
  | rng lo hi => obtain ⟨_, _, _, e⟩ := x; exact ⟨_, e⟩
  | frz ob u => obtain ⟨e, _⟩ := x; exact ⟨ob, e⟩
  | tbl ps => exact ⟨_, (show h.get? a = some _ from x)⟩
  | met f y => exact ⟨_, (show h.get? a = some _ from x)⟩
  | ext φ => obtain ⟨_, e, _⟩ := x; exact e
/-- an error has been noted in the frames fr: what stays, what it is now -/
structure Lft (fr as : List Addr) (h h2 : Heap) (a : Addr) (cls : Value) : Prop where
  keep : ∀ b o, h.get? b = some o → b ∉ as → h2.get? b = some o
  slot : ∀ b o, b ∈ fr → h.get? b = some o → ∃ sl, h2.get? b = some { o with slots := sl }
  ex : ∃ oe vs T oT ts, h2.get? a = some oe ∧ oe.cls = cls ∧ oe.dict = none ∧ oe.data = .fields vs ∧ vs[1]? = some (.ref T) ∧ h.get? T = none ∧ T ≠ a ∧ h2.get? T = some oT ∧ oT.data = .fields ts ∧ ts[3]? = some .none
theorem dict_mapFields (f : Array Value → Array Value) (o : Obj) : (Obj.mapFields f o).dict = o.dict := by
  unfold Obj.mapFields
  split <;> rfl
section
variable {M : Model} {A : Around} {E : Value → Shared → Prop} {s : Shared} {base : Heap} {env : Env} {outer : List Env} {L a : Addr} {oe : Obj} {vs : Array Value} {as : List Addr} {Q : Unit → Shared → Prop}
theorem note_core {head : Value} {hadNext : Bool} (hfr : A.frames = some (env :: outer)) (hl : s.heap.FunFrames base (env :: outer)) (hf : env.frame = some L) (he : s.heap.get? a = some oe) (hdn : oe.dict = none) (hd : oe.data = .fields vs) (hsz : 1 < vs.size)
    (haa : a ∈ as) (hfs : ∀ b ∈ frs (env :: outer), b ∈ as) (h : ∀ h', Lft (frs (env :: outer)) as s.heap h' a oe.cls → Q () { s with heap := h' }) :
    wpAny M A (do let x ← frameOf env; let pl ← entryPlaceOf L hadNext; let b ← EntryCells.newEntry head x .none (rawInt L) .none pl; setField (.ref a) 1 b) (fun _ s' => wpAny M A (setFlight (.ref a) none) Q E s') E s := by
  have hna : a ∉ frs (env :: outer) := fun z => by
    obtain ⟨_, o, e, d⟩ := hl.mem z
    rw [he] at e; cases e; exact d vs hd
  refine wpAny_bind (wpAny_frameOf_fun hfr hl hf fun h1 so => wpAny_bind (wpAny_entryPlaceOf fun pl hpl => ?_))
  unfold EntryCells.newEntry newFields
  refine wpAny_bind (wpAny_newObj_type ?_ (hpl.sizeOk5 _ _ _ _ _))
  have e1 : h1.get? a = some oe := (so.2.1 a hna).trans he
  have nT : h1.objs.size ≠ a := Nat.ne_of_gt (Heap.lt_size e1)
  generalize hts : ([head, Value.ref L, Value.none, rawInt L, Value.none] ++ (if pl.isEmpty then List.replicate 6 Value.none else pl)).toArray = ts
  have lt3 : 3 < ts.size := by rw [← hts]; simp
  have e2 := Heap.get?_push_of_some (h := h1) { cls := .type "traceback", dict := none, data := .fields ts } e1
  have t2 := Heap.get?_push_size h1 (o := { cls := .type "traceback", dict := none, data := .fields ts }) rfl
  refine wpAny_setField e2 hd hsz ?_
  have d3 := Obj.data_mapFields hd (·.setIfInBounds 1 (Value.ref h1.objs.size))
  have e3 := Heap.get?_update_self (Obj.mapFields (·.setIfInBounds 1 (Value.ref h1.objs.size))) e2 (Obj.isFreed_of_fields d3)
  have t3 := (Heap.get?_update_other (h1.push { cls := .type "traceback", dict := none, data := .fields ts }) (Obj.mapFields (·.setIfInBounds 1 (Value.ref h1.objs.size))) (Ne.symm nT)).trans t2
  refine wpAny_setFlight_none (vs := vs.setIfInBounds 1 (.ref h1.objs.size)) e3 d3 (by simp [hsz]) t3 rfl lt3 (h _ ⟨fun b o q nb => ?_, fun b o q eb => ?_, ?_⟩)
  · have q1 : h1.get? b = some o := (so.2.1 b fun z => nb (hfs b z)).trans q
    have ba : b ≠ a := fun z => nb (z ▸ haa)
    rw [Heap.get?_update_other _ _ (Nat.ne_of_gt (Heap.lt_size q1)), Heap.get?_update_other _ _ (Ne.symm ba)]
    exact Heap.get?_push_of_some _ q1
  · obtain ⟨sl, q1⟩ := so.2.2 b o eb
    have ba : b ≠ a := fun z => hna (z ▸ q)
    refine ⟨sl, ?_⟩
    rw [Heap.get?_update_other _ _ (Nat.ne_of_gt (Heap.lt_size q1)), Heap.get?_update_other _ _ (Ne.symm ba)]
    exact Heap.get?_push_of_some _ q1
  · refine ⟨_, _, h1.objs.size, _, _, (Heap.get?_update_other _ _ nT).trans e3, Obj.cls_mapFields _ _, ?_, d3, by simp [hsz], ?_, nT, Heap.get?_update_self _ t3 (Obj.isFreed_of_fields (Obj.data_mapFields rfl _)), Obj.data_mapFields rfl _, by simp [lt3]⟩
    · rw [dict_mapFields]; exact hdn
    · cases q : s.heap.get? h1.objs.size with
      | none => rfl
      | some o =>
        obtain ⟨sl, q1⟩ := so.2.2 _ o q
        exact absurd (Heap.lt_size q1) (Nat.lt_irrefl _)
/-- the first note of a new error; a further one -/
theorem note_first (hfr : A.frames = some (env :: outer)) (hl : s.heap.FunFrames base (env :: outer)) (hf : env.frame = some L) (he : s.heap.get? a = some oe) (hdn : oe.dict = none) (hd : oe.data = .fields vs) (h1 : vs[1]? = some .none)
    (haa : a ∈ as) (hfs : ∀ b ∈ frs (env :: outer), b ∈ as) (h : ∀ h', Lft (frs (env :: outer)) as s.heap h' a oe.cls → Q () { s with heap := h' }) :
    wpAny M A (noteFrame (.ref a) env) (fun _ s' => wpAny M A (setFlight (.ref a) none) Q E s') E s := by
  unfold noteFrame
  simp only [hf]
  refine wpAny_bind (wpAny_field he hd h1 ?_)
  rw [if_neg (by decide)]
  exact note_core hfr hl hf he hdn hd (Array.getElem?_eq_some_iff.mp h1).1 haa hfs h
theorem note_next {T : Addr} {oT : Obj} {ts : Array Value} (hfr : A.frames = some (env :: outer)) (hl : s.heap.FunFrames base (env :: outer)) (hf : env.frame = some L) (he : s.heap.get? a = some oe) (hdn : oe.dict = none) (hd : oe.data = .fields vs) (h1 : vs[1]? = some (.ref T))
    (hTa : T ≠ a) (hT : s.heap.get? T = some oT) (hdT : oT.data = .fields ts) (h3 : ts[3]? = some .none)
    (haa : a ∈ as) (hTT : T ∈ as) (hfs : ∀ b ∈ frs (env :: outer), b ∈ as) (h : ∀ h', Lft (frs (env :: outer)) as s.heap h' a oe.cls → Q () { s with heap := h' }) :
    wpAny M A (noteFrame (.ref a) env) (fun _ s' => wpAny M A (setFlight (.ref a) none) Q E s') E s := by
  unfold noteFrame
  simp only [hf]
  refine wpAny_bind (wpAny_field he hd h1 ?_)
  rw [if_pos (show (Value.ref T != Value.none) = true from by simp)]
  refine wpAny_bind (wpAny_field hT hdT h3 ?_)
  rw [if_neg (show ¬ ((Value.none == rawInt L) = true) from by simp [rawInt])]
  refine wpAny_bind (wpAny_setField hT hdT (Array.getElem?_eq_some_iff.mp h3).1 ?_)
  have nT : T ∉ frs (env :: outer) := fun z => by
    obtain ⟨_, o, e, d⟩ := hl.mem z
    rw [hT] at e; cases e; exact d ts hdT
  have oth : ∀ b, b ≠ T → (s.heap.update T (Obj.mapFields (·.setIfInBounds 3 Value.none))).get? b = s.heap.get? b := fun b hb => Heap.get?_update_other _ _ (Ne.symm hb)
  have selfT := Heap.get?_update_self (Obj.mapFields (·.setIfInBounds 3 Value.none)) hT (Obj.isFreed_of_fields (Obj.data_mapFields hdT _))
  refine note_core hfr (hl.of_keeps fun b o hb hnf => ⟨o, (oth b (fun z => by rw [z, hT] at hb; cases hb; exact hnf ts hdT)).trans hb, rfl⟩) hf ((oth a (Ne.symm hTa)).trans he) hdn hd (Array.getElem?_eq_some_iff.mp h1).1 haa hfs fun h' q => h h' ⟨fun b o e nb => ?_, fun b o z e => ?_, ?_⟩
  · exact q.keep b o ((oth b fun z => nb (z ▸ hTT)).trans e) nb
  · exact q.slot b o z ((oth b fun y => nT (y ▸ z)).trans e)
  · obtain ⟨oe', vs', T', oT', ts', x1, x2, x3, x4, x5, x6, x7⟩ := q.ex
    refine ⟨oe', vs', T', oT', ts', x1, x2, x3, x4, x5, ?_, x7⟩
    rw [← oth T' (fun z => by rw [z, selfT] at x6; cases x6)]
    exact x6
end
/-- an error in flight: new since h0, not tracked, of the class cls -/
structure Fly (h0 : Heap) (H : Hp) (h : Heap) (a : Addr) (cls : Value) : Prop where
  ex : ∃ oe vs T oT ts, h.get? a = some oe ∧ oe.cls = cls ∧ oe.dict = none ∧ oe.data = .fields vs ∧ vs[1]? = some (.ref T) ∧ T ≠ a ∧ h.get? T = some oT ∧ oT.data = .fields ts ∧ ts[3]? = some .none ∧ H T = none ∧ h0.get? T = none
  un : H a = none
  new : h0.get? a = none
noncomputable def CXe (P : Program) (w : World) : CXT := fun outer H s E e s' => ∃ a cls H', e = .ref a ∧ s'.os = s.os ∧ AllBare s'.gens ∧ Un (frs outer) [] H H' s.heap s'.heap ∧ HOk P w H' s'.heap ∧ Fly s.heap H' s'.heap a cls ∧ E cls none H'
section
variable {X : Cx} {pins : List (Addr × Obj)} {σ : St} {H1 H' : Hp} {s1 s' : Shared} {a : Addr} {cls : Value} {E : XK}
theorem funFrames_slots {base h h' : Heap} : ∀ {l : List Env}, h.FunFrames base l → (∀ b ∈ frs l, ∀ o, h.get? b = some o → ∃ sl, h'.get? b = some { o with slots := sl }) → h'.FunFrames base l
  | [], _, _ => True.intro
  | ev :: r, hl, k => by
    obtain ⟨hk, ⟨L, o, hf, hn, ho, hd⟩, hr⟩ := hl
    have e : frs (ev :: r) = L :: frs r := by unfold frs; rw [List.filterMap_cons, hf]
    obtain ⟨sl, q⟩ := k L (by rw [e]; exact List.mem_cons_self) o ho
    exact ⟨hk, ⟨L, _, hf, hn, q, hd⟩, funFrames_slots hr fun b hb => k b (by rw [e]; exact List.mem_cons_of_mem _ hb)⟩
/-- the frames behind a call that did not end well -/
theorem Inv.stackE (I : Inv X pins σ H1 s1) (u : Un (frs X.stack) [] H1 H' s1.heap s'.heap) : s'.heap.FunFrames X.base X.stack :=
  funFrames_slots I.stack fun b hb o e => u.slot b o e (I.stkFree b hb) hb (by simp)
/-- the error leaves the def's frame -/
theorem fin_leave {as : List Addr} {h2 : Heap} (I : Inv X pins σ H1 s1) (hst : X.stack = X.env :: X.outer) (hfr : X.env.frame = some X.env.locals) (hex : X.ex = []) (ho : s'.os = s1.os) (hb : AllBare s'.gens)
    (u : Un (frs X.stack) [] H1 H' s1.heap s'.heap) (hok : HOk X.prog X.w H' s'.heap) (has : ∀ b ∈ as, b ∈ frs X.stack ∨ (H' b = none ∧ s1.heap.get? b = none)) (hfs : ∀ b ∈ frs X.stack, b ∈ as) (haa : a ∈ as) (hna : H' a = none ∧ s1.heap.get? a = none)
    (L : Lft (frs X.stack) as s'.heap h2 a cls) (hE : E cls none H') : CXe X.prog X.w X.outer X.H₀ X.s₀ E (.ref a) { s' with heap := h2 } := by
  have hfs' : frs X.stack = X.env.locals :: frs X.outer := by rw [hst]; unfold frs; rw [List.filterMap_cons, hfr]
  have noex : ∀ b : Addr, b ∉ X.ex := fun b => by rw [hex]; simp
  have FF := I.stackE u
  have keep2 := L.keep
  have slot2 := L.slot
  have below : ∀ b o, X.s₀.heap.get? b = some o → b ≠ X.env.locals := fun b o e => Nat.ne_of_lt (Nat.lt_of_lt_of_le (Heap.lt_size e) I.ok.above)
  have out : ∀ b o, s1.heap.get? b = some o → b ∈ as → b ∈ frs X.stack := fun b o e z => by
    rcases has b z with q | ⟨_, q⟩
    · exact q
    · rw [e] at q; cases q
  have here : ∀ b o, X.s₀.heap.get? b = some o → ∃ o', s1.heap.get? b = some o' := fun b o e => I.base.there b o e (noex b)
  obtain ⟨oe, vs, T, oT, ts, he, hcls, hdi, hd, h1, hnT, hTe, hT, hdT, h3⟩ := L.ex
  have hT0 : T ∈ as ∨ s'.heap.get? T = none := .inr hnT
  have freeAs : ∀ b ∈ as, H' b = none := fun b z => by
    rcases has b z with q | ⟨q, _⟩
    · obtain ⟨_, o, e, _⟩ := I.stack.mem q
      exact u.free b o e (I.stkFree b q) (by simp)
    · exact q
  refine ⟨a, cls, H', rfl, ho.trans I.os, hb, ⟨fun b o e n hbf _ => ?_, fun b o e n hbf _ => ?_, fun b o e n _ => ?_, fun b o e _ => ?_, fun b xs e => u.tups b xs (I.base.tups b xs e), fun b o v e => u.frzs b o v (I.base.frzs b o v e), fun b ps e => ?_⟩, fun b o e => ?_, ⟨⟨oe, vs, T, oT, ts, he, hcls, hdi, hd, h1, hTe, hT, hdT, h3, ?_, ?_⟩, hna.1, ?_⟩, hE⟩
  · have e1 := I.base.keep b o e n hbf (noex b)
    have n1 := I.base.free b o e n (noex b)
    have b1 : b ∉ frs X.stack := fun z => by rw [hfs'] at z; exact (List.mem_cons.mp z).elim (below b o e) hbf
    exact keep2 b o (u.keep b o e1 n1 b1 (by simp)) fun z => b1 (out b o e1 z)
  · obtain ⟨sl1, e1⟩ := I.base.slot b o e n hbf (noex b)
    have n1 := I.base.free b o e n (noex b)
    have b1 : b ∈ frs X.stack := by rw [hfs']; exact List.mem_cons_of_mem _ hbf
    obtain ⟨sl2, e2⟩ := u.slot b _ e1 n1 b1 (by simp)
    obtain ⟨sl3, e3⟩ := slot2 b _ b1 e2
    exact ⟨sl3, e3⟩
  · obtain ⟨o1, e1⟩ := here b o e
    exact u.free b o1 e1 (I.base.free b o e n (noex b)) (by simp)
  · obtain ⟨o1, e1⟩ := here b o e
    obtain ⟨o2, e2⟩ := u.there b o1 e1 (by simp)
    by_cases z : b ∈ as
    · obtain ⟨sl, e3⟩ := slot2 b o2 (out b o1 e1 z) e2
      exact ⟨_, e3⟩
    · exact ⟨o2, keep2 b o2 e2 z⟩
  · obtain ⟨m1, e1⟩ := I.base.tbls b ps e
    obtain ⟨m2, e2⟩ := u.tbls b _ e1
    exact ⟨m1 ++ m2, by rw [e2, Array.append_assoc]⟩
  · refine (hok b o e).stay (fun c v hc q => keep2 c v q fun z => ?_) (fun _ q => q) fun _ _ q => q
    have := freeAs c z
    rcases hc with rfl | hc
    · rw [this] at e; cases e
    · rw [this] at hc; cases hc
  · rcases hT0 with z | z
    · exact freeAs T z
    · cases q : H' T with
      | none => rfl
      | some v => obtain ⟨ob, e⟩ := (hok T v q).get; rw [z] at e; cases e
  · cases q : X.s₀.heap.get? T with
    | none => rfl
    | some o =>
      obtain ⟨o1, e1⟩ := here T o q
      obtain ⟨o2, e2⟩ := u.there T o1 e1 (by simp)
      rcases hT0 with z | z
      · obtain ⟨sl, e3⟩ := slot2 T o2 (out T o1 e1 z) e2
        obtain ⟨_, o4, e4, d4⟩ := FF.mem (out T o1 e1 z)
        rw [e2] at e4; cases e4
        rw [hT] at e3; cases e3
        exact absurd hdT (d4 ts)
      · rw [z] at e2; cases e2
  · cases q : X.s₀.heap.get? a with
    | none => rfl
    | some o => obtain ⟨o1, e1⟩ := here a o q; rw [hna.2] at e1; cases e1
/-- an error that has just been made leaves -/
theorem leave_new {oe : Obj} {vs : Array Value} {Q : Unit → Shared → Prop} (I : Inv X pins σ H1 s1) (hst : X.stack = X.env :: X.outer) (hfr : X.env.frame = some X.env.locals) (hex : X.ex = []) (ho : s'.os = s1.os) (hb : AllBare s'.gens)
    (u : Un (frs X.stack) [] H1 H' s1.heap s'.heap) (hok : HOk X.prog X.w H' s'.heap) (hna : H' a = none ∧ s1.heap.get? a = none) (he : s'.heap.get? a = some oe) (hc : oe.cls = cls) (hdi : oe.dict = none) (hd : oe.data = .fields vs) (h1 : vs[1]? = some .none) (hE : E cls none H')
    (hQ : ∀ s2, CXe X.prog X.w X.outer X.H₀ X.s₀ E (.ref a) s2 → Q () s2) {M : Model} {E' : Value → Shared → Prop} : wpAny M X.A (leaving X.env (.ref a)) Q E' s' := by
  subst hc
  have hA : X.A.frames = some (X.env :: X.outer) := by rw [← hst]; exact I.ok.frames
  have FF := I.stackE u
  refine wpAny_bind (note_first (as := a :: frs X.stack) hA (by rw [← hst]; exact FF) hfr he hdi hd h1 List.mem_cons_self (fun b z => List.mem_cons_of_mem _ (by rw [hst]; exact z)) fun h2 L => hQ _ ?_)
  rw [← hst] at L
  exact fin_leave I hst hfr hex ho hb u hok (fun b z => (List.mem_cons.mp z).elim (fun q => .inr (by rw [q]; exact hna)) .inl) (fun b z => List.mem_cons_of_mem _ z) List.mem_cons_self hna L hE
/-- an error that came from a callee leaves -/
theorem leave_on {Q : Unit → Shared → Prop} (I : Inv X pins σ H1 s1) (hst : X.stack = X.env :: X.outer) (hfr : X.env.frame = some X.env.locals) (hex : X.ex = []) (ho : s'.os = s1.os) (hb : AllBare s'.gens)
    (u : Un (frs X.stack) [] H1 H' s1.heap s'.heap) (hok : HOk X.prog X.w H' s'.heap) (F : Fly s1.heap H' s'.heap a cls) (hE : E cls none H')
    (hQ : ∀ s2, CXe X.prog X.w X.outer X.H₀ X.s₀ E (.ref a) s2 → Q () s2) {M : Model} {E' : Value → Shared → Prop} : wpAny M X.A (leaving X.env (.ref a)) Q E' s' := by
  obtain ⟨oe, vs, T, oT, ts, he, hcls, hdi, hd, h1, hTe, hT, hdT, h3, hHT, hsT⟩ := F.ex
  subst hcls
  have hA : X.A.frames = some (X.env :: X.outer) := by rw [← hst]; exact I.ok.frames
  have FF := I.stackE u
  refine wpAny_bind (note_next (as := a :: T :: frs X.stack) hA (by rw [← hst]; exact FF) hfr he hdi hd h1 hTe hT hdT h3 List.mem_cons_self (List.mem_cons_of_mem _ List.mem_cons_self) (fun b z => List.mem_cons_of_mem _ (List.mem_cons_of_mem _ (by rw [hst]; exact z))) fun h2 L => hQ _ ?_)
  rw [← hst] at L
  refine fin_leave I hst hfr hex ho hb u hok (fun b z => ?_) (fun b z => List.mem_cons_of_mem _ (List.mem_cons_of_mem _ z)) List.mem_cons_self ⟨F.un, F.new⟩ L hE
  rcases List.mem_cons.mp z with q | z
  · exact .inr (by rw [q]; exact ⟨F.un, F.new⟩)
  · rcases List.mem_cons.mp z with q | z
    · exact .inr (by rw [q]; exact ⟨hHT, hsT⟩)
    · exact .inl z
end
/-- in the body of a def whose errors are told -/
theorem passE {P : Program} {w : World} {K : PySem.W.Frag} {mg : Str → Option Value} {base : Heap} {N : List Str} {qual : Str} {scope : Scope} {f : Addr} {cd : Value} {A : Around} {outer : List Env} {s : Shared} {H : Hp} {E : XK} :
    Passes (CXe P w) (cxOf (CXe P w) P w K mg base N qual scope f cd A outer s H E) E := fun pins σ H1 s1 e s' I h => by
  obtain ⟨a, cls, H', rfl, ho, hb, u, hok, F, hE⟩ := h
  exact leave_on I rfl rfl rfl ho hb u hok F hE (M := model P w) (E' := fun e' s2 => CXe P w outer H s E e' s2) fun s2 q => q
end L2

/-! ### errors raised and caught -/
namespace L2
open PySem PySem.Spec PyProof.Rows
abbrev bmV : List Value := [.type "ValueError", .type "Exception", .type "BaseException", .type "object"]
/-- a class of the text under ValueError, without an __init__ of its own -/
noncomputable abbrev ExcC (K : PySem.W.Frag) (C : Addr) : Prop := PySem.W.excIn K C bmV "ValueError.__new__" = true
theorem ExcC.facts {K : PySem.W.Frag} {h : Heap} {C : Addr} (X : K.In h) (q : ExcC K C) : ∃ nm qn N bs bm hd sn sub ab col dd k0 k1 k2 k3 k5 mN,
    h.get? C = some (excClassObj nm qn C N bs bm hd sn sub ab col dd k0 k1 k2 k3 k5 "ValueError.__new__") ∧ h.Ns N mN ∧ mN "__init__" = none ∧ OwnTail h bmV bm := by
  unfold ExcC PySem.W.excIn at q
  split at q
  · rename_i dd' cd' sl' hlk
    split at q
    · rename_i C2 bm2 j0 j1 j2 j3 n2 j5 em es
      simp only [Bool.and_eq_true, beq_iff_eq, Bool.not_eq_true'] at q
      obtain ⟨⟨⟨⟨⟨e1, e2⟩, e3⟩, e4⟩, e5⟩, e6⟩ := q
      subst e1 e2
      obtain ⟨nm, bs, mr, ns, qn, hd, sn, sub, ab, col, del⟩ := cd'
      dsimp only at em e3 e5 e6
      subst em e3
      have e7 : sl' = #[j0, j1, j2, j3, some (.builtin "ValueError.__new__"), j5] := by
        obtain ⟨l⟩ := sl'
        simp only at es
        rw [es]
      subst e7
      exact ⟨nm, qn, ns, bs, bm2, hd, sn, sub, ab, col, dd', j0, j1, j2, j3, j5, _, X _ _ hlk, .of_isNs (PySem.W.isNs_of_in X e5), PySem.W.nsMap_none_of_in X e5 e6, PySem.W.tail_of_in X e4⟩
    · cases q
  · cases q
/-- what a new error does in this context -/
noncomputable def NewTo (X : Cx) (E : XK) : Prop := ∀ (pins : List (Addr × Obj)) (σ : St) (H : Hp) (s : Shared) (a : Addr) (cls : Value) (vs : List Value) (h' : Heap), Inv X pins σ H s → Heap.MadeExcOf s.heap h' a cls vs → E cls none H → X.xe (.ref a) { s with heap := h' }
theorem Inv.untracked {X : Cx} {pins : List (Addr × Obj)} {σ : St} {H : Hp} {s : Shared} {a : Addr} (I : Inv X pins σ H s) (h : s.heap.get? a = none) : H a = none := by
  cases q : H a with
  | none => rfl
  | some o => obtain ⟨ob, e⟩ := (I.hok a o q).get; rw [h] at e; cases e
theorem newE {P : Program} {w : World} {K : PySem.W.Frag} {mg : Str → Option Value} {base : Heap} {N : List Str} {qual : Str} {scope : Scope} {f : Addr} {cd : Value} {A : Around} {outer : List Env} {s : Shared} {H : Hp} {E : XK} :
    NewTo (cxOf (CXe P w) P w K mg base N qual scope f cd A outer s H E) E := fun pins σ H1 s1 a cls vs h' I hm hE => by
  obtain ⟨t, e, _⟩ := hm.there
  exact leave_new (s' := { s1 with heap := h' }) I rfl rfl rfl rfl I.bare (Un.kept hm.keeps) (I.hok.kept hm.keeps) ⟨I.untracked hm.new, hm.new⟩ e rfl rfl rfl rfl hE (M := model P w) (E' := fun e' s2 => CXe P w outer H s E e' s2) fun s2 q => q
noncomputable def tRaise (C : Addr) (E : XK) (t : TA) : TS := fun _ σ H => t σ H fun _ H1 => E (.ref C) none H1
theorem ps_raise {X : Cx} {E : XK} {x : Str} {np cpos pos : Pos} {e : Expr} {es : List Expr} {C : Addr} {t : TA} (hn : NewTo X E) (hc : X.calm = true) (q : ExcC X.K C) (hg : Gl X x) (hm : X.mg x = some (.ref C)) (ha : PA X (e :: es) t) (hz : (e :: es).length ≤ 1000 := by decide)
    (hdb : (x == ("__debug__" : Str)) = false := by decide) (he : starEach (e :: es) X.env = (false, eval e X.env) :: starEach es X.env := by rfl) (hpl : (backTo cpos (starEach (e :: es) X.env)).any (·.1) = false := by rfl)
    (hl : ∀ σ H Q, t σ H Q → t σ H fun vs H1 => vs.length = (e :: es).length ∧ Q vs H1) : PS X (.Raise (some (.Call (.Name x np) (e :: es) [] cpos)) none pos) (tRaise C E t) := by
  intro pins s σ H D I h
  obtain ⟨nm, qn, N, bs, bm, hd, sn, sub, ab, col, dd, k0, k1, k2, k3, k5, mN, hC, hns, hni, tl⟩ := q.facts I.ok.mod.kin
  have hbase : bm.contains (.type "BaseException") = true := tl.hasType (by decide +kernel)
  refine wpAny_Raise_call_subU (nm := nm) (q := qn) (C := C) (N := N) (bs := bs) (bm := bm) (hdct := hd) (sn := sn) (sub := sub) (ab := ab) (col := col) (dd := dd) (k0 := k0) (k1 := k1) (k2 := k2) (k3 := k3) (k5 := k5) (mN := mN)
    PySem.F.excBase_ValueError (by decide +kernel) PySem.F.excBase_ValueError hbase (I.ok.hd hc) hpl hni (ld_glob I hg hm ⟨rfl, ?_⟩ hdb)
  have ev : wpAny (model X.prog X.w) X.A (spliced (backTo cpos (starEach (e :: es) X.env))) (AP X pins σ fun vs H1 => vs.length = (e :: es).length ∧ E (.ref C) none H1) X.xe s := ha cpos pins s σ H _ I (hl σ H _ h)
  rw [he] at ev ⊢
  refine Calls.evalArgs_plain (thn ev fun us s1 ⟨vs, H1, I1, r, l1, q1⟩ => ⟨rfl, ?_, ?_⟩)
  · show us.length ≤ sizeLine
    rw [← r.length, l1]
    exact Nat.le_of_lt (small1000 hz)
  · exact ⟨I1.bk _ _ hC, hns.keeps I1.bk, tl.keeps I1.bk, fun h' a hm' => hn pins σ H1 s1 a (.ref C) _ h' I1 hm' q1⟩
end L2

/-! ### classes: a method through the class's name, methods of an object whose class is not fixed, kinds -/
namespace L2
open PySem PySem.Spec PyProof.Rows
/-- C.m, read off the class C: a def -/
structure ClsFn (K : PySem.W.Frag) (C : Addr) (m : Str) (f : Addr) : Prop where
  ga : PySem.W.specialIn K (.ref C) "__getattribute__" = some (some (.builtin "type.__getattribute__"))
  rd : PySem.W.readsIn K C (.type "type") = true
  fc : PySem.W.findCls K (.ref C) (.type "type") m = some (.val (.ref f))
  kp : PySem.W.keepIn K (.ref f) = true
section
variable {X : Cx} {CX : CXT} {k : Nat} {f C : Addr} {fd : FuncData} {ps : List Str} {sp : Sp} {dvs : List V} {ds : List Value} {E : XK} {x m : Str} {p pos apos : Pos} {e o : Expr} {es : List Expr} {ta : TE} {t : TA}
theorem pe_clsM {pl : Sem Bool} (hg : Gl X x) (hm : X.mg x = some (.ref C)) (c : ClsFn X.K C m f) (F : FnOk X.prog X.w X.K X.mg X.base CX k f fd ps sp) (hr : Room k X.A) (hb : Binds X.K fd ps ds) (hd : Vals dvs ds) (hx : Passes CX X E) (ha : PA X (e :: es) t)
    (hdb : (x == ("__debug__" : Str)) = false := by decide) (hst : starEach (e :: es) X.env = (false, eval e X.env) :: starEach es X.env := by rfl) (hpl : (backTo pos (starEach es X.env)).any (·.1) = false := by rfl)
    (ht : eval (.Call (.Attribute (.Name x p) m apos) (e :: es) [] pos) X.env = (do
      let ov ← eval (.Name x p) X.env
      standAt apos.atName
      let (f, first) ← holding [ov] (getMethod ov m pl)
      callWith pos f first (backTo pos (starEach (e :: es) X.env)) (backToKw pos (keywordEach [] X.env))) := by rfl) : PE X (.Call (.Attribute (.Name x p) m apos) (e :: es) [] pos) (tCall sp dvs E t) := by
  intro pins s σ H Q I h
  refine PySem.W.methodCall_KW (pl := pl) (ld_glob I hg hm ?_ hdb) ht
  refine PySem.W.method_cls I.kIn c.ga (PySem.W.cls_value I.kIn c.rd c.fc rfl ?_)
  have I' := I.tok (s.toks + 1)
  refine PySem.W.callWith_K (first := []) (h₀ := X.base) I.ok.mod.kin c.kp (thn (ha pos pins _ σ H _ I' h) fun us s1 ⟨vs, H1, I1, r, q⟩ => ⟨I1.kIn, ?_⟩) hst hpl
  exact run_fn F hr hb hd hx I1 r q
end
/-- the method m of the class C keeps sp -/
structure OkM (P : Program) (w : World) (K : PySem.W.Frag) (mg : Str → Option Value) (base : Heap) (CX : CXT) (k : Nat) (C : Addr) (m : Str) (ps : List Str) (sp : Sp) : Prop where
  ex : ∃ f fd, FnOk P w K mg base CX k f fd ps sp ∧ Binds K fd ps [] ∧ Meth K C m f ∧ Cls K C
/-- numbers handed to a method of the object at a, which is a kind of the size z -/
noncomputable def spKM (KA : Hp → Addr → Int → Prop) (a : Addr) (z : Int) (n : Nat) (pre : Int → List Int → Prop) (F : Int → List Int → Int) : Sp := fun vs H Q _ => ∃ ns : List Int, ns.length = n ∧ vs = .ref a :: ns.map V.int ∧ KA H a z ∧ pre z ns ∧ Q (.int (F z ns)) H
structure KM (P : Program) (w : World) (K : PySem.W.Frag) (mg : Str → Option Value) (base : Heap) (k : Nat) (KA : Hp → Addr → Int → Prop) (m : Str) (n : Nat) (pre : Int → List Int → Prop) (F : Int → List Int → Int) : Prop where
  ex : ∀ H a z, KA H a z → ∃ C dx fs ps, H a = some (.ins C dx fs) ∧ fs.lookup m = none ∧ OkM P w K mg base CX0 k C m ps (spKM KA a z n pre F)
section
variable {X : Cx} {j k n : Nat} {x m : Str} {px pos apos : Pos} {e : Expr} {es : List Expr} {KA : Hp → Addr → Int → Prop} {pre : Int → List Int → Prop} {F : Int → List Int → Int} {C : St → Hp → Prop} {g : St → List Int}
end
/-- C.m read off the class under its name keeps sp -/
structure OkC (P : Program) (w : World) (K : PySem.W.Frag) (mg : Str → Option Value) (base : Heap) (CX : CXT) (k : Nat) (x : Str) (C : Addr) (m : Str) (ps : List Str) (sp : Sp) : Prop where
  ex : ∃ f fd, FnOk P w K mg base CX k f fd ps sp ∧ Binds K fd ps [] ∧ ClsFn K C m f ∧ mg x = some (.ref C)
/-- C(..) under its name: its __init__ keeps sp -/
structure OkI (P : Program) (w : World) (K : PySem.W.Frag) (mg : Str → Option Value) (base : Heap) (CX : CXT) (k : Nat) (x : Str) (C : Addr) (ps : List Str) (sp : Sp) : Prop where
  ex : ∃ f fd, FnOk P w K mg base CX k f fd ps sp ∧ Binds K fd ps [] ∧ Mk K C f ∧ mg x = some (.ref C)
section
variable {X : Cx} {CX : CXT} {j k : Nat} {C : Addr} {ps : List Str} {sp : Sp} {E : XK} {x m : Str} {p pos apos : Pos} {e : Expr} {es : List Expr} {t : TA}
theorem pe_clsO {pl : Sem Bool} (o : OkC X.prog X.w X.K X.mg X.base CX j x C m ps sp) (hr : Room k X.A) (hx : Passes CX X E) (ha : PA X (e :: es) t) (hj : j ≤ k := by decide) (hg : Gl X x := by rfl)
    (hdb : (x == ("__debug__" : Str)) = false := by decide) (hst : starEach (e :: es) X.env = (false, eval e X.env) :: starEach es X.env := by rfl) (hpl : (backTo pos (starEach es X.env)).any (·.1) = false := by rfl)
    (ht : eval (.Call (.Attribute (.Name x p) m apos) (e :: es) [] pos) X.env = (do
      let ov ← eval (.Name x p) X.env
      standAt apos.atName
      let (f, first) ← holding [ov] (getMethod ov m pl)
      callWith pos f first (backTo pos (starEach (e :: es) X.env)) (backToKw pos (keywordEach [] X.env))) := by rfl) : PE X (.Call (.Attribute (.Name x p) m apos) (e :: es) [] pos) (tCall sp [] E t) := by
  obtain ⟨f, fd, F, b, c, mm⟩ := o.ex
  exact pe_clsM hg mm c (F.mono hj) hr b .nil hx ha hdb hst hpl ht
theorem pe_makeO (o : OkI X.prog X.w X.K X.mg X.base CX j x C ps sp) (hr : Room k X.A) (hx : Passes CX X E) (ha : PA X (e :: es) t) (hj : j + 1 ≤ k := by decide) (hg : Gl X x := by rfl) (hdb : (x == ("__debug__" : Str)) = false := by decide)
    (he : starEach (e :: es) X.env = (false, eval e X.env) :: starEach es X.env := by rfl) (hpl : (backTo pos (starEach es X.env)).any (·.1) = false := by rfl) : PE X (.Call (.Name x p) (e :: es) [] pos) (tMake C sp [] E t) := by
  obtain ⟨f, fd, F, b, c, mm⟩ := o.ex
  exact pe_make c F (hr.mono hj) hg mm b .nil hx ha hdb he hpl
theorem pe_makeO0 (o : OkI X.prog X.w X.K X.mg X.base CX j x C ps sp) (hr : Room k X.A) (hx : Passes CX X E) (hj : j + 1 ≤ k := by decide) (hg : Gl X x := by rfl) (hdb : (x == ("__debug__" : Str)) = false := by decide) : PE X (.Call (.Name x p) [] [] pos) (tMake C sp [] E tNil) := by
  obtain ⟨f, fd, F, b, c, mm⟩ := o.ex
  exact pe_make0 c F (hr.mono hj) hg mm b .nil hx hdb
end
/-- numbers of numbers and of a list of numbers that stands first -/
noncomputable def spS (K : PySem.W.Frag) (n : Nat) (pre : List Int → List Int → Prop) (F : List Int → List Int → Int) : Sp := fun vs H Q _ => ∃ (a : Addr) (xs is : List Int), is.length = n ∧ vs = .ref a :: is.map V.int ∧ SqL K H a (xs.map V.int) ∧ pre xs is ∧ Q (.int (F xs is)) H
section
variable {X : Cx} {j k n : Nat} {x y : Str} {py pos p : Pos} {es : List Expr} {ps : List Str} {pre : List Int → List Int → Prop} {F : List Int → List Int → Int} {C : St → Hp → Prop} {g : St → List Int}
end
/-- a kind: Wholes (size 0), Rests or Powers (size above 0); cW, cR, cP the classes -/
noncomputable def kMeths : List Str := ["plain", "plus", "less", "times", "over"]
noncomputable def KAt (cW cR cP : Addr) (H : Hp) (a : Addr) (z : Int) : Prop := ∃ C dx fs, H a = some (.ins C dx fs) ∧ ((C = cW ∧ z = 0) ∨ ((C = cR ∨ C = cP) ∧ 0 < z)) ∧ fs.lookup ("size" : Str) = some (.int z) ∧ ∀ m ∈ kMeths, fs.lookup m = none
theorem KAt.same {cW cR cP : Addr} {H H' : Hp} {a : Addr} {z : Int} (k : KAt cW cR cP H a z) (s : Same H H') : KAt cW cR cP H' a z := by
  obtain ⟨C, dx, fs, e, r⟩ := k
  exact ⟨C, dx, fs, s _ _ e, r⟩
/-- the number that stands for n in a kind of size z -/
noncomputable def pl (z n : Int) : Int := if z = 0 then n else n % z
theorem pl_pos {z n : Int} (h : 0 < z) : pl z n = n % z := by unfold pl; rw [if_neg (by omega)]
end L2

/-! ### what else a loop walks: enumerate, reversed, zip -/
namespace L2
open PySem PySem.Spec PyProof.Rows
section
variable {X : Cx} {pins : List (Addr × Obj)} {σ : St} {H : Hp} {s : Shared} {h' : Heap}
/-- several records of an iterator have turned -/
theorem Inv.turnedL {ch : List Addr} {t' : Nat} (I : Inv X pins σ H s) (hf : ∀ b ∈ ch, FpOk X pins H b) (k : ∀ b o, b ∉ ch → s.heap.get? b = some o → h'.get? b = some o) : Inv X pins σ H { s with heap := h', toks := t' } := by
  have nit : ∀ b u, H b = some u → b ∉ ch := fun b u e z => by rw [(hf b z).1] at e; cases e
  refine I.step (g' := s.gens) (d' := s.drawn) (ch := ch) (fun b hb => ⟨(hf b hb).2.2.2.1, (hf b hb).2.1, (hf b hb).2.2.2.2.1, (hf b hb).2.2.2.2.2⟩) (fun b o _ _ hc e _ => k b o hc e) (fun b o _ _ hc e _ => ⟨o.slots, k b o hc e⟩) (fun _ _ _ _ n => n)
    (fun b o hc e => ⟨o, k b o hc e⟩) (fun _ _ e => e) (fun _ _ _ e => e) (fun b ps e => ⟨#[], by rw [e]; simp⟩) (fun m hm => ?_) (fun b u e => ?_) I.bare
  · obtain ⟨o, es, ep, ho, r⟩ := hm
    exact ⟨o, es, ep, k _ o (fun z => (hf _ z).2.1 rfl) ho, r⟩
  · refine (I.hok b u e).stay (fun c v hc q => k c v ?_ q) (fun _ q => q) fun _ _ q => q
    rcases hc with z | z
    · rw [z]; exact nit b u e
    · exact nit c _ z
/-- an object that stands there is tracked from now on -/
theorem Inv.track {T : Addr} {o : HO} (I : Inv X pins σ H s) (f : FpOk X pins H T) (new : ObjOk X.prog X.w (upd H T o) s.heap T o) : Inv X pins σ (upd H T o) s := by
  obtain ⟨f0, f1, f2, f3, f4, f5⟩ := f
  have ne : ∀ {b : Addr} {u : HO}, H b = some u → b ≠ T := fun e => ne_of_none e f0
  refine ⟨I.ok, I.os, I.bare, ⟨I.base.keep, I.base.slot, fun b ob e n x => ?_, I.base.there, fun b xs e => ?_, fun b ob u e => ?_, fun b ps e => ?_⟩, I.loc, I.cell, by rw [upd_ne (Ne.symm f1)]; exact I.free, fun x c e => ?_, fun p hp => ?_, fun b u e => ?_, I.len⟩
  · have hb : b ≠ T := fun z => by
      subst z
      rcases f3 with z | z
      · exact x z
      · exact absurd (Nat.lt_of_lt_of_le (Heap.lt_size e) z) (Nat.lt_irrefl _)
    rw [upd_ne hb]; exact I.base.free b ob e n x
  · have q := I.base.tups b xs e
    rw [upd_ne (ne q)]; exact q
  · have q := I.base.frzs b ob u e
    rw [upd_ne (ne q)]; exact q
  · obtain ⟨m, q⟩ := I.base.tbls b ps e
    exact ⟨m, by rw [upd_ne (ne q)]; exact q⟩
  · rw [upd_ne (f4 x c e)]; exact I.freeC x c e
  · obtain ⟨a1, a2, a3⟩ := I.pin p hp
    exact ⟨a1, by rw [upd_ne (f5 p hp)]; exact a2, a3⟩
  · by_cases c : b = T
    · subst c; rw [upd_same] at e; cases e; exact new
    · rw [upd_ne c] at e
      exact (I.hok b u e).stay (fun _ _ _ q => q) (fun d q => by rw [upd_ne (ne q)]; exact q) fun d xs q => by rw [upd_ne (ne q)]; exact q
end
/-- enumerate(the list at a): a pair (place, item) each turn -/
noncomputable def Ite (K : PySem.W.Frag) (a : Addr) : It :=
  ⟨fun i H => ∃ xs x, SqL K H a xs ∧ xs[i]? = some x, fun i H v H' => ∃ T y, v = .ref T ∧ H T = none ∧ H' = upd H T (.tup [.int i, y]) ∧ ∀ xs, SqL K H a xs → xs[i]? = some y, fun i H => ∃ xs, SqL K H a xs ∧ xs.length ≤ i⟩
theorem turn_enum {P : Program} {w : World} {K : PySem.W.Frag} {els : List Expr} {kk : Nat} {tp : Pos} (a e it : Addr) (hne : e ≠ it) : Turn P w K (.Tuple els kk tp) (Ite K a) [e, it] e (fun i h => (∃ old, IsEnum h e it i old) ∧ h.IsListIter it a i) where
  mem := by simp
  obj := fun i h st b hb => by
    obtain ⟨⟨old, he⟩, o, ho, _, hd⟩ := st
    rcases List.mem_cons.mp hb with rfl | hb
    · exact ⟨_, he, fun v z => by cases z⟩
    · have q : b = it := by simpa using hb
      subst q
      exact ⟨o, ho, fun v z => by rw [hd] at z; cases z⟩
  keep := fun i h h' st k => by
    obtain ⟨⟨old, he⟩, hit⟩ := st
    exact ⟨⟨old, k e (by simp) _ he⟩, hit.at fun o q => k it (by simp) o q⟩
  item := by
    intro X hP hw hK hc i pins s σ H E I hf st hg
    subst hP hw hK
    obtain ⟨xs, x, hq, hx⟩ := hg
    obtain ⟨⟨old, he⟩, hit⟩ := st
    obtain ⟨its, rv, p, hz⟩ := I.list hq
    obtain ⟨u, hu, ru⟩ := rv.get hx
    refine wpAny_pyNext_enum_item he hit p.isList (x := u) (by simpa using hu) hne fun h1 ho hit1 hT hsz hk => ⟨_, rfl, ?_⟩
    refine wpAny_letOwnedTupleGo_enum ho fun h2 he2 hs2 => ?_
    have Te : s.heap.objs.size ≠ e := Nat.ne_of_gt (Heap.lt_size he)
    have keep2 : ∀ b o, b ∉ [e, it] → s.heap.get? b = some o → h2.get? b = some o := fun b o hb q => by
      have b1 : b ≠ e := fun z => hb (by simp [z])
      have b2 : b ≠ it := fun z => hb (by simp [z])
      exact (hs2.2 b b1).trans (hk b o b1 b2 q)
    have I1 : Inv X pins σ H { s with heap := h2, toks := s.toks + 1 } := I.turnedL hf keep2
    have fT : FpOk X pins H s.heap.objs.size := I.fpOk (Nat.le_refl _) (I.hok.fresh (Nat.le_refl _))
    have I2 := I1.track (o := .tup [.int i, x]) fT ⟨by show 2 ≤ sizeLine; decide, [.int i s.toks, u], .cons ⟨_, rfl⟩ (.cons ru .nil), ⟨_, (hs2.2 _ Te).trans hT, rfl, _, rfl⟩⟩
    refine ⟨.ref s.heap.objs.size, _, I2, rfl, ⟨_, x, rfl, fT.1, rfl, fun ys hy => by rw [I.list_inj hy hq]; exact hx⟩, ⟨⟨_, by exact_mod_cast he2⟩, ?_⟩, fun b hb => ?_⟩
    · obtain ⟨o, q, r⟩ := hit1
      exact ⟨o, (hs2.2 it (Ne.symm hne)).trans q, r⟩
    · rw [upd_ne]
      · exact (hf b hb).1
      · rcases List.mem_cons.mp hb with rfl | hb
        · exact Ne.symm Te
        · have q : b = it := by simpa using hb
          subst q
          obtain ⟨o, q, _⟩ := hit
          exact Nat.ne_of_lt (Heap.lt_size q)
  done := by
    intro X hP hw hK hc i pins s σ H E I hf st hg
    subst hP hw hK
    obtain ⟨xs, hq, hx⟩ := hg
    obtain ⟨⟨old, he⟩, hit⟩ := st
    obtain ⟨its, rv, p, hz⟩ := I.list hq
    have hl := rv.length
    exact wpAny_pyNext_enum_end (I.ok.hd hc) he hit p.isList (by simp; omega) fun h1 eb => ⟨rfl, I.turnedL hf fun b o hb q => eb b o (fun z => hb (by simp [z])) q⟩
  self := fun A i s Q E st h => by
    obtain ⟨⟨old, he⟩, _⟩ := st
    exact wpAny_pyIter_enum he h
theorem bt_enumerate : bootBuiltins "enumerate" = some (.type "enumerate") := by decide +kernel
noncomputable def iEnum (K : PySem.W.Frag) (ta : TA) : TI := fun σ H R => ta σ H fun vs H1 => ∃ a, vs = [.ref a] ∧ (∃ xs, SqL K H1 a xs) ∧ R (Ite K a) H1
theorem pi_enum {X : Cx} {els : List Expr} {kk : Nat} {tp : Pos} {l : Expr} {ta : TA} {p pos : Pos} (hg : Gl X "enumerate") (hm : X.mg "enumerate" = none) (ha : PA X [l] ta) (hs : starEach [l] X.env = [(false, eval l X.env)] := by rfl) :
    PI X (.Tuple els kk tp) (.Call (.Name "enumerate" p) [l] [] pos) (iEnum X.K ta) := by
  intro pins s σ H R I h
  refine Call_ (ld_blt I hg hm bt_enumerate (PyProof.Rows.callWith_type1 (thn (ha pos pins s σ H _ I h) fun us s1 ⟨vs, H1, I1, r1, q1⟩ => ?_) hs rfl))
  obtain ⟨a, rfl, ⟨xs, hq⟩, q⟩ := q1
  obtain ⟨u, rfl, ru⟩ := vals1 r1
  cases ru
  obtain ⟨its, rv, p', hz⟩ := I1.list hq
  refine call_enumerate_list p'.isList fun h1 he hit hsz hk => ?_
  refine wpAny_pyIter_enum he ?_
  have I2 : Inv X pins σ H1 { s1 with heap := h1 } := I1.kept (t' := s1.toks) hk
  refine ⟨_, [s1.heap.objs.size + 1, s1.heap.objs.size], _, _, H1, rfl, I2, turn_enum a (s1.heap.objs.size + 1) s1.heap.objs.size (Nat.succ_ne_self _), ⟨⟨_, he⟩, hit⟩, fun b hb => ?_, q⟩
  rcases List.mem_cons.mp hb with rfl | hb
  · exact I1.fpOk (Nat.le_succ _) (I1.hok.fresh (Nat.le_succ _))
  · have e : b = s1.heap.objs.size := by simpa using hb
    subst e
    exact I1.fpOk (Nat.le_refl _) (I1.hok.fresh (Nat.le_refl _))
/-! the forms one uses -/
/-- for k, v in enumerate(a): the body leaves the list as it is -/
theorem for_enum {K : PySem.W.Frag} {a : Addr} {xs : List V} {g : TG} {tb : TS} {D : Ends} {σ : St} {H : Hp} (Pv : Nat → St → Hp → Prop) (h0 : Pv 0 σ H) (hl : ∀ i σ H, i ≤ xs.length → Pv i σ H → SqL K H a xs)
    (hs : ∀ i x σ H T, xs[i]? = some x → Pv i σ H → H T = none → g (.ref T) σ (upd H T (.tup [.int i, x])) fun σ2 H2 => tb { D with nx := Pv (i + 1), ct := Pv (i + 1), bk := D.nx } σ2 H2) (hd : ∀ σ H, Pv xs.length σ H → D.nx σ H) :
    ∃ W : Nat → Nat → St → Hp → Prop, (∃ m, W 0 m σ H) ∧ ∀ i m σ H, W i m σ H →
      ((Ite K a).stop i H ∧ D.nx σ H) ∨ ((Ite K a).go i H ∧ ∃ N : St → Hp → Prop, (∀ σ' H', N σ' H' → ∃ m', m' < m ∧ W (i + 1) m' σ' H') ∧ ∀ x H', (Ite K a).yld i H x H' → g x σ H' fun σ2 H2 => tb { D with nx := N, ct := N, bk := D.nx } σ2 H2) := by
  refine ⟨fun i m σ H => m = xs.length - i ∧ i ≤ xs.length ∧ Pv i σ H, ⟨xs.length, by simp, Nat.zero_le _, h0⟩, ?_⟩
  rintro i m σ H ⟨rfl, hi, p⟩
  have q := hl i σ H hi p
  by_cases hlt : i < xs.length
  · refine .inr ⟨⟨xs, xs[i], q, by simp [hlt]⟩, Pv (i + 1), fun σ' H' p' => ⟨xs.length - (i + 1), by omega, rfl, hlt, p'⟩, fun x H' y => ?_⟩
    obtain ⟨T, z, rfl, hT, rfl, hz⟩ := y
    exact hs i z σ H T (hz xs q) p hT
  · have e : i = xs.length := by omega
    subst e
    exact .inl ⟨⟨xs, q, Nat.le_refl _⟩, hd σ H p⟩
end L2

/-! ### comprehensions of numbers, as one uses them -/
namespace L2
open PySem PySem.Spec PyProof.Rows
theorem int_at {ns : List Int} {i : Nat} {x : V} (h : (ns.map V.int)[i]? = some x) : ∃ n, x = .int n ∧ ns[i]? = some n := by
  rw [List.getElem?_map] at h
  cases e : ns[i]? with
  | none => rw [e] at h; cases h
  | some n => rw [e] at h; exact ⟨n, (Option.some.inj h).symm, rfl⟩
theorem take_at {α : Type} {ns : List α} {i : Nat} {n : α} (h : ns[i]? = some n) : ns.take (i + 1) = ns.take i ++ [n] := by rw [List.take_add_one, h]; rfl
noncomputable abbrev noTest : TT := fun _ H Q => Q true H
section
variable {K : PySem.W.Frag} {a D : Addr} {ns : List Int} {σ : St} {C : St → Hp → Prop} {g : St → Int} {Q : VK} {H1 : Hp}
end
end L2

/-! ### the mathematics: primes up to 9973, rests, noughts cut, values -/
namespace FM
open L2
noncomputable def IsP (n : Int) : Prop := 2 ≤ n ∧ n ≤ 9973 ∧ ∀ d : Int, 2 ≤ d → d * d ≤ n → ¬ n % d = 0
open Classical in
noncomputable def isP (n : Int) : Bool := decide (IsP n)
open Classical in
theorem isP_true {n : Int} (h : IsP n) : isP n = true := by unfold isP; exact decide_eq_true h
open Classical in
theorem isP_false {n : Int} (h : ¬ IsP n) : isP n = false := by unfold isP; exact decide_eq_false h
open Classical in
theorem isP_iff {n : Int} : isP n = true ↔ IsP n := by unfold isP; exact decide_eq_true_iff
noncomputable def Clean (n d : Int) : Prop := ∀ e : Int, 2 ≤ e → e < d → ¬ n % e = 0
theorem Clean.next {n d : Int} (h : Clean n d) (hd : ¬ n % d = 0) : Clean n (d + 1) := fun e h1 h2 => by
  by_cases c : e = d
  · rw [c]; exact hd
  · exact h e h1 (by omega)
theorem sq_ge {d : Int} (h : 2 ≤ d) : d ≤ d * d := by
  have := Int.mul_le_mul_of_nonneg_left (show (1 : Int) ≤ d by omega) (show (0 : Int) ≤ d by omega)
  omega
theorem sq_mono {d e : Int} (h0 : 0 ≤ d) (h : d ≤ e) : d * d ≤ e * e := Int.mul_le_mul h h h0 (by omega)
theorem IsP.out {n d : Int} (h : Clean n d) (h2 : 2 ≤ d) (lo : 2 ≤ n) (hi : n ≤ 9973) (hd : ¬ d * d ≤ n) : IsP n := ⟨lo, hi, fun e h1 he => by
  by_cases c : e < d
  · exact h e h1 c
  · have := sq_mono (d := d) (e := e) (by omega) (by omega)
    omega⟩
noncomputable def F_P : List Int → Bool := fun ns => match ns with
  | [n] => isP n
  | _ => false
noncomputable def yes : List Int → Prop := fun _ => True
/-! rests -/
theorem pl_pl (z n : Int) : pl z (pl z n) = pl z n := by
  unfold pl
  by_cases h : z = 0
  · rw [if_pos h, if_pos h]
  · rw [if_neg h, if_neg h, Int.emod_emod_of_dvd _ (Int.dvd_refl z)]
theorem pl_mul (z a b : Int) : pl z (pl z a * b) = pl z (a * b) := by
  unfold pl
  by_cases h : z = 0
  · rw [if_pos h, if_pos h, if_pos h]
  · rw [if_neg h, if_neg h, if_neg h, Int.mul_emod, Int.emod_emod_of_dvd _ (Int.dvd_refl z), ← Int.mul_emod]
theorem pl_mul' (z a b : Int) : pl z (a * pl z b) = pl z (a * b) := by rw [Int.mul_comm, pl_mul, Int.mul_comm]
theorem pl_lt {z n : Int} (h : 0 < z) : 0 ≤ pl z n ∧ pl z n < z := by
  rw [pl_pos h]
  exact ⟨Int.emod_nonneg _ (by omega), Int.emod_lt_of_pos _ h⟩
/-! noughts at the end -/
noncomputable def trimZ (xs : List Int) : List Int := (xs.reverse.dropWhile (· == 0)).reverse
theorem trimZ_zero (xs : List Int) : trimZ (xs ++ [0]) = trimZ xs := by
  unfold trimZ
  rw [List.reverse_append]
  simp
theorem trimZ_ne (xs : List Int) {x : Int} (h : x ≠ 0) : trimZ (xs ++ [x]) = xs ++ [x] := by
  unfold trimZ
  rw [List.reverse_append]
  simp [h]
theorem trimZ_len (xs : List Int) : (trimZ xs).length ≤ xs.length := by
  unfold trimZ
  have := (List.dropWhile_sublist (· == 0) (l := xs.reverse)).length_le
  simpa using this
/-! sizes -/
/-! values -/
noncomputable def ev : List Int → Int → Int
  | [], _ => 0
  | n :: r, x => n + x * ev r x
end FM

/-! ### a reading of defs by pure values: what stands in the slots, without the heap -/
namespace L3
open PySem PySem.Spec PyProof.Rows L2
inductive PV where
  | int (n : Int) | bl (b : Bool) | non | str (s : Str) | ints (ns : List Int) | scr (ns : List Int) | lst (xs : List PV) | tup (xs : List PV) | ob (k : Nat) (z : Int) | ty (n : String) | cls (a : Addr)
/-- what stands for own objects: k the sort, z its number -/
structure Gx where
  ob : Nat → Hp → Addr → Int → Prop
  mono : ∀ k H H' a z, Same H H' → ob k H a z → ob k H' a z
mutual
noncomputable def At (K : PySem.W.Frag) (G : Gx) (H : Hp) : PV → V → Prop
  | .int n, v => v = .int n
  | .bl b, v => v = .bl b
  | .non, v => v = .non
  | .str s, v => v = .str s
  | .ints ns, v => ∃ a, v = .ref a ∧ Rd H a (.lst (ns.map V.int))
  | .scr ns, v => ∃ a, v = .ref a ∧ SqL K H a (ns.map V.int)
  | .lst xs, v => ∃ a vs, v = .ref a ∧ Rd H a (.lst vs) ∧ AtL K G H xs vs
  | .tup xs, v => ∃ a vs, v = .ref a ∧ H a = some (.tup vs) ∧ AtL K G H xs vs
  | .ob k z, v => ∃ a, v = .ref a ∧ G.ob k H a z
  | .ty n, v => v = .ty n
  | .cls a, v => v = .ref a
noncomputable def AtL (K : PySem.W.Frag) (G : Gx) (H : Hp) : List PV → List V → Prop
  | [], vs => vs = []
  | p :: ps, vs => ∃ v r, vs = v :: r ∧ At K G H p v ∧ AtL K G H ps r
end
theorem same_rd {H H' : Hp} {a : Addr} {u : HO} (e : Same H H') (h : Rd H a u) : Rd H' a u := by
  rcases h with h | ⟨o, h⟩
  · exact .inl (e _ _ h)
  · exact .inr ⟨o, e _ _ h⟩
theorem same_tup {K : PySem.W.Frag} {H H' : Hp} {a : Addr} {xs : List V} (e : Same H H') (h : SqT K H a xs) : SqT K H' a xs := by
  rcases h with (h | ⟨o, h⟩) | h
  · exact .inl (.inl (e _ _ h))
  · exact .inl (.inr ⟨o, e _ _ h⟩)
  · exact .inr h
mutual
theorem At.mono {K : PySem.W.Frag} {G : Gx} {H H' : Hp} (s : Same H H') : ∀ (p : PV) (v : V), At K G H p v → At K G H' p v
  | .int _, _, h => h
  | .bl _, _, h => h
  | .non, _, h => h
  | .str _, _, h => h
  | .ints _, _, h => by obtain ⟨a, e, q⟩ := h; exact ⟨a, e, same_rd s q⟩
  | .scr _, _, h => by obtain ⟨a, e, q⟩ := h; exact ⟨a, e, s.seq q⟩
  | .lst xs, _, h => by obtain ⟨a, vs, e, q, r⟩ := h; exact ⟨a, vs, e, same_rd s q, AtL.mono s xs vs r⟩
  | .tup xs, _, h => by obtain ⟨a, vs, e, q, r⟩ := h; exact ⟨a, vs, e, s _ _ q, AtL.mono s xs vs r⟩
  | .ob _ _, _, h => by obtain ⟨a, e, q⟩ := h; exact ⟨a, e, G.mono _ _ _ _ _ s q⟩
  | .ty _, _, h => h
  | .cls _, _, h => h
theorem AtL.mono {K : PySem.W.Frag} {G : Gx} {H H' : Hp} (s : Same H H') : ∀ (ps : List PV) (vs : List V), AtL K G H ps vs → AtL K G H' ps vs
  | [], _, h => h
  | p :: ps, _, h => by obtain ⟨v, r, e, q, t⟩ := h; exact ⟨v, r, e, At.mono s p v q, AtL.mono s ps r t⟩
end
theorem AtL.length {K : PySem.W.Frag} {G : Gx} {H : Hp} : ∀ {ps : List PV} {vs : List V}, AtL K G H ps vs → ps.length = vs.length
  | [], _, h => by cases h; rfl
  | p :: ps, _, h => by
    obtain ⟨v, r, rfl, _, t⟩ := h
    rw [List.length_cons, List.length_cons, AtL.length t]
theorem AtL.get {K : PySem.W.Frag} {G : Gx} {H : Hp} : ∀ {ps : List PV} {vs : List V} {i : Nat} {v : V}, AtL K G H ps vs → vs[i]? = some v → ∃ p, ps[i]? = some p ∧ At K G H p v
  | [], _, i, v, h, e => by cases h; simp at e
  | p :: ps, _, 0, v, h, e => by
    obtain ⟨w, r, rfl, q, t⟩ := h
    simp at e
    subst e
    exact ⟨p, rfl, q⟩
  | p :: ps, _, i + 1, v, h, e => by
    obtain ⟨w, r, rfl, q, t⟩ := h
    obtain ⟨p', e', q'⟩ := AtL.get (i := i) (v := v) t (by simpa using e)
    exact ⟨p', by simpa using e', q'⟩
theorem AtL.at {K : PySem.W.Frag} {G : Gx} {H : Hp} : ∀ {ps : List PV} {vs : List V} {i : Nat} {p : PV}, AtL K G H ps vs → ps[i]? = some p → ∃ v, vs[i]? = some v ∧ At K G H p v
  | [], _, i, v, h, e => by simp at e
  | p :: ps, _, 0, v, h, e => by
    obtain ⟨w, r, rfl, q, t⟩ := h
    simp at e
    subst e
    exact ⟨w, rfl, q⟩
  | p :: ps, _, i + 1, v, h, e => by
    obtain ⟨w, r, rfl, q, t⟩ := h
    obtain ⟨v', e', q'⟩ := AtL.at (i := i) (p := v) t (by simpa using e)
    exact ⟨v', by simpa using e', q'⟩
theorem AtL.snoc {K : PySem.W.Frag} {G : Gx} {H : Hp} {p : PV} {v : V} : ∀ {ps : List PV} {vs : List V}, AtL K G H ps vs → At K G H p v → AtL K G H (ps ++ [p]) (vs ++ [v])
  | [], _, h, q => by cases h; exact ⟨v, [], rfl, q, rfl⟩
  | p' :: ps, _, h, q => by
    obtain ⟨w, r, rfl, q', t⟩ := h
    exact ⟨w, _, rfl, q', AtL.snoc t q⟩
/-- the heap less what is hidden -/
noncomputable def mn (H : Hp) (O : Addr → Bool) : Hp := fun b => if O b = true then none else H b
theorem mn_get {H : Hp} {O : Addr → Bool} {b : Addr} {o : HO} (h : mn H O b = some o) : O b = false ∧ H b = some o := by
  unfold mn at h
  by_cases c : O b = true
  · rw [if_pos c] at h; cases h
  · rw [if_neg c] at h; exact ⟨by simpa using c, h⟩
theorem mn_of {H : Hp} {O : Addr → Bool} {b : Addr} (h : O b = false) : mn H O b = H b := by unfold mn; rw [if_neg (by rw [h]; decide)]
theorem mn_le {H : Hp} {O : Addr → Bool} : Same (mn H O) H := fun _ _ h => (mn_get h).2
theorem mn_same {H H' : Hp} {O : Addr → Bool} (s : Same H H') : Same (mn H O) (mn H' O) := fun b o h => by
  obtain ⟨c, e⟩ := mn_get h
  rw [mn_of c]; exact s b o e
theorem mn_anti {H : Hp} {O O' : Addr → Bool} (k : ∀ a, O a = true → O' a = true) : Same (mn H O') (mn H O) := fun b o h => by
  obtain ⟨c, e⟩ := mn_get h
  have : O b = false := by
    cases z : O b with
    | false => rfl
    | true => rw [k b z] at c; cases c
  rw [mn_of this]; exact e
noncomputable def hide (a : Addr) (O : Addr → Bool) : Addr → Bool := fun b => b == a || O b
theorem hide_ne {a b : Addr} {O : Addr → Bool} (h : b ≠ a) : hide a O b = O b := by unfold hide; simp [h]
theorem hide_self {a : Addr} {O : Addr → Bool} : hide a O a = true := by unfold hide; simp
theorem hide_le {a : Addr} {O : Addr → Bool} : ∀ b, O b = true → hide a O b = true := fun b h => by unfold hide; simp [h]
/-- a new address is hidden: what could be seen is still seen -/
theorem mn_hide {H H' : Hp} {O : Addr → Bool} {a : Addr} (s : Same H H') (ha : H a = none) : Same (mn H O) (mn H' (hide a O)) := fun b o h => by
  obtain ⟨c, e⟩ := mn_get h
  rw [mn_of (by rw [hide_ne (ne_of_none e ha)]; exact c)]; exact s b o e
theorem mn_upd {H : Hp} {O : Addr → Bool} {a : Addr} {o : HO} (h : O a = true) : mn (upd H a o) O = mn H O := by
  funext b
  unfold mn
  by_cases c : O b = true
  · rw [if_pos c, if_pos c]
  · rw [if_neg c, if_neg c, upd_ne (fun z => c (by rw [z]; exact h))]
/-- slots: not bound; bound to what nobody changes; to a list of one's own; to a list of two such lists -/
inductive Sl where
  | un | fr (p : PV) | ow (p : PV) | o2 (xs ys : List Int)
noncomputable abbrev En := List Sl
structure Bs where
  H0 : Hp
  Oc : Addr → Bool
noncomputable def OwnAt (K : PySem.W.Frag) (G : Gx) (H : Hp) : PV → List V → Prop
  | .ints ns, vs => vs = ns.map V.int
  | .lst xs, vs => AtL K G H xs vs
  | _, _ => False
theorem OwnAt.mono {K : PySem.W.Frag} {G : Gx} {H H' : Hp} (s : Same H H') {p : PV} {vs : List V} (h : OwnAt K G H p vs) : OwnAt K G H' p vs := by
  cases p <;> first | exact h | exact AtL.mono s _ _ h
structure O2At (B : Bs) (σ : L2.St) (H : Hp) (ρ : En) (O : Addr → Bool) (i : Nat) (xs ys : List Int) (D a b : Addr) : Prop where
  at_ : σ[i]? = some (some (.ref D))
  oD : O D = true
  oa : O a = true
  ob : O b = true
  nD : B.H0 D = none
  na : B.H0 a = none
  nb : B.H0 b = none
  hD : H D = some (.lst [.ref a, .ref b])
  ha : H a = some (.lst (xs.map V.int))
  hb : H b = some (.lst (ys.map V.int))
  ab : a ≠ b
  un : ∀ (j : Nat) q c, ρ[j]? = some (.ow q) → σ[j]? = some (some (.ref c)) → c ≠ D ∧ c ≠ a ∧ c ≠ b
  one : ∀ (j : Nat) xs' ys', ρ[j]? = some (.o2 xs' ys') → j = i
structure Rep (K : PySem.W.Frag) (G : Gx) (B : Bs) (σ : L2.St) (H : Hp) (ρ : En) (O : Addr → Bool) : Prop where
  same : Same B.H0 H
  cd : ∀ a, B.Oc a = true → B.H0 a ≠ none
  hid : ∀ a, B.Oc a = true → O a = true
  dom : ∀ a, O a = true → H a ≠ none
  vis : ∀ a, O a = true → B.Oc a = true ∨ B.H0 a = none
  fr : ∀ (i : Nat) p, ρ[i]? = some (.fr p) → ∃ v, σ[i]? = some (some v) ∧ At K G (mn H O) p v
  ow : ∀ (i : Nat) p, ρ[i]? = some (.ow p) → ∃ a vs, σ[i]? = some (some (.ref a)) ∧ O a = true ∧ B.H0 a = none ∧ H a = some (.lst vs) ∧ OwnAt K G (mn H O) p vs
  inj : ∀ (i j : Nat) p q a, ρ[i]? = some (.ow p) → ρ[j]? = some (.ow q) → σ[i]? = some (some (.ref a)) → σ[j]? = some (some (.ref a)) → i = j
  len : σ.length = ρ.length
  o2 : ∀ (i : Nat) xs ys, ρ[i]? = some (.o2 xs ys) → ∃ D a b, O2At B σ H ρ O i xs ys D a b
section
variable {K : PySem.W.Frag} {G : Gx} {B : Bs} {σ : L2.St} {H H' : Hp} {ρ : En} {O : Addr → Bool} {i : Nat}
theorem Rep.grow (R : Rep K G B σ H ρ O) (s : Same H H') : Rep K G B σ H' ρ O := by
  refine ⟨R.same.trans s, R.cd, R.hid, fun a h z => R.dom a h (s.free z), R.vis, fun i p e => ?_, fun i p e => ?_, R.inj, R.len, fun i xs ys e => let ⟨D, a, b, q⟩ := R.o2 i xs ys e; ⟨D, a, b, q.at_, q.oD, q.oa, q.ob, q.nD, q.na, q.nb, s _ _ q.hD, s _ _ q.ha, s _ _ q.hb, q.ab, q.un, q.one⟩⟩
  · obtain ⟨v, e1, e2⟩ := R.fr i p e
    exact ⟨v, e1, At.mono (mn_same s) _ _ e2⟩
  · obtain ⟨a, vs, e1, e2, e3, e4, e5⟩ := R.ow i p e
    exact ⟨a, vs, e1, e2, e3, s _ _ e4, e5.mono (mn_same s)⟩
theorem set_at {α : Type} {l : List α} {i j : Nat} {x y : α} (h : (l.set i x)[j]? = some y) : (i = j ∧ y = x ∧ i < l.length) ∨ (i ≠ j ∧ l[j]? = some y) := by
  rw [List.getElem?_set] at h
  by_cases c : i = j
  · rw [if_pos c] at h
    by_cases c2 : i < l.length
    · rw [if_pos c2] at h; exact .inl ⟨c, (Option.some.inj h).symm, c2⟩
    · rw [if_neg c2] at h; cases h
  · rw [if_neg c] at h; exact .inr ⟨c, h⟩
theorem set_ne {α : Type} {l : List α} {i j : Nat} {x : α} (h : i ≠ j) : (l.set i x)[j]? = l[j]? := by rw [List.getElem?_set, if_neg h]
theorem set_eq {α : Type} {l : List α} {i : Nat} {x : α} (h : i < l.length) : (l.set i x)[i]? = some x := by rw [List.getElem?_set, if_pos rfl, if_pos h]
/-- a name is bound to a value that nobody changes -/
theorem Rep.set (R : Rep K G B σ H ρ O) {p : PV} {v : V} (h : At K G (mn H O) p v) : Rep K G B (σ.set i (some v)) H (ρ.set i (.fr p)) O := by
  refine ⟨R.same, R.cd, R.hid, R.dom, R.vis, fun j q e => ?_, fun j q e => ?_, fun j k q r a e1 e2 e3 e4 => ?_, by rw [List.length_set, List.length_set]; exact R.len, fun j xs ys e => ?_⟩
  · rcases set_at e with ⟨rfl, e, l⟩ | ⟨n, e⟩
    · cases e; exact ⟨v, set_eq (by rw [R.len]; exact l), h⟩
    · rw [set_ne n]; exact R.fr j q e
  · rcases set_at e with ⟨rfl, e, l⟩ | ⟨n, e⟩
    · cases e
    · rw [set_ne n]; exact R.ow j q e
  · rcases set_at e1 with ⟨rfl, e, l⟩ | ⟨n, e⟩
    · cases e
    · rcases set_at e2 with ⟨rfl, e', l'⟩ | ⟨n', e'⟩
      · cases e'
      · rw [set_ne n] at e3; rw [set_ne n'] at e4
        exact R.inj j k q r a e e' e3 e4
  · rcases set_at e with ⟨rfl, e, l⟩ | ⟨n, e⟩
    · cases e
    · obtain ⟨D, a, b, q⟩ := R.o2 j xs ys e
      refine ⟨D, a, b, by rw [set_ne n]; exact q.at_, q.oD, q.oa, q.ob, q.nD, q.na, q.nb, q.hD, q.ha, q.hb, q.ab, fun k r c e1 e2 => ?_, fun k xs' ys' e1 => ?_⟩
      · rcases set_at e1 with ⟨_, e', _⟩ | ⟨n', e'⟩
        · cases e'
        · rw [set_ne n'] at e2; exact q.un k r c e' e2
      · rcases set_at e1 with ⟨_, e', _⟩ | ⟨n', e'⟩
        · cases e'
        · exact q.one k xs' ys' e'
/-- a new list comes and is one's own -/
theorem Rep.new (R : Rep K G B σ H ρ O) {p : PV} {a : Addr} {vs : List V} (s : Same H H') (ha : H a = none) (he : H' a = some (.lst vs)) (h : OwnAt K G (mn H' (hide a O)) p vs) : Rep K G B (σ.set i (some (.ref a))) H' (ρ.set i (.ow p)) (hide a O) := by
  refine ⟨R.same.trans s, R.cd, fun b z => hide_le b (R.hid b z), fun b z y => ?_, fun b z => ?_, fun j q e => ?_, fun j q e => ?_, fun j k q r b e1 e2 e3 e4 => ?_, by rw [List.length_set, List.length_set]; exact R.len, fun j xs ys e => ?_⟩
  · by_cases c : b = a
    · subst c; rw [he] at y; cases y
    · rw [hide_ne c] at z; exact R.dom b z (s.free y)
  · by_cases c : b = a
    · subst c; exact .inr (R.same.free ha)
    · rw [hide_ne c] at z; exact R.vis b z
  · rcases set_at e with ⟨rfl, e, l⟩ | ⟨n, e⟩
    · cases e
    · obtain ⟨v, e1, e2⟩ := R.fr j q e
      exact ⟨v, by rw [set_ne n]; exact e1, At.mono (mn_hide s ha) _ _ e2⟩
  · rcases set_at e with ⟨rfl, e, l⟩ | ⟨n, e⟩
    · cases e
      exact ⟨a, vs, set_eq (by rw [R.len]; exact l), hide_self, R.same.free ha, he, h⟩
    · obtain ⟨b, us, e1, e2, e3, e4, e5⟩ := R.ow j q e
      exact ⟨b, us, by rw [set_ne n]; exact e1, hide_le b e2, e3, s _ _ e4, e5.mono (mn_hide s ha)⟩
  · have old : ∀ (m : Nat) q, ρ[m]? = some (.ow q) → σ[m]? = some (some (.ref a)) → False := fun m q e z => by
      obtain ⟨b, us, e1, _, _, e4, _⟩ := R.ow m q e
      rw [z] at e1; cases e1
      rw [ha] at e4; cases e4
    rcases set_at e1 with ⟨rfl, e, l⟩ | ⟨n, e⟩
    · rcases set_at e2 with ⟨rfl, e', l'⟩ | ⟨n', e'⟩
      · rfl
      · rw [set_eq (by rw [R.len]; exact l)] at e3
        cases e3
        rw [set_ne n'] at e4
        exact (old k r e' e4).elim
    · rcases set_at e2 with ⟨rfl, e', l'⟩ | ⟨n', e'⟩
      · rw [set_eq (by rw [R.len]; exact l')] at e4
        cases e4
        rw [set_ne n] at e3
        exact (old j q e e3).elim
      · rw [set_ne n] at e3; rw [set_ne n'] at e4
        exact R.inj j k q r b e e' e3 e4
  · rcases set_at e with ⟨rfl, e, l⟩ | ⟨n, e⟩
    · cases e
    · obtain ⟨D, a1, b1, q⟩ := R.o2 j xs ys e
      refine ⟨D, a1, b1, by rw [set_ne n]; exact q.at_, hide_le _ q.oD, hide_le _ q.oa, hide_le _ q.ob, q.nD, q.na, q.nb, s _ _ q.hD, s _ _ q.ha, s _ _ q.hb, q.ab, fun k r c e1 e2 => ?_, fun k xs' ys' e1 => ?_⟩
      · rcases set_at e1 with ⟨rfl, e', l'⟩ | ⟨n', e'⟩
        · rw [set_eq (by rw [R.len]; exact l')] at e2
          cases e2
          exact ⟨Ne.symm (ne_of_none q.hD ha), Ne.symm (ne_of_none q.ha ha), Ne.symm (ne_of_none q.hb ha)⟩
        · rw [set_ne n'] at e2; exact q.un k r c e' e2
      · rcases set_at e1 with ⟨_, e', _⟩ | ⟨n', e'⟩
        · cases e'
        · exact q.one k xs' ys' e'
/-- a list of one's own changes -/
theorem Rep.change (R : Rep K G B σ H ρ O) {p p' : PV} {a : Addr} {vs : List V} (e : ρ[i]? = some (.ow p)) (ea : σ[i]? = some (some (.ref a))) (h : OwnAt K G (mn H O) p' vs) : Rep K G B σ (upd H a (.lst vs)) (ρ.set i (.ow p')) O := by
  obtain ⟨a', us, e1, e2, e3, e4, e5⟩ := R.ow i p e
  rw [ea] at e1
  cases e1
  have hl : i < ρ.length := (List.getElem?_eq_some_iff.mp e).1
  refine ⟨fun b o z => ?_, R.cd, R.hid, fun b z y => ?_, R.vis, fun j q ej => ?_, fun j q ej => ?_, fun j k q r b j1 j2 j3 j4 => ?_, by rw [List.length_set]; exact R.len, fun j xs ys ej => ?_⟩
  · rw [upd_ne (ne_of_none z e3)]; exact R.same b o z
  · by_cases c : b = a
    · subst c; rw [upd_same] at y; cases y
    · rw [upd_ne c] at y; exact R.dom b z y
  · rw [mn_upd e2]
    rcases set_at ej with ⟨_, e', _⟩ | ⟨_, e'⟩
    · cases e'
    · exact R.fr j q e'
  · rw [mn_upd e2]
    rcases set_at ej with ⟨rfl, e', _⟩ | ⟨n, e'⟩
    · cases e'
      exact ⟨a, vs, ea, e2, e3, upd_same, h⟩
    · obtain ⟨b, ws, f1, f2, f3, f4, f5⟩ := R.ow j q e'
      refine ⟨b, ws, f1, f2, f3, ?_, f5⟩
      rw [upd_ne]
      · exact f4
      · intro z
        subst z
        exact n (R.inj i j p q b e e' ea f1)
  · have back : ∀ (m : Nat) q, (ρ.set i (.ow p'))[m]? = some (.ow q) → ∃ q', ρ[m]? = some (.ow q') := fun m q z => by
      rcases set_at z with ⟨rfl, _, _⟩ | ⟨_, z⟩
      · exact ⟨p, e⟩
      · exact ⟨q, z⟩
    obtain ⟨q', y1⟩ := back j q j1
    obtain ⟨r', y2⟩ := back k r j2
    exact R.inj j k q' r' b y1 y2 j3 j4
  · rcases set_at ej with ⟨rfl, e', _⟩ | ⟨n, e'⟩
    · cases e'
    · obtain ⟨D, a1, b1, q⟩ := R.o2 j xs ys e'
      obtain ⟨u1, u2, u3⟩ := q.un i p a e ea
      refine ⟨D, a1, b1, q.at_, q.oD, q.oa, q.ob, q.nD, q.na, q.nb, by rw [upd_ne (Ne.symm u1)]; exact q.hD, by rw [upd_ne (Ne.symm u2)]; exact q.ha, by rw [upd_ne (Ne.symm u3)]; exact q.hb, q.ab, fun k r c e1 e2 => ?_, fun k xs' ys' e1 => ?_⟩
      · rcases set_at e1 with ⟨rfl, _, _⟩ | ⟨_, e1⟩
        · exact q.un i p c e e2
        · exact q.un k r c e1 e2
      · rcases set_at e1 with ⟨_, e', _⟩ | ⟨n', e'⟩
        · cases e'
        · exact q.one k xs' ys' e'
noncomputable def show' (a : Addr) (O : Addr → Bool) : Addr → Bool := fun b => if b = a then false else O b
theorem show_ne {a b : Addr} {O : Addr → Bool} (h : b ≠ a) : show' a O b = O b := by unfold show'; rw [if_neg h]
theorem show_self {a : Addr} {O : Addr → Bool} : show' a O a = false := by unfold show'; rw [if_pos rfl]
theorem show_le {a : Addr} {O : Addr → Bool} : ∀ b, show' a O b = true → O b = true := fun b h => by
  by_cases c : b = a
  · subst c; rw [show_self] at h; cases h
  · rw [show_ne c] at h; exact h
noncomputable def frz (ρ : En) (i : Nat) : En := match ρ[i]? with
  | some (.ow p) => ρ.set i (.fr p)
  | _ => ρ
/-- a list of one's own is changed no more -/
theorem Rep.freeze (R : Rep K G B σ H ρ O) (i : Nat) : ∃ O', Rep K G B σ H (frz ρ i) O' := by
  unfold frz
  split
  · rename_i p e
    obtain ⟨a, vs, e1, e2, e3, e4, e5⟩ := R.ow i p e
    have sub : Same (mn H O) (mn H (show' a O)) := mn_anti show_le
    have sees : Rd (mn H (show' a O)) a (.lst vs) := .inl (by rw [mn_of show_self]; exact e4)
    have hp : At K G (mn H (show' a O)) p (.ref a) := by
      cases p <;> first
        | exact False.elim e5
        | (have e5 := e5.mono sub; exact ⟨a, vs, rfl, sees, e5⟩)
        | (have e5' : vs = _ := e5; subst e5'; exact ⟨a, rfl, sees⟩)
    refine ⟨show' a O, R.same, R.cd, fun b z => ?_, fun b z => R.dom b (show_le b z), fun b z => R.vis b (show_le b z), fun j q ej => ?_, fun j q ej => ?_, fun j k q r b j1 j2 j3 j4 => ?_, by rw [List.length_set]; exact R.len, fun j xs ys ej => ?_⟩
    · rw [show_ne]
      · exact R.hid b z
      · intro y
        subst y
        exact R.cd b z e3
    · rcases set_at ej with ⟨rfl, e', _⟩ | ⟨n, e'⟩
      · cases e'
        exact ⟨.ref a, e1, hp⟩
      · obtain ⟨v, f1, f2⟩ := R.fr j q e'
        exact ⟨v, f1, At.mono sub _ _ f2⟩
    · rcases set_at ej with ⟨rfl, e', _⟩ | ⟨n, e'⟩
      · cases e'
      · obtain ⟨b, ws, f1, f2, f3, f4, f5⟩ := R.ow j q e'
        refine ⟨b, ws, f1, ?_, f3, f4, f5.mono sub⟩
        rw [show_ne]
        · exact f2
        · intro z
          subst z
          exact n (R.inj i j p q b e e' e1 f1)
    · rcases set_at j1 with ⟨_, e', _⟩ | ⟨_, y1⟩
      · cases e'
      · rcases set_at j2 with ⟨_, e', _⟩ | ⟨_, y2⟩
        · cases e'
        · exact R.inj j k q r b y1 y2 j3 j4
    · rcases set_at ej with ⟨rfl, e', _⟩ | ⟨n, e'⟩
      · cases e'
      · obtain ⟨D, a1, b1, q⟩ := R.o2 j xs ys e'
        obtain ⟨u1, u2, u3⟩ := q.un i p a e e1
        refine ⟨D, a1, b1, q.at_, by rw [show_ne (Ne.symm u1)]; exact q.oD, by rw [show_ne (Ne.symm u2)]; exact q.oa, by rw [show_ne (Ne.symm u3)]; exact q.ob, q.nD, q.na, q.nb, q.hD, q.ha, q.hb, q.ab, fun k r c e1 e2 => ?_, fun k xs' ys' e1 => ?_⟩
        · rcases set_at e1 with ⟨_, e', _⟩ | ⟨_, e1⟩
          · cases e'
          · exact q.un k r c e1 e2
        · rcases set_at e1 with ⟨_, e', _⟩ | ⟨n', e'⟩
          · cases e'
          · exact q.one k xs' ys' e'
  · exact ⟨O, R⟩
/-- the base of a loop: all that is not one's own -/
noncomputable def Bs.at (B : Bs) (H : Hp) (O : Addr → Bool) : Bs := ⟨fun b => if (O b && (B.H0 b).isNone) = true then none else H b, B.Oc⟩
theorem Bs.at_of {b : Addr} (h : O b = false ∨ B.H0 b ≠ none) : (B.at H O).H0 b = H b := by
  show (if (O b && (B.H0 b).isNone) = true then none else H b) = H b
  rw [if_neg]
  rcases h with h | h
  · rw [h]; simp
  · cases e : B.H0 b with
    | none => exact absurd e h
    | some o => simp
theorem Rep.rebase (R : Rep K G B σ H ρ O) : Rep K G (B.at H O) σ H ρ O := by
  refine ⟨fun b o z => ?_, fun a z => ?_, R.hid, R.dom, fun a z => ?_, R.fr, fun i p e => ?_, R.inj, R.len, fun i xs ys e => ?_⟩
  · have z : (if (O b && (B.H0 b).isNone) = true then none else H b) = some o := z
    by_cases c : (O b && (B.H0 b).isNone) = true
    · rw [if_pos c] at z; cases z
    · rw [if_neg c] at z; exact z
  · rw [Bs.at_of (.inr (R.cd a z))]
    exact R.dom a (R.hid a z)
  · rcases R.vis a z with y | y
    · exact .inl y
    · refine .inr ?_
      show (if (O a && (B.H0 a).isNone) = true then none else H a) = none
      rw [if_pos (by rw [z, y]; rfl)]
  · obtain ⟨a, vs, e1, e2, e3, e4, e5⟩ := R.ow i p e
    refine ⟨a, vs, e1, e2, ?_, e4, e5⟩
    show (if (O a && (B.H0 a).isNone) = true then none else H a) = none
    rw [if_pos (by rw [e2, e3]; rfl)]
  · obtain ⟨D, a, b, q⟩ := R.o2 i xs ys e
    have z : ∀ c, O c = true → B.H0 c = none → (B.at H O).H0 c = none := fun c h1 h2 => by
      show (if (O c && (B.H0 c).isNone) = true then none else H c) = none
      rw [if_pos (by rw [h1, h2]; rfl)]
    exact ⟨D, a, b, q.at_, q.oD, q.oa, q.ob, z D q.oD q.nD, z a q.oa q.na, z b q.ob q.nb, q.hD, q.ha, q.hb, q.ab, q.un, q.one⟩
theorem Rep.base_le (R : Rep K G B σ H ρ O) : Same B.H0 (B.at H O).H0 := fun b o z => by
  rw [Bs.at_of (.inr (by rw [z]; exact fun y => by cases y))]
  exact R.same b o z
theorem Rep.base_mn (B : Bs) (H : Hp) (O : Addr → Bool) : Same (mn H O) (B.at H O).H0 := fun b o z => by
  obtain ⟨c, e⟩ := mn_get z
  rw [Bs.at_of (.inl c)]
  exact e
theorem Rep.unbase {σ' : L2.St} {ρ' : En} {O' : Addr → Bool} (R : Rep K G B σ H ρ O) (R' : Rep K G (B.at H O) σ' H' ρ' O') : Rep K G B σ' H' ρ' O' := by
  refine ⟨R.base_le.trans R'.same, R.cd, R'.hid, R'.dom, fun a z => (R'.vis a z).imp id fun y => R.base_le.free y, R'.fr, fun i p e => ?_, R'.inj, R'.len, fun i xs ys e => ?_⟩
  · obtain ⟨a, vs, e1, e2, e3, e4, e5⟩ := R'.ow i p e
    exact ⟨a, vs, e1, e2, R.base_le.free e3, e4, e5⟩
  · obtain ⟨D, a, b, q⟩ := R'.o2 i xs ys e
    exact ⟨D, a, b, q.at_, q.oD, q.oa, q.ob, R.base_le.free q.nD, R.base_le.free q.na, R.base_le.free q.nb, q.hD, q.ha, q.hb, q.ab, q.un, q.one⟩
/-- what was seen as a loop began is seen in it -/
theorem Rep.seen {σ' : L2.St} {ρ' : En} {O' : Addr → Bool} (R : Rep K G B σ H ρ O) (R' : Rep K G (B.at H O) σ' H' ρ' O') : Same (mn H O) (mn H' O') := fun b o z => by
  have z0 := Rep.base_mn B H O b o z
  obtain ⟨c, e⟩ := mn_get z
  rw [mn_of]
  · exact R'.same b o z0
  · cases y : O' b with
    | false => rfl
    | true =>
      rcases R'.vis b y with y | y
      · rw [R.hid b y] at c; cases c
      · rw [z0] at y; cases y
end
/-! what stands in a slot -/
noncomputable def getI (ρ : En) (i : Nat) : Int := match ρ[i]? with
  | some (.fr (.int n)) => n
  | _ => 0
noncomputable def isI (ρ : En) (i : Nat) : Prop := ρ[i]? = some (.fr (.int (getI ρ i)))
noncomputable def getL (ρ : En) (i : Nat) : List Int := match ρ[i]? with
  | some (.fr (.ints ns)) => ns
  | some (.ow (.ints ns)) => ns
  | some (.fr (.scr ns)) => ns
  | _ => []
noncomputable def isL (ρ : En) (i : Nat) : Prop := ρ[i]? = some (.fr (.ints (getL ρ i)))
noncomputable def isO (ρ : En) (i : Nat) : Prop := ρ[i]? = some (.ow (.ints (getL ρ i)))
noncomputable def isLO (ρ : En) (i : Nat) : Prop := isL ρ i ∨ isO ρ i ∨ ρ[i]? = some (.fr (.scr (getL ρ i)))
noncomputable def getP (ρ : En) (i : Nat) : PV := match ρ[i]? with
  | some (.fr p) => p
  | some (.ow p) => p
  | _ => .non
noncomputable def isF (ρ : En) (i : Nat) : Prop := ρ[i]? = some (.fr (getP ρ i))
noncomputable def getS (ρ : En) (i : Nat) : Str := match ρ[i]? with
  | some (.fr (.str s)) => s
  | _ => Str.empty
noncomputable def isS (ρ : En) (i : Nat) : Prop := ρ[i]? = some (.fr (.str (getS ρ i)))
noncomputable def getB (ρ : En) (i : Nat) : Bool := match ρ[i]? with
  | some (.fr (.bl b)) => b
  | _ => false
noncomputable def isB (ρ : En) (i : Nat) : Prop := ρ[i]? = some (.fr (.bl (getB ρ i)))
section
variable {K : PySem.W.Frag} {G : Gx} {B : Bs} {σ : L2.St} {H H' : Hp} {ρ : En} {O : Addr → Bool} {i : Nat}
/-- a list read, one's own or not -/
theorem Rep.readL (R : Rep K G B σ H ρ O) (h : isLO ρ i) : ∃ a, σ[i]? = some (some (.ref a)) ∧ SqL K H a ((getL ρ i).map V.int) := by
  rcases h with h | h | h
  · obtain ⟨v, e1, a, e2, e3⟩ := R.fr i _ h
    subst e2
    exact ⟨a, e1, .inl (same_rd mn_le e3)⟩
  · obtain ⟨a, vs, e1, e2, e3, e4, e5⟩ := R.ow i _ h
    have e5 : vs = (getL ρ i).map V.int := e5
    subst e5
    exact ⟨a, e1, .inl (.inl e4)⟩
  · obtain ⟨v, e1, a, e2, e3⟩ := R.fr i _ h
    subst e2
    exact ⟨a, e1, mn_le.seq e3⟩
end
/-! ### expressions -/
noncomputable def tX (K : PySem.W.Frag) (G : Gx) (C : En → Prop) (g : En → PV) : TE := fun σ H Q => ∃ B ρ O, Rep K G B σ H ρ O ∧ C ρ ∧ ∀ v H', Same H H' → At K G (mn H' O) (g ρ) v → Q v H'
/-- a new list of numbers -/
noncomputable def tXl (K : PySem.W.Frag) (G : Gx) (C : En → Prop) (g : En → List Int) : TE := fun σ H Q => ∃ B ρ O, Rep K G B σ H ρ O ∧ C ρ ∧ ∀ a H', Same H H' → H a = none → H' a = some (.lst ((g ρ).map V.int)) → Q (.ref a) H'
/-- a new list of any values -/
noncomputable def tXp (K : PySem.W.Frag) (G : Gx) (C : En → Prop) (g : En → List PV) : TE := fun σ H Q => ∃ B ρ O, Rep K G B σ H ρ O ∧ C ρ ∧ ∀ a vs H', Same H H' → H a = none → H' a = some (.lst vs) → AtL K G (mn H' (hide a O)) (g ρ) vs → Q (.ref a) H'
noncomputable def tXs (K : PySem.W.Frag) (G : Gx) (C : En → Prop) (g : En → List PV) : TA := fun σ H Q => ∃ B ρ O, Rep K G B σ H ρ O ∧ C ρ ∧ ∀ vs H', Same H H' → AtL K G (mn H' O) (g ρ) vs → Q vs H'
noncomputable def tXT (K : PySem.W.Frag) (G : Gx) (C : En → Prop) (p : En → Prop) [∀ ρ, Decidable (p ρ)] : TT := fun σ H Q => ∃ B ρ O, Rep K G B σ H ρ O ∧ C ρ ∧ ∀ H', Same H H' → Q (decide (p ρ)) H'
noncomputable abbrev tXI (K : PySem.W.Frag) (G : Gx) (C : En → Prop) (g : En → Int) : TE := tX K G C fun ρ => .int (g ρ)
noncomputable abbrev tXL (K : PySem.W.Frag) (G : Gx) (C : En → Prop) (g : En → List Int) : TE := tX K G C fun ρ => .ints (g ρ)
noncomputable abbrev tXB (K : PySem.W.Frag) (G : Gx) (C : En → Prop) (p : En → Prop) [∀ ρ, Decidable (p ρ)] : TE := tX K G C fun ρ => .bl (decide (p ρ))
noncomputable abbrev tXS (K : PySem.W.Frag) (G : Gx) (C : En → Prop) (g : En → Str) : TE := tX K G C fun ρ => .str (g ρ)
section
variable {X : Cx} {G : Gx} {a b : Expr} {pos : Pos} {Ca Cb : En → Prop} {ga gb : En → Int} {i : Nat} {x : Str} {e : Expr} {t : TE} {C : En → Prop} {g : En → PV} {gl hl : En → List Int}
theorem toX (h : PE X e t) (k : ∀ B σ H ρ O Q, Rep X.K G B σ H ρ O → C ρ → (∀ v H', Same H H' → At X.K G (mn H' O) (g ρ) v → Q v H') → t σ H Q) : PE X e (tX X.K G C g) :=
  fun pins s σ H Q I ⟨B, ρ, O, R, c, q⟩ => h pins s σ H Q I (k B σ H ρ O Q R c q)
theorem toXl (h : PE X e t) (k : ∀ B σ H ρ O Q, Rep X.K G B σ H ρ O → C ρ → (∀ a H', Same H H' → H a = none → H' a = some (.lst ((gl ρ).map V.int)) → Q (.ref a) H') → t σ H Q) : PE X e (tXl X.K G C gl) :=
  fun pins s σ H Q I ⟨B, ρ, O, R, c, q⟩ => h pins s σ H Q I (k B σ H ρ O Q R c q)
/-- a new list, as a value -/
theorem newL (h : PE X e (tXl X.K G C gl)) : PE X e (tXL X.K G C gl) := toX h fun B σ H ρ O Q R c q => ⟨B, ρ, O, R, c, fun a H' s n e => q _ H' s ⟨a, rfl, .inl (by
  rw [mn_of]
  · exact e
  · cases z : O a with
    | false => rfl
    | true => exact absurd n (R.dom a z))⟩⟩
theorem newP {gp : En → List PV} (h : PE X e (tXp X.K G C gp)) : PE X e (tX X.K G C fun ρ => .lst (gp ρ)) := toX h fun B σ H ρ O Q R c q => ⟨B, ρ, O, R, c, fun a vs H' s n e al => q _ H' s ⟨a, vs, rfl, .inl (by
  rw [mn_of]
  · exact e
  · cases z : O a with
    | false => rfl
    | true => exact absurd n (R.dom a z)), AtL.mono (mn_anti hide_le) _ _ al⟩⟩
theorem xn_int {n : Int} {j : Nat} : PE X (.Constant (.int n) j pos) (tXI X.K G (fun _ => True) fun _ => n) := toX pe_int fun _ _ H _ _ _ _ _ q => q _ H (Same.refl H) rfl
theorem xb_bl {n : Bool} {j : Nat} : PE X (.Constant (.bool n) j pos) (tX X.K G (fun _ => True) fun _ => .bl n) := toX pe_bl fun _ _ H _ _ _ _ _ q => q _ H (Same.refl H) rfl
theorem xs_str {n : Str} {j : Nat} : PE X (.Constant (.str n) j pos) (tXS X.K G (fun _ => True) fun _ => n) := toX pe_str fun _ _ H _ _ _ _ _ q => q _ H (Same.refl H) rfl
theorem xn_glob {n : Int} (hg : Gl X x) (hm : ∃ tk, X.mg x = some (.int n tk)) (hd : (x == ("__debug__" : Str)) = false := by decide) : PE X (.Name x pos) (tXI X.K G (fun _ => True) fun _ => n) :=
  let ⟨_, hm⟩ := hm; toX (pe_glob hg hm (v := .int n) ⟨_, rfl⟩ hd) fun _ _ H _ _ _ _ _ q => q _ H (Same.refl H) rfl
theorem xv_bltn {u : String} (hg : Gl X x) (hm : X.mg x = none) (hv : bootBuiltins x = some (.type u)) (hn : x ≠ "__name__" := by decide) (hd : (x == ("__debug__" : Str)) = false := by decide) : PE X (.Name x pos) (tX X.K G (fun _ => True) fun _ => .ty u) :=
  toX (pe_bltn (v := .ty u) hg hm hv rfl hn hd) fun _ _ H _ _ _ _ _ q => q _ H (Same.refl H) rfl
theorem xv (i : Nat) {x : Str} (hN : X.N[i]? = some x := by rfl) (hv : Vis X.env.scope x := by first | exact Or.inl rfl | exact Or.inr (Or.inl rfl) | exact Or.inr (Or.inr rfl))
    (hd : (x == ("__debug__" : Str)) = false := by decide) (hcd : (x == ("__classdict__" : Str)) = false := by decide) : PE X (.Name x pos) (tX X.K G (fun ρ => isF ρ i) fun ρ => getP ρ i) :=
  toX (pe_var hN hv hd hcd) fun _ _ H _ _ _ R c q => let ⟨v, e, h⟩ := R.fr i _ c; ⟨v, e, q v H (Same.refl H) h⟩
theorem xn (i : Nat) {x : Str} (hN : X.N[i]? = some x := by rfl) (hv : Vis X.env.scope x := by first | exact Or.inl rfl | exact Or.inr (Or.inl rfl) | exact Or.inr (Or.inr rfl))
    (hd : (x == ("__debug__" : Str)) = false := by decide) (hcd : (x == ("__classdict__" : Str)) = false := by decide) : PE X (.Name x pos) (tXI X.K G (fun ρ => isI ρ i) fun ρ => getI ρ i) :=
  toX (pe_var hN hv hd hcd) fun _ _ H _ _ _ R c q => let ⟨v, e, h⟩ := R.fr i _ c; ⟨v, e, q v H (Same.refl H) h⟩
theorem xl (i : Nat) {x : Str} (hN : X.N[i]? = some x := by rfl) (hv : Vis X.env.scope x := by first | exact Or.inl rfl | exact Or.inr (Or.inl rfl) | exact Or.inr (Or.inr rfl))
    (hd : (x == ("__debug__" : Str)) = false := by decide) (hcd : (x == ("__classdict__" : Str)) = false := by decide) : PE X (.Name x pos) (tXL X.K G (fun ρ => isL ρ i) fun ρ => getL ρ i) :=
  toX (pe_var hN hv hd hcd) fun _ _ H _ _ _ R c q => let ⟨v, e, h⟩ := R.fr i _ c; ⟨v, e, q v H (Same.refl H) h⟩
theorem xr (i : Nat) {x : Str} (hN : X.N[i]? = some x := by rfl) (hv : Vis X.env.scope x := by first | exact Or.inl rfl | exact Or.inr (Or.inl rfl) | exact Or.inr (Or.inr rfl))
    (hd : (x == ("__debug__" : Str)) = false := by decide) (hcd : (x == ("__classdict__" : Str)) = false := by decide) : PE X (.Name x pos) (tX X.K G (fun ρ => ρ[i]? = some (.fr (.scr (getL ρ i)))) fun ρ => .scr (getL ρ i)) :=
  toX (pe_var hN hv hd hcd) fun _ _ H _ _ _ R c q => let ⟨v, e, h⟩ := R.fr i _ c; ⟨v, e, q v H (Same.refl H) h⟩
theorem xs (i : Nat) {x : Str} (hN : X.N[i]? = some x := by rfl) (hv : Vis X.env.scope x := by first | exact Or.inl rfl | exact Or.inr (Or.inl rfl) | exact Or.inr (Or.inr rfl))
    (hd : (x == ("__debug__" : Str)) = false := by decide) (hcd : (x == ("__classdict__" : Str)) = false := by decide) : PE X (.Name x pos) (tXS X.K G (fun ρ => isS ρ i) fun ρ => getS ρ i) :=
  toX (pe_var hN hv hd hcd) fun _ _ H _ _ _ R c q => let ⟨v, e, h⟩ := R.fr i _ c; ⟨v, e, q v H (Same.refl H) h⟩
theorem xb (i : Nat) {x : Str} (hN : X.N[i]? = some x := by rfl) (hv : Vis X.env.scope x := by first | exact Or.inl rfl | exact Or.inr (Or.inl rfl) | exact Or.inr (Or.inr rfl))
    (hd : (x == ("__debug__" : Str)) = false := by decide) (hcd : (x == ("__classdict__" : Str)) = false := by decide) : PE X (.Name x pos) (tXB X.K G (fun ρ => isB ρ i) fun ρ => getB ρ i = true) :=
  toX (pe_var hN hv hd hcd) fun _ _ H _ _ _ R c q => let ⟨v, e, h⟩ := R.fr i _ c; ⟨v, e, q v H (Same.refl H) (by rw [Bool.decide_eq_true]; exact h)⟩
/-- two values, one behind the other -/
theorem two {r : R2} {ga gb : En → PV} {σ : L2.St} {H : Hp} {B : Bs} {ρ : En} {O : Addr → Bool} {Q : VK} (R : Rep X.K G B σ H ρ O) (ca : Ca ρ) (cb : Cb ρ) (q : ∀ v u H1 H2, Same H H1 → Same H1 H2 → At X.K G (mn H2 O) (ga ρ) v → At X.K G (mn H2 O) (gb ρ) u → r v u H2 Q) :
    tOp r (tX X.K G Ca ga) (tX X.K G Cb gb) σ H Q :=
  ⟨B, ρ, O, R, ca, fun v H1 s1 a1 => ⟨B, ρ, O, R.grow s1, cb, fun u H2 s2 a2 => q v u H1 H2 s1 s2 (At.mono (mn_same s2) _ _ a1) a2⟩⟩
theorem xn_op {op : Operator} {C : Int → Int → Prop} {g : Int → Int → Int} (ho : OpR X (binaryOp op) (rI C fun i j => .int (g i j))) (ha : PE X a (tXI X.K G Ca ga)) (hb : PE X b (tXI X.K G Cb gb)) :
    PE X (.BinOp a op b pos) (tXI X.K G (fun ρ => Ca ρ ∧ Cb ρ ∧ C (ga ρ) (gb ρ)) fun ρ => g (ga ρ) (gb ρ)) :=
  toX (pe_op ho ha hb) fun _ _ _ _ _ _ R c q => two R c.1 c.2.1 fun _ _ _ H2 s1 s2 a1 a2 => ⟨_, _, a1, a2, c.2.2, q _ H2 (s1.trans s2) rfl⟩
theorem xn_op0 {op : Operator} {g : Int → Int → Int} (ho : OpR X (binaryOp op) (rI0 fun i j => .int (g i j))) (ha : PE X a (tXI X.K G Ca ga)) (hb : PE X b (tXI X.K G Cb gb)) :
    PE X (.BinOp a op b pos) (tXI X.K G (fun ρ => Ca ρ ∧ Cb ρ) fun ρ => g (ga ρ) (gb ρ)) :=
  toX (pe_op ho ha hb) fun _ _ _ _ _ _ R c q => two R c.1 c.2 fun _ _ _ H2 s1 s2 a1 a2 => ⟨_, _, a1, a2, q _ H2 (s1.trans s2) rfl⟩
theorem xn_add (ha : PE X a (tXI X.K G Ca ga)) (hb : PE X b (tXI X.K G Cb gb)) : PE X (.BinOp a .Add b pos) (tXI X.K G (fun ρ => Ca ρ ∧ Cb ρ) fun ρ => ga ρ + gb ρ) := xn_op0 op_add ha hb
theorem xn_sub (ha : PE X a (tXI X.K G Ca ga)) (hb : PE X b (tXI X.K G Cb gb)) : PE X (.BinOp a .Sub b pos) (tXI X.K G (fun ρ => Ca ρ ∧ Cb ρ) fun ρ => ga ρ - gb ρ) := xn_op0 op_sub ha hb
theorem xn_mul (ha : PE X a (tXI X.K G Ca ga)) (hb : PE X b (tXI X.K G Cb gb)) : PE X (.BinOp a .Mult b pos) (tXI X.K G (fun ρ => Ca ρ ∧ Cb ρ ∧ IntMulOk (ga ρ) (gb ρ)) fun ρ => ga ρ * gb ρ) := xn_op op_mulB ha hb
theorem xn_mod (ha : PE X a (tXI X.K G Ca ga)) (hb : PE X b (tXI X.K G Cb gb)) : PE X (.BinOp a .Mod b pos) (tXI X.K G (fun ρ => Ca ρ ∧ Cb ρ ∧ 0 < gb ρ) fun ρ => ga ρ % gb ρ) := xn_op op_mod ha hb
theorem xn_div (ha : PE X a (tXI X.K G Ca ga)) (hb : PE X b (tXI X.K G Cb gb)) : PE X (.BinOp a .FloorDiv b pos) (tXI X.K G (fun ρ => Ca ρ ∧ Cb ρ ∧ CDivB (ga ρ) (gb ρ)) fun ρ => ga ρ / gb ρ) := xn_op op_fdivB ha hb
theorem xn_pow (ha : PE X a (tXI X.K G Ca ga)) (hb : PE X b (tXI X.K G Cb gb)) : PE X (.BinOp a .Pow b pos) (tXI X.K G (fun ρ => Ca ρ ∧ Cb ρ ∧ CPow (ga ρ) (gb ρ)) fun ρ => ga ρ ^ (gb ρ).toNat) := xn_op op_pow ha hb
theorem xn_neg (ha : PE X a (tXI X.K G Ca ga)) : PE X (.UnaryOp .USub a pos) (tXI X.K G Ca fun ρ => -ga ρ) :=
  toX (pe_un un_neg ha) fun B _ _ ρ O _ R c q => ⟨B, ρ, O, R, c, fun _ H1 s1 a1 => ⟨_, a1, q _ H1 s1 rfl⟩⟩
/-! tests -/
theorem xt_cmp {op : CmpOp} {p : Int → Int → Prop} [∀ i j, Decidable (p i j)] (ho : OpR X (compareOp op) (rI0 fun i j => .bl (decide (p i j)))) (hm : behindInMarks op b = false) (ha : PE X a (tXI X.K G Ca ga)) (hb : PE X b (tXI X.K G Cb gb)) :
    PT X (.Compare a [op] [b] pos) (tXT X.K G (fun ρ => Ca ρ ∧ Cb ρ) fun ρ => p (ga ρ) (gb ρ)) :=
  fun pins s σ H Q I ⟨_, _, _, R, c, q⟩ => pt_cmpR ho ha hb hm pins s σ H Q I (two R c.1 c.2 fun _ _ _ H2 s1 s2 a1 a2 => ⟨_, _, a1, a2, _, rfl, q H2 (s1.trans s2)⟩)
theorem xe_cmp {op : CmpOp} {p : Int → Int → Prop} [∀ i j, Decidable (p i j)] (ho : OpR X (compareOp op) (rI0 fun i j => .bl (decide (p i j)))) (hm : behindInMarks op b = false) (ha : PE X a (tXI X.K G Ca ga)) (hb : PE X b (tXI X.K G Cb gb)) :
    PE X (.Compare a [op] [b] pos) (tXB X.K G (fun ρ => Ca ρ ∧ Cb ρ) fun ρ => p (ga ρ) (gb ρ)) :=
  toX (pe_cmpR ho ha hb hm) fun _ _ _ _ _ _ R c q => two R c.1 c.2 fun _ _ _ H2 s1 s2 a1 a2 => ⟨_, _, a1, a2, q _ H2 (s1.trans s2) rfl⟩
theorem xt_lt (ha : PE X a (tXI X.K G Ca ga)) (hb : PE X b (tXI X.K G Cb gb)) : PT X (.Compare a [.Lt] [b] pos) (tXT X.K G (fun ρ => Ca ρ ∧ Cb ρ) fun ρ => ga ρ < gb ρ) := xt_cmp op_lt (nomark _) ha hb
theorem xt_le (ha : PE X a (tXI X.K G Ca ga)) (hb : PE X b (tXI X.K G Cb gb)) : PT X (.Compare a [.LtE] [b] pos) (tXT X.K G (fun ρ => Ca ρ ∧ Cb ρ) fun ρ => ga ρ ≤ gb ρ) := xt_cmp op_le (nomark _) ha hb
theorem xt_gt (ha : PE X a (tXI X.K G Ca ga)) (hb : PE X b (tXI X.K G Cb gb)) : PT X (.Compare a [.Gt] [b] pos) (tXT X.K G (fun ρ => Ca ρ ∧ Cb ρ) fun ρ => gb ρ < ga ρ) := xt_cmp (p := fun i j => j < i) op_gt (nomark _) ha hb
theorem xt_ge (ha : PE X a (tXI X.K G Ca ga)) (hb : PE X b (tXI X.K G Cb gb)) : PT X (.Compare a [.GtE] [b] pos) (tXT X.K G (fun ρ => Ca ρ ∧ Cb ρ) fun ρ => gb ρ ≤ ga ρ) := xt_cmp (p := fun i j => j ≤ i) op_ge (nomark _) ha hb
theorem xt_eq (ha : PE X a (tXI X.K G Ca ga)) (hb : PE X b (tXI X.K G Cb gb)) : PT X (.Compare a [.Eq] [b] pos) (tXT X.K G (fun ρ => Ca ρ ∧ Cb ρ) fun ρ => ga ρ = gb ρ) := xt_cmp op_eqI (nomark _) ha hb
theorem xt_ne (ha : PE X a (tXI X.K G Ca ga)) (hb : PE X b (tXI X.K G Cb gb)) : PT X (.Compare a [.NotEq] [b] pos) (tXT X.K G (fun ρ => Ca ρ ∧ Cb ρ) fun ρ => ¬ ga ρ = gb ρ) := xt_cmp (p := fun i j => ¬ i = j) op_neI (nomark _) ha hb
theorem xe_gt (ha : PE X a (tXI X.K G Ca ga)) (hb : PE X b (tXI X.K G Cb gb)) : PE X (.Compare a [.Gt] [b] pos) (tXB X.K G (fun ρ => Ca ρ ∧ Cb ρ) fun ρ => gb ρ < ga ρ) := xe_cmp (p := fun i j => j < i) op_gt (nomark _) ha hb
theorem xe_eq (ha : PE X a (tXI X.K G Ca ga)) (hb : PE X b (tXI X.K G Cb gb)) : PE X (.Compare a [.Eq] [b] pos) (tXB X.K G (fun ρ => Ca ρ ∧ Cb ρ) fun ρ => ga ρ = gb ρ) := xe_cmp op_eqI (nomark _) ha hb
theorem xe_ne (ha : PE X a (tXI X.K G Ca ga)) (hb : PE X b (tXI X.K G Cb gb)) : PE X (.Compare a [.NotEq] [b] pos) (tXB X.K G (fun ρ => Ca ρ ∧ Cb ρ) fun ρ => ¬ ga ρ = gb ρ) := xe_cmp (p := fun i j => ¬ i = j) op_neI (nomark _) ha hb
variable {pa pb : En → Prop} [∀ ρ, Decidable (pa ρ)] [∀ ρ, Decidable (pb ρ)] {rest : List Expr}
theorem xt_V {e : Expr} (h : PE X e (tXB X.K G Ca pa)) (he : ∀ whole, isTrue e X.env whole = (do let v ← whole; standAt e.pos; holding [v] (truthy v)) := by intro _; rfl) : PT X e (tXT X.K G Ca pa) :=
  fun pins s σ H Q I ⟨B, ρ, O, R, c, q⟩ => pt_val h he pins s σ H Q I ⟨B, ρ, O, R, c, fun _ H1 s1 a1 => ⟨_, a1, q H1 s1⟩⟩
theorem xt_not (ha : PT X a (tXT X.K G Ca pa)) : PT X (.UnaryOp .Not a pos) (tXT X.K G Ca fun ρ => ¬ pa ρ) :=
  fun pins s σ H Q I ⟨B, ρ, O, R, c, q⟩ => L2.pt_not ha pins s σ H Q I ⟨B, ρ, O, R, c, fun H1 s1 => by have z := q H1 s1; rw [decide_not] at z; exact z⟩
theorem xw_or1 (ha : PT X a (tXT X.K G Ca pa)) : PW X (.BoolOp .Or [a] pos) (tXT X.K G Ca pa) := pw_or1 ha
theorem xw_and1 (ha : PT X a (tXT X.K G Ca pa)) : PW X (.BoolOp .And [a] pos) (tXT X.K G Ca pa) := pw_and1 ha
theorem xw_or (ha : PT X a (tXT X.K G Ca pa)) (hb : PW X (.BoolOp .Or (b :: rest) pos) (tXT X.K G Cb pb)) : PW X (.BoolOp .Or (a :: b :: rest) pos) (tXT X.K G (fun ρ => Ca ρ ∧ (¬ pa ρ → Cb ρ)) fun ρ => pa ρ ∨ pb ρ) :=
  fun wh pins s σ H Q I ⟨B, ρ, O, R, c, q⟩ => pw_or ha hb wh pins s σ H Q I ⟨B, ρ, O, R, c.1, fun H1 s1 => by
    by_cases d : pa ρ
    · have z := q H1 s1
      rw [decide_eq_true (Or.inl d : pa ρ ∨ pb ρ)] at z
      rw [decide_eq_true d]; refine iteT ?_; exact z
    · rw [decide_eq_false d]; refine iteF ?_
      refine ⟨B, ρ, O, R.grow s1, c.2 d, fun H2 s2 => ?_⟩
      have z := q H2 (s1.trans s2)
      have e : decide (pa ρ ∨ pb ρ) = decide (pb ρ) := by simp [d]
      rw [e] at z; exact z⟩
theorem xw_and (ha : PT X a (tXT X.K G Ca pa)) (hb : PW X (.BoolOp .And (b :: rest) pos) (tXT X.K G Cb pb)) : PW X (.BoolOp .And (a :: b :: rest) pos) (tXT X.K G (fun ρ => Ca ρ ∧ (pa ρ → Cb ρ)) fun ρ => pa ρ ∧ pb ρ) :=
  fun wh pins s σ H Q I ⟨B, ρ, O, R, c, q⟩ => pw_and ha hb wh pins s σ H Q I ⟨B, ρ, O, R, c.1, fun H1 s1 => by
    by_cases d : pa ρ
    · rw [decide_eq_true d]; refine iteT ?_
      refine ⟨B, ρ, O, R.grow s1, c.2 d, fun H2 s2 => ?_⟩
      have z := q H2 (s1.trans s2)
      have e : decide (pa ρ ∧ pb ρ) = decide (pb ρ) := by simp [d]
      rw [e] at z; exact z
    · have z := q H1 s1
      rw [decide_eq_false (fun y => d y.1 : ¬ (pa ρ ∧ pb ρ))] at z
      rw [decide_eq_false d]; refine iteF ?_; exact z⟩
theorem xe_not (ha : PE X a (tXB X.K G Ca pa)) : PE X (.UnaryOp .Not a pos) (tXB X.K G Ca fun ρ => ¬ pa ρ) :=
  toX (pe_not ha) fun B _ _ ρ O _ R c q => ⟨B, ρ, O, R, c, fun _ H1 s1 a1 => ⟨_, a1, q _ H1 s1 (by rw [decide_not]; rfl)⟩⟩
theorem xe_or (ha : PE X a (tXB X.K G Ca pa)) (hb : PE X (.BoolOp .Or (b :: rest) pos) (tXB X.K G Cb pb)) : PE X (.BoolOp .Or (a :: b :: rest) pos) (tXB X.K G (fun ρ => Ca ρ ∧ (¬ pa ρ → Cb ρ)) fun ρ => pa ρ ∨ pb ρ) :=
  toX (pe_or ha hb) fun B _ _ ρ O _ R c q => ⟨B, ρ, O, R, c.1, fun _ H1 s1 a1 => ⟨_, a1, by
    by_cases d : pa ρ
    · have z := q (.bl true) H1 s1 (by rw [decide_eq_true (Or.inl d : pa ρ ∨ pb ρ)]; rfl)
      rw [decide_eq_true d]; refine iteT ?_; exact z
    · rw [decide_eq_false d]; refine iteF ?_
      refine ⟨B, ρ, O, R.grow s1, c.2 d, fun v H2 s2 a2 => q v H2 (s1.trans s2) ?_⟩
      have e : decide (pa ρ ∨ pb ρ) = decide (pb ρ) := by simp [d]
      rw [e]; exact a2⟩⟩
theorem xe_and (ha : PE X a (tXB X.K G Ca pa)) (hb : PE X (.BoolOp .And (b :: rest) pos) (tXB X.K G Cb pb)) : PE X (.BoolOp .And (a :: b :: rest) pos) (tXB X.K G (fun ρ => Ca ρ ∧ (pa ρ → Cb ρ)) fun ρ => pa ρ ∧ pb ρ) :=
  toX (pe_and ha hb) fun B _ _ ρ O _ R c q => ⟨B, ρ, O, R, c.1, fun _ H1 s1 a1 => ⟨_, a1, by
    by_cases d : pa ρ
    · rw [decide_eq_true d]; refine iteT ?_
      refine ⟨B, ρ, O, R.grow s1, c.2 d, fun v H2 s2 a2 => q v H2 (s1.trans s2) ?_⟩
      have e : decide (pa ρ ∧ pb ρ) = decide (pb ρ) := by simp [d]
      rw [e]; exact a2
    · have z := q (.bl false) H1 s1 (by rw [decide_eq_false (fun y => d y.1 : ¬ (pa ρ ∧ pb ρ))]; rfl)
      rw [decide_eq_false d]; refine iteF ?_; exact z⟩⟩
/-! several values -/
variable {es : List Expr} {gs : En → List PV}
theorem xa_nil : PA X [] (tXs X.K G (fun _ => True) fun _ => []) := fun pos pins s σ H Q I ⟨_, _, _, _, _, q⟩ => pa_nil pos pins s σ H Q I (q [] H (Same.refl H) rfl)
theorem xa_cons (ha : PE X e (tX X.K G Ca g)) (hr : PA X es (tXs X.K G Cb gs)) (hs : starEach (e :: es) X.env = (false, eval e X.env) :: starEach es X.env := by rfl) : PA X (e :: es) (tXs X.K G (fun ρ => Ca ρ ∧ Cb ρ) fun ρ => g ρ :: gs ρ) :=
  fun pos pins s σ H Q I ⟨B, ρ, O, R, c, q⟩ => pa_cons ha hr hs pos pins s σ H Q I ⟨B, ρ, O, R, c.1, fun v H1 s1 a1 => ⟨B, ρ, O, R.grow s1, c.2, fun vs H2 s2 a2 => q _ H2 (s1.trans s2) ⟨v, vs, rfl, At.mono (mn_same s2) _ _ a1, a2⟩⟩⟩
end
end L3

/-! ### statements over pure values -/
namespace L3
open PySem PySem.Spec PyProof.Rows L2
structure Ps where
  nx : En → Prop
  rt : PV → Prop
  rl : List Int → Prop := fun _ => False
  rn : PV → Prop := fun _ => False
  bk : En → Prop := fun _ => False
  ct : En → Prop := fun _ => False
  er : Addr → Prop := fun _ => False
/-- what an error, by its class, owes -/
noncomputable abbrev ER := Addr → Hp → Prop
noncomputable abbrev ER0 : ER := fun _ _ => False
noncomputable abbrev FS := Ps → En → Prop
noncomputable def RepE (K : PySem.W.Frag) (G : Gx) (B : Bs) (σ : L2.St) (H : Hp) (ρ : En) : Prop := ∃ O, Rep K G B σ H ρ O
/-- what the ends of a pure reading owe to the ends of the machine's -/
structure Owe (K : PySem.W.Frag) (G : Gx) (Er : ER) (B : Bs) (P : Ps) (D : Ends) : Prop where
  nx : ∀ σ H ρ, RepE K G B σ H ρ → P.nx ρ → D.nx σ H
  rt : ∀ v H p, Same B.H0 H → At K G (mn H B.Oc) p v → P.rt p → D.rt v H
  rl : ∀ a H ns, Same B.H0 H → B.H0 a = none → H a = some (.lst (ns.map V.int)) → P.rl ns → D.rt (.ref a) H
  rn : ∀ v H p, Same B.H0 H → At K G (mn H fun a => (B.H0 a).isSome) p v → P.rn p → D.rt v H
  bk : ∀ σ H ρ, RepE K G B σ H ρ → P.bk ρ → D.bk σ H
  ct : ∀ σ H ρ, RepE K G B σ H ρ → P.ct ρ → D.ct σ H
  er : ∀ H C, Same B.H0 H → P.er C → Er C H
noncomputable def ts (K : PySem.W.Frag) (G : Gx) (Er : ER) (f : FS) : TS := fun D σ H => ∃ B ρ P, RepE K G B σ H ρ ∧ f P ρ ∧ Owe K G Er B P D
section
variable {X : Cx} {G : Gx} {Er : ER} {pos : Pos} {st : Stmt} {sts : List Stmt} {f f1 f2 : FS} {C : En → Prop} {e : Expr} {t : TS}
theorem toS (h : PS X st t) (k : ∀ B σ H ρ O P D, Rep X.K G B σ H ρ O → f P ρ → Owe X.K G Er B P D → t D σ H) : PS X st (ts X.K G Er f) :=
  fun pins s σ H D I ⟨B, ρ, P, ⟨O, R⟩, c, w⟩ => h pins s σ H D I (k B σ H ρ O P D R c w)
theorem xss_nil : PSs X [] (ts X.K G Er fun P ρ => P.nx ρ) := fun pins s σ H D I ⟨_, ρ, _, R, c, w⟩ => pss_nil pins s σ H D I (w.nx σ H ρ R c)
theorem xss_one (h : PS X st (ts X.K G Er f)) : PSs X [st] (ts X.K G Er f) := pss_one h
theorem xss_cons (h1 : PS X st (ts X.K G Er f1)) (h2 : PSs X sts (ts X.K G Er f2)) : PSs X (st :: sts) (ts X.K G Er fun P ρ => f1 { P with nx := f2 P } ρ) :=
  fun pins s σ H D I ⟨B, ρ, P, R, c, w⟩ => pss_cons h1 h2 pins s σ H D I ⟨B, ρ, { P with nx := f2 P }, R, c, ⟨fun _ _ ρ' R' c' => ⟨B, ρ', P, R', c', w⟩, w.rt, w.rl, w.rn, w.bk, w.ct, w.er⟩⟩
/-- the same, with a word J for what is true between the two -/
theorem xss_join (h1 : PS X st (ts X.K G Er f1)) (h2 : PSs X sts (ts X.K G Er f2)) : PSs X (st :: sts) (ts X.K G Er fun P ρ => ∃ J : En → Prop, f1 { P with nx := J } ρ ∧ ∀ ρ', J ρ' → f2 P ρ') :=
  fun pins s σ H D I ⟨B, ρ, P, R, ⟨J, c, k⟩, w⟩ => pss_cons h1 h2 pins s σ H D I ⟨B, ρ, { P with nx := J }, R, c, ⟨fun _ _ ρ' R' c' => ⟨B, ρ', P, R', k ρ' c', w⟩, w.rt, w.rl, w.rn, w.bk, w.ct, w.er⟩⟩
/-- from here on the list in slot i is not changed -/
theorem xss_freeze (i : Nat) (h : PSs X sts (ts X.K G Er f)) : PSs X sts (ts X.K G Er fun P ρ => f P (frz ρ i)) :=
  fun pins s σ H D I ⟨B, ρ, P, ⟨_, R⟩, c, w⟩ => h pins s σ H D I ⟨B, frz ρ i, P, R.freeze i, c, w⟩
theorem xst_never : PS X st (ts X.K G Er fun _ _ => False) := toS ps_never fun _ _ _ _ _ _ _ _ c _ => c
theorem xst_ret {g : En → PV} (h : PE X e (tX X.K G C g)) : PS X (.Return (some e) pos) (ts X.K G Er fun P ρ => C ρ ∧ P.rt (g ρ)) :=
  toS (ps_ret h) fun B _ _ ρ O _ _ R c w => ⟨B, ρ, O, R, c.1, fun v H1 s1 a1 => w.rt v H1 _ (R.same.trans s1) (At.mono (mn_anti R.hid) _ _ a1) c.2⟩
/-- return a new list of numbers; the list of one's own in slot i -/
theorem xst_retl {g : En → List Int} (h : PE X e (tXl X.K G C g)) : PS X (.Return (some e) pos) (ts X.K G Er fun P ρ => C ρ ∧ P.rl (g ρ)) :=
  toS (ps_ret h) fun B _ _ ρ O _ _ R c w => ⟨B, ρ, O, R, c.1, fun a H1 s1 n1 e1 => w.rl a H1 _ (R.same.trans s1) (R.same.free n1) e1 c.2⟩
theorem xst_retO (i : Nat) {x : Str} {px : Pos} (hN : X.N[i]? = some x := by rfl) (hv : Vis X.env.scope x := by first | exact Or.inl rfl | exact Or.inr (Or.inl rfl) | exact Or.inr (Or.inr rfl))
    (hd : (x == ("__debug__" : Str)) = false := by decide) (hcd : (x == ("__classdict__" : Str)) = false := by decide) : PS X (.Return (some (.Name x px)) pos) (ts X.K G Er fun P ρ => isO ρ i ∧ P.rl (getL ρ i)) :=
  toS (ps_ret (pe_var hN hv hd hcd)) fun B _ H ρ O _ _ R c w => by
    obtain ⟨a, vs, e1, e2, e3, e4, e5⟩ := R.ow i _ c.1
    have e5 : vs = (getL ρ i).map V.int := e5
    subst e5
    exact ⟨_, e1, w.rl a H _ R.same e3 e4 c.2⟩
/-- x = a value, a number, a list of numbers that is not changed later -/
theorem xst_set {i : Nat} {x : Str} {pos' : Pos} {g : En → PV} (hN : X.N.Nodup) (hi : X.N[i]? = some x) (hx : Loc X.env.scope x) (he : PE X e (tX X.K G C g)) (hs : swapsWith e (some (.Name x pos')) pos.line X.env = pure false := by rfl)
    (hf : X.fn x = true ∨ X.env.scope.names.lookup x = some .local := by first | exact .inl rfl | exact .inr rfl | assumption) : PS X (.Assign [.Name x pos'] e pos) (ts X.K G Er fun P ρ => C ρ ∧ P.nx (ρ.set i (.fr (g ρ)))) :=
  toS (ps_set hN hi hx he hs hf) fun B σ _ ρ O _ _ R c w => ⟨B, ρ, O, R, c.1, fun _ H1 s1 a1 => w.nx _ H1 _ ⟨O, (R.grow s1).set a1⟩ c.2⟩
theorem xst_setP {i : Nat} {x : Str} {pos' : Pos} {g : En → PV} (hN : X.N.Nodup) (hi : X.N[i]? = some x) (hx : Loc X.env.scope x) (he : PE X e (tX X.K G C g)) (hs : swapsWith e (some (.Name x pos')) pos.line X.env = pure false := by rfl)
    (hf : X.fn x = true ∨ X.env.scope.names.lookup x = some .local := by first | exact .inl rfl | exact .inr rfl | assumption) : PS X (.Assign [.Name x pos'] e pos) (ts X.K G Er fun P ρ => C ρ ∧ ∀ p, p = g ρ → P.nx (ρ.set i (.fr p))) :=
  toS (xst_set hN hi hx he hs hf) fun B σ _ ρ O P D R c w => ⟨B, ρ, P, ⟨O, R⟩, ⟨c.1, c.2 _ rfl⟩, w⟩
theorem xst_setI {i : Nat} {x : Str} {pos' : Pos} {g : En → Int} (hN : X.N.Nodup) (hi : X.N[i]? = some x) (hx : Loc X.env.scope x) (he : PE X e (tXI X.K G C g)) (hs : swapsWith e (some (.Name x pos')) pos.line X.env = pure false := by rfl)
    (hf : X.fn x = true ∨ X.env.scope.names.lookup x = some .local := by first | exact .inl rfl | exact .inr rfl | assumption) : PS X (.Assign [.Name x pos'] e pos) (ts X.K G Er fun P ρ => C ρ ∧ ∀ n, n = g ρ → P.nx (ρ.set i (.fr (.int n)))) :=
  toS (xst_set hN hi hx he hs hf) fun B σ _ ρ O P D R c w => ⟨B, ρ, P, ⟨O, R⟩, ⟨c.1, c.2 _ rfl⟩, w⟩
theorem xst_setL {i : Nat} {x : Str} {pos' : Pos} {g : En → List Int} (hN : X.N.Nodup) (hi : X.N[i]? = some x) (hx : Loc X.env.scope x) (he : PE X e (tXL X.K G C g)) (hs : swapsWith e (some (.Name x pos')) pos.line X.env = pure false := by rfl)
    (hf : X.fn x = true ∨ X.env.scope.names.lookup x = some .local := by first | exact .inl rfl | exact .inr rfl | assumption) : PS X (.Assign [.Name x pos'] e pos) (ts X.K G Er fun P ρ => C ρ ∧ ∀ ns, ns = g ρ → P.nx (ρ.set i (.fr (.ints ns)))) :=
  toS (xst_set hN hi hx he hs hf) fun B σ _ ρ O P D R c w => ⟨B, ρ, P, ⟨O, R⟩, ⟨c.1, c.2 _ rfl⟩, w⟩
/-- x = a new list of numbers, one's own from here on -/
theorem xst_own {i : Nat} {x : Str} {pos' : Pos} {g : En → List Int} (hN : X.N.Nodup) (hi : X.N[i]? = some x) (hx : Loc X.env.scope x) (he : PE X e (tXl X.K G C g)) (hs : swapsWith e (some (.Name x pos')) pos.line X.env = pure false := by rfl)
    (hf : X.fn x = true ∨ X.env.scope.names.lookup x = some .local := by first | exact .inl rfl | exact .inr rfl | assumption) : PS X (.Assign [.Name x pos'] e pos) (ts X.K G Er fun P ρ => C ρ ∧ ∀ ns, ns = g ρ → P.nx (ρ.set i (.ow (.ints ns)))) :=
  toS (ps_set hN hi hx he hs hf) fun B σ _ ρ O _ _ R c w => ⟨B, ρ, O, R, c.1, fun a H1 s1 n1 e1 => w.nx _ H1 _ ⟨hide a O, R.new (p := .ints (g ρ)) s1 n1 e1 rfl⟩ (c.2 _ rfl)⟩
theorem xst_ownP {i : Nat} {x : Str} {pos' : Pos} {g : En → List PV} (hN : X.N.Nodup) (hi : X.N[i]? = some x) (hx : Loc X.env.scope x) (he : PE X e (tXp X.K G C g)) (hs : swapsWith e (some (.Name x pos')) pos.line X.env = pure false := by rfl)
    (hf : X.fn x = true ∨ X.env.scope.names.lookup x = some .local := by first | exact .inl rfl | exact .inr rfl | assumption) : PS X (.Assign [.Name x pos'] e pos) (ts X.K G Er fun P ρ => C ρ ∧ ∀ ns, ns = g ρ → P.nx (ρ.set i (.ow (.lst ns)))) :=
  toS (ps_set hN hi hx he hs hf) fun B σ _ ρ O _ _ R c w => ⟨B, ρ, O, R, c.1, fun a vs H1 s1 n1 e1 al => w.nx _ H1 _ ⟨hide a O, R.new (p := .lst (g ρ)) s1 n1 e1 al⟩ (c.2 _ rfl)⟩
theorem xst_if {c : Expr} {a b : List Stmt} {p : En → Prop} [∀ ρ, Decidable (p ρ)] (hc : PT X c (tXT X.K G C p)) (ha : PSs X a (ts X.K G Er f1)) (hb : PSs X b (ts X.K G Er f2)) : PS X (.If c a b pos) (ts X.K G Er fun P ρ => C ρ ∧ (p ρ → f1 P ρ) ∧ (¬ p ρ → f2 P ρ)) :=
  toS (ps_if hc ha hb) fun B σ _ ρ O P D R c w => ⟨B, ρ, O, R, c.1, fun H1 s1 => by
    by_cases d : p ρ
    · rw [decide_eq_true d]; refine iteT ?_; exact ⟨B, ρ, P, ⟨O, R.grow s1⟩, c.2.1 d, w⟩
    · rw [decide_eq_false d]; refine iteF ?_; exact ⟨B, ρ, P, ⟨O, R.grow s1⟩, c.2.2 d, w⟩⟩
theorem xst_while {c : Expr} {body : List Stmt} {p : En → Prop} [∀ ρ, Decidable (p ρ)] (hp : PassesOwn (model X.prog X.w) X.A X.env X.xe) (hc : PT X c (tXT X.K G C p)) (hb : PSs X body (ts X.K G Er f)) :
    PS X (.While c body [] pos) (ts X.K G Er fun P ρ => ∃ (W : En → Prop) (μ : En → Nat), W ρ ∧ ∀ ρ, W ρ → C ρ ∧ (p ρ → f { P with nx := fun ρ' => W ρ' ∧ μ ρ' < μ ρ, ct := fun ρ' => W ρ' ∧ μ ρ' < μ ρ, bk := P.nx } ρ) ∧ (¬ p ρ → P.nx ρ)) :=
  toS (ps_while hp hc hb) fun B σ H ρ O P D R c w => by
    obtain ⟨W, μ, w0, st⟩ := c
    refine ⟨fun m σ H => ∃ ρ, RepE X.K G B σ H ρ ∧ W ρ ∧ m = μ ρ, ⟨μ ρ, ρ, ⟨O, R⟩, w0, rfl⟩, ?_⟩
    rintro m σ H ⟨ρ, ⟨O, R⟩, hw, rfl⟩
    obtain ⟨c1, c2, c3⟩ := st ρ hw
    refine ⟨B, ρ, O, R, c1, fun H1 s1 => ?_⟩
    by_cases d : p ρ
    · rw [decide_eq_true d]; refine iteT ?_
      refine ⟨fun σ' H' => ∃ ρ', RepE X.K G B σ' H' ρ' ∧ W ρ' ∧ μ ρ' < μ ρ, fun σ' H' ⟨ρ', R', h1, h2⟩ => ⟨_, h2, ρ', R', h1, rfl⟩, B, ρ, _, ⟨O, R.grow s1⟩, c2 d, ⟨fun σ' H' ρ' R' h => ⟨ρ', R', h⟩, w.rt, w.rl, w.rn, w.nx, fun σ' H' ρ' R' h => ⟨ρ', R', h⟩, w.er⟩⟩
    · rw [decide_eq_false d]; refine iteF ?_; exact w.nx σ H1 ρ ⟨O, R.grow s1⟩ (c3 d)
/-- for k in range(n) -/
theorem xst_forR {k : Nat} {x : Str} {a : Expr} {body : List Stmt} {g : En → Int} {p px pos' : Pos} (hp : PassesOwn (model X.prog X.w) X.A X.env X.xe) (hc : X.calm = true) (hg : Gl X "range") (hm : X.mg "range" = none) (ha : PE X a (tXI X.K G C g)) (hN : X.N.Nodup) (hi : X.N[k]? = some x) (hx : Loc X.env.scope x)
    (hb : PSs X body (ts X.K G Er f)) (hs : starEach [a] X.env = [(false, eval a X.env)] := by rfl) (hfs : ∀ x, foldedSetIterable (.Call (.Name "range" p) [a] [] pos') X.env x = pure x := by intro _; rfl)
    (hf : X.fn x = true ∨ X.env.scope.names.lookup x = some .local := by first | exact .inl rfl | exact .inr rfl | assumption) :
    PS X (.For (.Name x px) (.Call (.Name "range" p) [a] [] pos') body [] pos) (ts X.K G Er fun P ρ => C ρ ∧ (-(2 ^ 62) ≤ g ρ ∧ g ρ < 2 ^ 62) ∧ ∃ W : Nat → En → Prop, W 0 ρ ∧ (∀ i ρ', i < (g ρ).toNat → W i ρ' → f { P with nx := W (i + 1), ct := W (i + 1), bk := P.nx } (ρ'.set k (.fr (.int i)))) ∧ ∀ ρ', W (g ρ).toNat ρ' → P.nx ρ') :=
  toS (ps_for hp hc (pi_range1 hg hm (pa_cons ha pa_nil hs) hs) (pg_name hN hi hx hf) hb hfs) fun B σ H ρ O P D R c w => by
    obtain ⟨c1, ⟨l1, l2⟩, W, w0, st, nd⟩ := c
    refine ⟨B, ρ, O, R, c1, fun v H1 s1 a1 => ?_⟩
    have a1 : v = .int (g ρ) := a1
    subst a1
    refine ⟨g ρ, rfl, l1, l2, for_range (fun i σ H => ∃ ρ', RepE X.K G B σ H ρ' ∧ W i ρ') ⟨ρ, ⟨O, R.grow s1⟩, w0⟩ ?_ ?_⟩
    · rintro i σ H hi ⟨ρ', ⟨O', R'⟩, hw⟩
      have e : (0 : Int) + i = i := by omega
      rw [e]
      exact ⟨B, _, _, ⟨O', R'.set (p := .int i) rfl⟩, st i ρ' hi hw, ⟨fun σ' H' ρ' R' h => ⟨ρ', R', h⟩, w.rt, w.rl, w.rn, w.nx, fun σ' H' ρ' R' h => ⟨ρ', R', h⟩, w.er⟩⟩
    · rintro σ H ⟨ρ', R', hw⟩
      exact w.nx σ H ρ' R' (nd ρ' hw)
theorem xst_forR2 {k : Nat} {x : Str} {a b : Expr} {body : List Stmt} {Cb : En → Prop} {g h : En → Int} {p px pos' : Pos} (hp : PassesOwn (model X.prog X.w) X.A X.env X.xe) (hc : X.calm = true) (hg : Gl X "range") (hm : X.mg "range" = none) (ha : PE X a (tXI X.K G C g)) (hb' : PE X b (tXI X.K G Cb h)) (hN : X.N.Nodup) (hi : X.N[k]? = some x) (hx : Loc X.env.scope x)
    (hb : PSs X body (ts X.K G Er f)) (hs : starEach [a, b] X.env = [(false, eval a X.env), (false, eval b X.env)] := by rfl) (hs2 : starEach [b] X.env = [(false, eval b X.env)] := by rfl) (hfs : ∀ x, foldedSetIterable (.Call (.Name "range" p) [a, b] [] pos') X.env x = pure x := by intro _; rfl)
    (hf : X.fn x = true ∨ X.env.scope.names.lookup x = some .local := by first | exact .inl rfl | exact .inr rfl | assumption) :
    PS X (.For (.Name x px) (.Call (.Name "range" p) [a, b] [] pos') body [] pos) (ts X.K G Er fun P ρ => (C ρ ∧ Cb ρ) ∧ (-(2 ^ 62) ≤ g ρ ∧ g ρ < 2 ^ 62 ∧ -(2 ^ 62) ≤ h ρ ∧ h ρ < 2 ^ 62) ∧
      ∃ W : Nat → En → Prop, W 0 ρ ∧ (∀ i ρ', i < (h ρ - g ρ).toNat → W i ρ' → f { P with nx := W (i + 1), ct := W (i + 1), bk := P.nx } (ρ'.set k (.fr (.int (g ρ + i))))) ∧ ∀ ρ', W (h ρ - g ρ).toNat ρ' → P.nx ρ') :=
  toS (ps_for hp hc (pi_range2 hg hm (pa_cons ha (pa_cons hb' pa_nil hs2) (by rw [hs, hs2])) hs hs2) (pg_name hN hi hx hf) hb hfs) fun B σ H ρ O P D R c w => by
    obtain ⟨⟨c1, c2⟩, l, W, w0, st, nd⟩ := c
    refine ⟨B, ρ, O, R, c1, fun v H1 s1 a1 => ⟨B, ρ, O, R.grow s1, c2, fun u H2 s2 a2 => ?_⟩⟩
    have a1 : v = .int (g ρ) := a1
    have a2 : u = .int (h ρ) := a2
    subst a1 a2
    refine ⟨g ρ, h ρ, rfl, l, for_range (fun i σ H => ∃ ρ', RepE X.K G B σ H ρ' ∧ W i ρ') ⟨ρ, ⟨O, (R.grow s1).grow s2⟩, w0⟩ ?_ ?_⟩
    · rintro i σ H hi ⟨ρ', ⟨O', R'⟩, hw⟩
      exact ⟨B, _, _, ⟨O', R'.set (p := .int _) rfl⟩, st i ρ' hi hw, ⟨fun σ' H' ρ' R' h => ⟨ρ', R', h⟩, w.rt, w.rl, w.rn, w.nx, fun σ' H' ρ' R' h => ⟨ρ', R', h⟩, w.er⟩⟩
    · rintro σ H ⟨ρ', R', hw⟩
      exact w.nx σ H ρ' R' (nd ρ' hw)
theorem owe_base {B : Bs} {σ : L2.St} {H : Hp} {ρ : En} {O : Addr → Bool} {K : PySem.W.Frag} {P : Ps} {D : Ends} (R : Rep K G B σ H ρ O) (w : Owe K G Er B P D) : Owe K G Er (B.at H O) P D :=
  ⟨fun σ' H' ρ' ⟨O', R'⟩ h => w.nx σ' H' ρ' ⟨O', R.unbase R'⟩ h, fun v H' p s a h => w.rt v H' p (R.base_le.trans s) a h, fun a H' ns s n e h => w.rl a H' ns (R.base_le.trans s) (R.base_le.free n) e h, fun v H' p s a h => w.rn v H' p (R.base_le.trans s) (At.mono (mn_anti fun b z => by
    obtain ⟨o, e⟩ := Option.isSome_iff_exists.mp z
    exact Option.isSome_iff_exists.mpr ⟨o, R.base_le _ _ e⟩) _ _ a) h, fun σ' H' ρ' ⟨O', R'⟩ h => w.bk σ' H' ρ' ⟨O', R.unbase R'⟩ h, fun σ' H' ρ' ⟨O', R'⟩ h => w.ct σ' H' ρ' ⟨O', R.unbase R'⟩ h, fun H' C s h => w.er H' C (R.base_le.trans s) h⟩
/-- for x in a list of numbers that is not changed -/
theorem xst_forL {k : Nat} {x : Str} {l : Expr} {body : List Stmt} {g : En → List Int} {px : Pos} (hp : PassesOwn (model X.prog X.w) X.A X.env X.xe) (hc : X.calm = true) (hl : PE X l (tXL X.K G C g)) (hN : X.N.Nodup) (hi : X.N[k]? = some x) (hx : Loc X.env.scope x)
    (hb : PSs X body (ts X.K G Er f)) (hfs : ∀ x, foldedSetIterable l X.env x = pure x := by intro _; rfl) (hf : X.fn x = true ∨ X.env.scope.names.lookup x = some .local := by first | exact .inl rfl | exact .inr rfl | assumption) :
    PS X (.For (.Name x px) l body [] pos) (ts X.K G Er fun P ρ => C ρ ∧ ∃ W : Nat → En → Prop, W 0 ρ ∧ (∀ i n ρ', (g ρ)[i]? = some n → W i ρ' → f { P with nx := W (i + 1), ct := W (i + 1), bk := P.nx } (ρ'.set k (.fr (.int n)))) ∧ ∀ ρ', W (g ρ).length ρ' → P.nx ρ') :=
  toS (ps_for hp hc (pi_list hl) (pg_name hN hi hx hf) hb hfs) fun B σ H ρ O P D R c w => by
    obtain ⟨c1, W, w0, st, nd⟩ := c
    refine ⟨B, ρ, O, R, c1, fun v H1 s1 a1 => ?_⟩
    obtain ⟨a, e, hq⟩ := a1
    have R1 := R.grow s1
    have w1 := owe_base R1 w
    refine ⟨a, e, ⟨_, .inl (same_rd mn_le hq)⟩, for_list (xs := (g ρ).map V.int) (fun i σ H => ∃ ρ', RepE X.K G (B.at H1 O) σ H ρ' ∧ W i ρ') ⟨ρ, ⟨O, R1.rebase⟩, w0⟩ ?_ ?_ ?_⟩
    · rintro i σ H _ ⟨ρ', ⟨O', R'⟩, _⟩
      exact .inl (same_rd ((Rep.base_mn B H1 O).trans R'.same) hq)
    · rintro i y σ H hy ⟨ρ', ⟨O', R'⟩, hw⟩
      rw [List.getElem?_map] at hy
      cases en : (g ρ)[i]? with
      | none => rw [en] at hy; cases hy
      | some n =>
        rw [en] at hy
        have hy : V.int n = y := Option.some.inj hy
        subst hy
        exact ⟨_, _, _, ⟨O', R'.set (p := .int n) rfl⟩, st i n ρ' en hw, ⟨fun σ' H' ρ' R' h => ⟨ρ', R', h⟩, w1.rt, w1.rl, w1.rn, w1.nx, fun σ' H' ρ' R' h => ⟨ρ', R', h⟩, w1.er⟩⟩
    · rintro σ H ⟨ρ', R', hw⟩
      rw [List.length_map] at hw
      exact w1.nx σ H ρ' R' (nd ρ' hw)
/-- for x in a list of values -/
theorem xst_forP {k : Nat} {x : Str} {l : Expr} {body : List Stmt} {g : En → List PV} {px : Pos} (hp : PassesOwn (model X.prog X.w) X.A X.env X.xe) (hc : X.calm = true) (hl : PE X l (tX X.K G C fun ρ => .lst (g ρ))) (hN : X.N.Nodup) (hi : X.N[k]? = some x) (hx : Loc X.env.scope x)
    (hb : PSs X body (ts X.K G Er f)) (hfs : ∀ x, foldedSetIterable l X.env x = pure x := by intro _; rfl) (hf : X.fn x = true ∨ X.env.scope.names.lookup x = some .local := by first | exact .inl rfl | exact .inr rfl | assumption) :
    PS X (.For (.Name x px) l body [] pos) (ts X.K G Er fun P ρ => C ρ ∧ ∃ W : Nat → En → Prop, W 0 ρ ∧ (∀ i n ρ', (g ρ)[i]? = some n → W i ρ' → f { P with nx := W (i + 1), ct := W (i + 1), bk := P.nx } (ρ'.set k (.fr n))) ∧ ∀ ρ', W (g ρ).length ρ' → P.nx ρ') :=
  toS (ps_for hp hc (pi_list hl) (pg_name hN hi hx hf) hb hfs) fun B σ H ρ O P D R c w => by
    obtain ⟨c1, W, w0, st, nd⟩ := c
    refine ⟨B, ρ, O, R, c1, fun v H1 s1 a1 => ?_⟩
    obtain ⟨a, vs, e, hq, hal⟩ := a1
    have R1 := R.grow s1
    have w1 := owe_base R1 w
    have el := hal.length
    refine ⟨a, e, ⟨_, .inl (same_rd mn_le hq)⟩, for_list (xs := vs) (fun i σ H => ∃ ρ', RepE X.K G (B.at H1 O) σ H ρ' ∧ W i ρ') ⟨ρ, ⟨O, R1.rebase⟩, w0⟩ ?_ ?_ ?_⟩
    · rintro i σ H _ ⟨ρ', ⟨O', R'⟩, _⟩
      exact .inl (same_rd ((Rep.base_mn B H1 O).trans R'.same) hq)
    · rintro i y σ H hy ⟨ρ', ⟨O', R'⟩, hw⟩
      obtain ⟨n, en, an⟩ := hal.get hy
      exact ⟨_, _, _, ⟨O', R'.set (At.mono (R1.seen R') _ _ an)⟩, st i n ρ' en hw, ⟨fun σ' H' ρ' R' h => ⟨ρ', R', h⟩, w1.rt, w1.rl, w1.rn, w1.nx, fun σ' H' ρ' R' h => ⟨ρ', R', h⟩, w1.er⟩⟩
    · rintro σ H ⟨ρ', R', hw⟩
      rw [← el] at hw
      exact w1.nx σ H ρ' R' (nd ρ' hw)
/-- for k, x in enumerate(a list of numbers) -/
theorem xst_forE {k j : Nat} {x y : Str} {l : Expr} {body : List Stmt} {g : En → List Int} {px py p pos' tp : Pos} {kk : Nat} (hp : PassesOwn (model X.prog X.w) X.A X.env X.xe) (hc : X.calm = true) (hg : Gl X "enumerate") (hm : X.mg "enumerate" = none) (hl : PE X l (tXL X.K G C g))
    (hgt : PG X (.Tuple [.Name x px, .Name y py] kk tp) (gTup X.K 2 (gCons (gName k) (gCons (gName j) gNil)))) (hb : PSs X body (ts X.K G Er f)) (hs : starEach [l] X.env = [(false, eval l X.env)] := by rfl)
    (hfs : ∀ x, foldedSetIterable (.Call (.Name "enumerate" p) [l] [] pos') X.env x = pure x := by intro _; rfl) :
    PS X (.For (.Tuple [.Name x px, .Name y py] kk tp) (.Call (.Name "enumerate" p) [l] [] pos') body [] pos) (ts X.K G Er fun P ρ => C ρ ∧ ∃ W : Nat → En → Prop, W 0 ρ ∧
      (∀ i n ρ', (g ρ)[i]? = some n → W i ρ' → f { P with nx := W (i + 1), ct := W (i + 1), bk := P.nx } ((ρ'.set k (.fr (.int i))).set j (.fr (.int n)))) ∧ ∀ ρ', W (g ρ).length ρ' → P.nx ρ') :=
  toS (ps_for hp hc (pi_enum hg hm (pa_cons hl pa_nil hs) hs) hgt hb hfs) fun B σ H ρ O P D R c w => by
    obtain ⟨c1, W, w0, st, nd⟩ := c
    refine ⟨B, ρ, O, R, c1, fun v H1 s1 a1 => ?_⟩
    obtain ⟨a, e, hq⟩ := a1
    subst e
    have R1 := R.grow s1
    have w1 := owe_base R1 w
    refine ⟨a, rfl, ⟨_, .inl (same_rd mn_le hq)⟩, for_enum (xs := (g ρ).map V.int) (fun i σ H => ∃ ρ', RepE X.K G (B.at H1 O) σ H ρ' ∧ W i ρ') ⟨ρ, ⟨O, R1.rebase⟩, w0⟩ ?_ ?_ ?_⟩
    · rintro i σ H _ ⟨ρ', ⟨O', R'⟩, _⟩
      exact .inl (same_rd ((Rep.base_mn B H1 O).trans R'.same) hq)
    · rintro i y σ H T hy ⟨ρ', ⟨O', R'⟩, hw⟩ hT
      obtain ⟨n, rfl, en⟩ := int_at hy
      refine ⟨T, _, rfl, SqT.of upd_same, rfl, _, _, rfl, _, _, rfl, rfl, ?_⟩
      exact ⟨_, _, _, ⟨O', ((R'.grow (same_new hT _)).set (p := .int i) rfl).set (p := .int n) rfl⟩, st i n ρ' en hw, ⟨fun σ' H' ρ' R' h => ⟨ρ', R', h⟩, w1.rt, w1.rl, w1.rn, w1.nx, fun σ' H' ρ' R' h => ⟨ρ', R', h⟩, w1.er⟩⟩
    · rintro σ H ⟨ρ', R', hw⟩
      rw [List.length_map] at hw
      exact w1.nx σ H ρ' R' (nd ρ' hw)
end
end L3

/-! ### lists, calls, changes over pure values -/
namespace L3
open PySem PySem.Spec PyProof.Rows L2
theorem getD_at {ns : List Int} {i : Int} (h1 : -(ns.length : Int) ≤ i) (h2 : i < ns.length) : atI (ns.map V.int) i = some (V.int (ns.getD (if 0 ≤ i then i else i + ns.length).toNat 0)) := by
  by_cases c0 : 0 ≤ i
  · rw [if_pos c0]; exact atI_int c0 h2
  · rw [if_neg c0]
    have q2 := atI_int (ns := ns) (i := i + ns.length) (by omega) (by omega)
    unfold atI ixN at q2 ⊢
    rw [List.length_map] at q2 ⊢
    rw [if_pos (show 0 ≤ i + (ns.length : Int) by omega), if_pos (show i + (ns.length : Int) < (ns.length : Int) by omega)] at q2
    rw [if_neg c0, if_pos h1]
    exact q2
/-- the place that an index means -/
noncomputable def ixO (n : Nat) (i : Int) : Nat := (if 0 ≤ i then i else i + n).toNat
theorem ixN_ok {n : Nat} {i : Int} (h1 : -(n : Int) ≤ i) (h2 : i < n) : ixN n i = some (ixO n i) := by
  unfold ixN ixO
  by_cases c : 0 ≤ i
  · rw [if_pos c, if_pos h2, if_pos c]
  · rw [if_neg c, if_pos h1, if_neg c]
theorem ixO_lt {n : Nat} {i : Int} (h1 : -(n : Int) ≤ i) (h2 : i < n) : ixO n i < n := by
  unfold ixO
  by_cases c : 0 ≤ i
  · rw [if_pos c]; omega
  · rw [if_neg c]; omega
section
variable {X : Cx} {G : Gx} {Er : ER} {a b e : Expr} {pos p px : Pos} {C Ca Cb : En → Prop} {ga gb : En → Int} {i : Nat} {es : List Expr}
/-- x[k], x a list of numbers -/
theorem xn_item (i : Nat) {x : Str} (hb : PE X b (tXI X.K G Cb gb)) (hs : PlainIx b) (hN : X.N[i]? = some x := by rfl) (hv : Vis X.env.scope x := by first | exact Or.inl rfl | exact Or.inr (Or.inl rfl) | exact Or.inr (Or.inr rfl))
    (hd : (x == ("__debug__" : Str)) = false := by decide) (hcd : (x == ("__classdict__" : Str)) = false := by decide) :
    PE X (.Subscript (.Name x px) b pos) (tXI X.K G (fun ρ => isLO ρ i ∧ Cb ρ ∧ -((getL ρ i).length : Int) ≤ gb ρ ∧ gb ρ < ((getL ρ i).length : Int)) fun ρ => (getL ρ i).getD (ixO (getL ρ i).length (gb ρ)) 0) :=
  toX (pe_ix ix_list (pe_var hN hv hd hcd) hb hs) fun B σ H ρ O Q R c q => by
    obtain ⟨a, e1, e2⟩ := R.readL c.1
    exact ⟨_, e1, B, ρ, O, R, c.2.1, fun u H1 s1 a1 => ⟨a, _, _, _, rfl, a1, s1.seq e2, getD_at c.2.2.1 c.2.2.2, q _ H1 s1 rfl⟩⟩
theorem xn_len (i : Nat) {x : Str} (hm : X.mg "len" = none) (hN : X.N[i]? = some x := by rfl) (hg : Gl X "len" := by rfl) (hv : Vis X.env.scope x := by first | exact Or.inl rfl | exact Or.inr (Or.inl rfl) | exact Or.inr (Or.inr rfl))
    (hd : (x == ("__debug__" : Str)) = false := by decide) (hcd : (x == ("__classdict__" : Str)) = false := by decide) (he : starEach [.Name x px] X.env = [(false, eval (.Name x px) X.env)] := by rfl) :
    PE X (.Call (.Name "len" p) [.Name x px] [] pos) (tXI X.K G (fun ρ => isLO ρ i) fun ρ => ((getL ρ i).length : Int)) :=
  toX (pe_callB call_len_seq hg hm bt_len (pa_cons (pe_var hN hv hd hcd) pa_nil he) (by decide) (by decide) he rfl) fun B σ H ρ O Q R c q => by
    obtain ⟨a, e1, e2⟩ := R.readL c
    exact ⟨_, e1, a, _, rfl, .inl e2, by rw [List.length_map]; exact q _ H (Same.refl H) rfl⟩
/-- len of any list or tuple -/
noncomputable def lenP : PV → Int
  | .ints ns => (ns.length : Int)
  | .scr ns => (ns.length : Int)
  | .lst xs => (xs.length : Int)
  | .tup xs => (xs.length : Int)
  | _ => 0
noncomputable def hasLen : PV → Prop
  | .ints _ => True
  | .scr _ => True
  | .lst _ => True
  | .tup _ => True
  | _ => False
theorem At.len {K : PySem.W.Frag} {H : Hp} {p : PV} {v : V} (h : At K G H p v) (hl : hasLen p) : ∃ a ys, v = .ref a ∧ (SqL K H a ys ∨ SqT K H a ys) ∧ (ys.length : Int) = lenP p := by
  cases p <;> first | exact hl.elim | skip
  · obtain ⟨a, e, q⟩ := h; exact ⟨a, _, e, .inl (.inl q), by rw [List.length_map]; rfl⟩
  · obtain ⟨a, e, q⟩ := h; exact ⟨a, _, e, .inl q, by rw [List.length_map]; rfl⟩
  · obtain ⟨a, vs, e, q, r⟩ := h; exact ⟨a, vs, e, .inl (.inl q), by rw [← r.length]; rfl⟩
  · obtain ⟨a, vs, e, q, r⟩ := h; exact ⟨a, vs, e, .inr (SqT.of q), by rw [← r.length]; rfl⟩
theorem xn_lenP {g : En → PV} (hm : X.mg "len" = none) (ha : PE X a (tX X.K G C g)) (hg : Gl X "len" := by rfl) (he : starEach [a] X.env = [(false, eval a X.env)] := by rfl) :
    PE X (.Call (.Name "len" p) [a] [] pos) (tXI X.K G (fun ρ => C ρ ∧ hasLen (g ρ)) fun ρ => lenP (g ρ)) :=
  toX (pe_callB call_len_seq hg hm bt_len (pa_cons ha pa_nil he) (by decide) (by decide) he rfl) fun B σ H ρ O Q R c q => ⟨B, ρ, O, R, c.1, fun v H1 s1 a1 => by
    obtain ⟨a, ys, e, s, l⟩ := a1.len c.2
    exact ⟨a, ys, by rw [e], s.imp (fun z => mn_le.seq z) (fun z => same_tup mn_le z), by rw [l]; exact q _ H1 s1 rfl⟩⟩
/-- an item of a list or tuple of values -/
noncomputable def itP : PV → Int → PV
  | .lst xs, k => xs.getD (ixO xs.length k) .non
  | .tup xs, k => xs.getD (ixO xs.length k) .non
  | .ints ns, k => .int (ns.getD (ixO ns.length k) 0)
  | _, _ => .non
noncomputable def hasIt : PV → Int → Prop
  | .lst xs, k => -(xs.length : Int) ≤ k ∧ k < xs.length
  | .tup xs, k => -(xs.length : Int) ≤ k ∧ k < xs.length
  | .ints xs, k => -(xs.length : Int) ≤ k ∧ k < xs.length
  | _, _ => False
theorem AtL.item {K : PySem.W.Frag} {H : Hp} {ps : List PV} {vs : List V} {k : Int} (h : AtL K G H ps vs) (h1 : -(ps.length : Int) ≤ k) (h2 : k < ps.length) : ∃ v, atI vs k = some v ∧ At K G H (ps.getD (ixO ps.length k) .non) v := by
  have l := ixO_lt h1 h2
  have e : ps[ixO ps.length k]? = some (ps.getD (ixO ps.length k) .non) := by rw [List.getD_eq_getElem?_getD, List.getElem?_eq_getElem l]; rfl
  obtain ⟨v, ev, av⟩ := h.at e
  refine ⟨v, ?_, av⟩
  unfold atI
  rw [← h.length, ixN_ok h1 h2]
  exact ev
theorem xp_item {g : En → PV} (ha : PE X a (tX X.K G Ca g)) (hb : PE X b (tXI X.K G Cb gb)) (hs : PlainIx b) : PE X (.Subscript a b pos) (tX X.K G (fun ρ => Ca ρ ∧ Cb ρ ∧ hasIt (g ρ) (gb ρ)) fun ρ => itP (g ρ) (gb ρ)) :=
  toX (pe_ix ix_seq ha hb hs) fun B σ H ρ O Q R c q => two R c.1 c.2.1 fun v u H1 H2 s1 s2 a1 a2 => by
    have h := c.2.2
    revert a1 h q
    generalize g ρ = pg
    intro q a1 h
    cases pg <;> first | exact h.elim | skip
    · obtain ⟨p, e, r⟩ := a1
      exact .inl ⟨p, _, _, _, e, a2, .inl (same_rd mn_le r), getD_at h.1 h.2, q _ H2 (s1.trans s2) rfl⟩
    · obtain ⟨p, vs, e, r, t⟩ := a1
      obtain ⟨v', e', a'⟩ := t.item h.1 h.2
      exact .inl ⟨p, vs, _, v', e, a2, .inl (same_rd mn_le r), e', q _ H2 (s1.trans s2) a'⟩
    · obtain ⟨p, vs, e, r, t⟩ := a1
      obtain ⟨v', e', a'⟩ := t.item h.1 h.2
      exact .inr (.inl ⟨p, vs, _, v', e, a2, SqT.of (mn_le _ _ r), e', q _ H2 (s1.trans s2) a'⟩)
/-- the truth of a list's name -/
theorem xt_list (i : Nat) {x : Str} (hN : X.N[i]? = some x := by rfl) (hv : Vis X.env.scope x := by first | exact Or.inl rfl | exact Or.inr (Or.inl rfl) | exact Or.inr (Or.inr rfl))
    (hd : (x == ("__debug__" : Str)) = false := by decide) (hcd : (x == ("__classdict__" : Str)) = false := by decide) : PT X (.Name x pos) (tXT X.K G (fun ρ => isLO ρ i) fun ρ => ¬ getL ρ i = []) :=
  fun pins s σ H Q I ⟨B, ρ, O, R, c, q⟩ => pt_truth (pe_var hN hv hd hcd) (fun _ => rfl) pins s σ H Q I (by
    obtain ⟨a, e1, e2⟩ := R.readL c
    refine ⟨_, e1, _, .inl ⟨_, e2, rfl⟩, ?_⟩
    have z := q H (Same.refl H)
    have e : (!((getL ρ i).map V.int).isEmpty) = decide (¬ getL ρ i = []) := by cases getL ρ i <;> simp
    rw [e]; exact z)
/-- [a, b, ..] of numbers -/
noncomputable def allI : List PV → List Int
  | .int n :: r => n :: allI r
  | _ => []
noncomputable def areI : List PV → Prop
  | [] => True
  | .int _ :: r => areI r
  | _ => False
theorem AtL.ints {K : PySem.W.Frag} {H : Hp} : ∀ {ps : List PV} {vs : List V}, AtL K G H ps vs → areI ps → vs = (allI ps).map V.int
  | [], _, h, _ => h
  | p :: ps, _, h, c => by
    cases p <;> first | exact c.elim | skip
    obtain ⟨v, r, rfl, e, t⟩ := h
    have e : v = _ := e
    rw [e, AtL.ints t c]
    rfl
theorem xl_lst {gs : En → List PV} (h : PA X es (tXs X.K G C gs)) (hz : ∀ ρ, (gs ρ).length ≤ 1000 := by intro _; exact Nat.le_of_ble_eq_true rfl) : PE X (.List es pos) (tXl X.K G (fun ρ => C ρ ∧ areI (gs ρ)) fun ρ => allI (gs ρ)) :=
  toXl (pe_lst h) fun B σ H ρ O Q R c q => ⟨B, ρ, O, R, c.1, fun vs H1 s1 a1 => ⟨by rw [← a1.length]; exact Nat.le_of_lt (small1000 (hz ρ)), fun a ha => by
    have e := a1.ints c.2
    refine q a _ (s1.trans (same_new ha _)) (s1.free ha) ?_
    rw [upd_same, e]⟩⟩
theorem xp_lst {gs : En → List PV} (h : PA X es (tXs X.K G C gs)) (hz : ∀ ρ, (gs ρ).length ≤ 1000 := by intro _; exact Nat.le_of_ble_eq_true rfl) : PE X (.List es pos) (tXp X.K G C gs) :=
  fun pins s σ H Q I ⟨B, ρ, O, R, c, q⟩ => pe_lst h pins s σ H Q I ⟨B, ρ, O, R, c, fun vs H1 s1 a1 => ⟨by rw [← a1.length]; exact Nat.le_of_lt (small1000 (hz ρ)), fun a ha =>
    q a vs _ (s1.trans (same_new ha _)) (s1.free ha) upd_same (AtL.mono (mn_hide (same_new ha _) ha) _ _ a1)⟩⟩
theorem xp_tup {gs : En → List PV} {x1} (h : PA X es (tXs X.K G C gs)) (hz : ∀ ρ, (gs ρ).length ≤ 1000 := by intro _; exact Nat.le_of_ble_eq_true rfl) : PE X (.Tuple es x1 pos) (tX X.K G C fun ρ => .tup (gs ρ)) :=
  toX (pe_tup h) fun B σ H ρ O Q R c q => ⟨B, ρ, O, R, c, fun vs H1 s1 a1 => ⟨by rw [← a1.length]; exact Nat.le_of_lt (small1000 (hz ρ)), fun a ha => by
    have o : O a = false := by
      cases z : O a with
      | false => rfl
      | true => exact absurd (s1.free ha) (R.dom a z)
    refine q (.ref a) _ (s1.trans (same_new ha _)) ⟨a, vs, rfl, by rw [mn_of o]; exact upd_same, AtL.mono (mn_same (same_new ha _)) _ _ a1⟩⟩⟩
/-- list(x) of numbers -/
theorem xl_list {g : En → PV} {ns : En → List Int} (hm : X.mg "list" = none) (ha : PE X a (tX X.K G C g)) (hn : ∀ ρ, g ρ = .ints (ns ρ) ∨ g ρ = .scr (ns ρ)) (hg : Gl X "list" := by rfl) (he : starEach [a] X.env = [(false, eval a X.env)] := by rfl) :
    PE X (.Call (.Name "list" p) [a] [] pos) (tXl X.K G C ns) :=
  toXl (pe_callTy call_list_of hg hm bt_list (pa_cons ha pa_nil he) (by decide) (by decide) he rfl) fun B σ H ρ O Q R c q => ⟨B, ρ, O, R, c, fun v H1 s1 a1 => by
    have key : ∃ p, v = .ref p ∧ SqL X.K H1 p ((ns ρ).map V.int) := by
      rcases hn ρ with z | z
      · rw [z] at a1; obtain ⟨p, e, r⟩ := a1; exact ⟨p, e, .inl (same_rd mn_le r)⟩
      · rw [z] at a1; obtain ⟨p, e, r⟩ := a1; exact ⟨p, e, mn_le.seq r⟩
    obtain ⟨p, rfl, r⟩ := key
    exact ⟨p, _, rfl, .inl r, fun l hl => q l _ (s1.trans (same_new hl _)) (s1.free hl) upd_same⟩⟩
/-- x[lo:hi] of numbers -/
noncomputable def cutI (xs : List Int) (lo hi : Option Int) : List Int := (xs.drop (HT.sIx xs.length 0 lo)).take (HT.sIx xs.length xs.length hi - HT.sIx xs.length 0 lo)
theorem cutV_map (xs : List Int) (lo hi : Option Int) : cutV (xs.map V.int) lo hi = (cutI xs lo hi).map V.int := by
  unfold cutV cutI
  rw [List.length_map, ← List.map_drop, ← List.map_take]
noncomputable def tXo (K : PySem.W.Frag) (G : Gx) (C : En → Prop) (g : En → Option Int) : TO := fun σ H Q => ∃ B ρ O, Rep K G B σ H ρ O ∧ C ρ ∧ ∀ H', Same H H' → Q (g ρ) H'
theorem xo_none : PO X none (tXo X.K G (fun _ => True) fun _ => none) := fun pins s σ H Q I ⟨_, _, _, _, _, q⟩ => po_none pins s σ H Q I (q H (Same.refl H))
theorem xo_some (h : PE X e (tXI X.K G C ga)) : PO X (some e) (tXo X.K G C fun ρ => some (ga ρ)) := fun pins s σ H Q I ⟨B, ρ, O, R, c, q⟩ => po_some h pins s σ H Q I ⟨B, ρ, O, R, c, fun _ H1 s1 a1 => ⟨_, a1, q H1 s1⟩⟩
theorem xl_slice {lo hi : Option Expr} {p2 : Pos} {g : En → PV} {ns : En → List Int} {Cl Ch : En → Prop} {gl gh : En → Option Int} (ha : PE X a (tX X.K G C g)) (hl : PO X lo (tXo X.K G Cl gl)) (hh : PO X hi (tXo X.K G Ch gh)) (hn : ∀ ρ, C ρ → g ρ = .ints (ns ρ) ∨ g ρ = .scr (ns ρ)) :
    PE X (.Subscript a (.Slice lo hi none p2) pos) (tXl X.K G (fun ρ => C ρ ∧ Cl ρ ∧ Ch ρ) fun ρ => cutI (ns ρ) (gl ρ) (gh ρ)) :=
  toXl (pe_slice sl_list ha hl hh) fun B σ H ρ O Q R c q => ⟨B, ρ, O, R, c.1, fun v H1 s1 a1 => ⟨B, ρ, O, R.grow s1, c.2.1, fun H2 s2 => ⟨B, ρ, O, (R.grow s1).grow s2, c.2.2, fun H3 s3 => by
    have key : ∃ p, v = .ref p ∧ SqL X.K H1 p ((ns ρ).map V.int) := by
      rcases hn ρ c.1 with z | z
      · rw [z] at a1; obtain ⟨p, e, r⟩ := a1; exact ⟨p, e, .inl (same_rd mn_le r)⟩
      · rw [z] at a1; obtain ⟨p, e, r⟩ := a1; exact ⟨p, e, mn_le.seq r⟩
    obtain ⟨p, rfl, r⟩ := key
    refine ⟨p, _, rfl, (s2.trans s3).seq r, fun l hl => q l _ (((s1.trans s2).trans s3).trans (same_new hl _)) (((s1.trans s2).trans s3).free hl) ?_⟩
    rw [upd_same, cutV_map]⟩⟩⟩
/-- a list of numbers behind another -/
theorem Inv.lstR {X : Cx} {pins : List (Addr × Obj)} {σ : L2.St} {H : Hp} {s : Shared} {l : Addr} {xs : List V} (I : Inv X pins σ H s) (hH : Rd H l (.lst xs)) : xs.length ≤ sizeLine ∧ ∃ (its : List Value) (n : Nat), Vals xs its ∧ xs.length = its.length ∧ s.heap.get? l = some { cls := .type "list", data := .seq its.toArray n } := by
  obtain ⟨z, its, n, r, e⟩ := hH.ok I.hok
  exact ⟨z, its, n, r, r.length, e⟩
noncomputable def rCatR : R2 := fun x y H Q => ∃ l b xs zs, x = .ref l ∧ y = .ref b ∧ Rd H l (.lst xs) ∧ Rd H b (.lst zs) ∧ xs.length + zs.length ≤ sizeLine ∧ ∀ p, H p = none → Q (.ref p) (upd H p (.lst (xs ++ zs)))
theorem op_catR : OpR X (binaryOp .Add) rCatR := by
  intro pins s σ H x y v u Q I rx ry h
  obtain ⟨l, b, xs, zs, rfl, rfl, hH, hB, hz, q⟩ := h
  cases rx
  cases ry
  obtain ⟨z, its, n, r, hl, e⟩ := Inv.lstR I hH
  obtain ⟨z2, its2, n2, r2, hl2, e2⟩ := Inv.lstR I hB
  refine PySem.P.add_list e e2 ?_ (by rw [List.size_toArray, List.size_toArray]; omega)
  have ea : its.toArray ++ its2.toArray = (its ++ its2).toArray := by simp
  rw [ea]
  exact ⟨.ref _, _, I.lnew (t' := s.toks) (r.append r2) (by rw [List.length_append]; omega), rfl, q _ I.fresh⟩
theorem xl_cat {gl hl : En → List Int} (ha : PE X a (tXL X.K G Ca gl)) (hb : PE X b (tXL X.K G Cb hl)) : PE X (.BinOp a .Add b pos) (tXl X.K G (fun ρ => Ca ρ ∧ Cb ρ ∧ (gl ρ).length + (hl ρ).length ≤ sizeLine) fun ρ => gl ρ ++ hl ρ) :=
  toXl (pe_op op_catR ha hb) fun B σ H ρ O Q R c q => two R c.1 c.2.1 fun v u H1 H2 s1 s2 a1 a2 => by
    obtain ⟨l, rfl, r1⟩ := a1
    obtain ⟨b, rfl, r2⟩ := a2
    refine ⟨l, b, _, _, rfl, rfl, same_rd mn_le r1, same_rd mn_le r2, by rw [List.length_map, List.length_map]; exact c.2.2, fun p hp => q p _ ((s1.trans s2).trans (same_new hp _)) ((s1.trans s2).free hp) ?_⟩
    rw [upd_same, List.map_append]
theorem flat_rep {α : Type} (x : α) : ∀ k : Nat, (List.replicate k [x]).flatten = List.replicate k x
  | 0 => rfl
  | k + 1 => by rw [List.replicate_succ, List.flatten_cons, flat_rep x k]; rfl
/-- [x] * k -/
theorem xl_rep {gl : En → List Int} {n : En → Int} (ha : PE X a (tXl X.K G Ca gl)) (hb : PE X b (tXI X.K G Cb gb)) (hn : ∀ ρ, gl ρ = [n ρ]) : PE X (.BinOp a .Mult b pos) (tXl X.K G (fun ρ => Ca ρ ∧ Cb ρ ∧ -(2 ^ 63) ≤ gb ρ ∧ (gb ρ).toNat ≤ 1000) fun ρ => List.replicate (gb ρ).toNat (n ρ)) :=
  toXl (pe_op op_rep ha hb) fun B σ H ρ O Q R c q => ⟨B, ρ, O, R, c.1, fun l H1 s1 n1 e1 => ⟨B, ρ, O, R.grow s1, c.2.1, fun u H2 s2 a2 => by
    rw [hn ρ] at e1
    refine ⟨l, _, _, rfl, a2, s2 _ _ e1, c.2.2.1, by have := c.2.2.2; omega, ?_, fun p hp => q p _ ((s1.trans s2).trans (same_new hp _)) ((s1.trans s2).free hp) ?_⟩
    · rw [List.map_cons, List.map_nil, List.length_singleton, Nat.one_mul]
      exact Nat.le_of_lt (small1000 c.2.2.2)
    · rw [upd_same, List.map_cons, List.map_nil, flat_rep, List.map_replicate]⟩⟩
/-! calls of defs -/
end
/-- values in, a value out; nothing that stood is changed -/
noncomputable def spF (K : PySem.W.Frag) (G : Gx) (pre : List PV → Prop) (F : List PV → PV) : Sp := fun vs H Q _ => ∃ as O, (∀ a, O a = true → H a ≠ none) ∧ AtL K G (mn H O) as vs ∧ pre as ∧ ∀ v H', Same H H' → At K G (mn H' O) (F as) v → Q v H'
/-- values in, a new list of numbers out -/
noncomputable def spL (K : PySem.W.Frag) (G : Gx) (pre : List PV → Prop) (F : List PV → List Int) : Sp := fun vs H Q _ => ∃ as O, (∀ a, O a = true → H a ≠ none) ∧ AtL K G (mn H O) as vs ∧ pre as ∧ ∀ a H', Same H H' → H a = none → H' a = some (.lst ((F as).map V.int)) → Q (.ref a) H'
section
variable {X : Cx} {G : Gx} {Er : ER} {e : Expr} {es : List Expr} {pos p : Pos} {j k : Nat} {x : Str} {ps : List Str} {pre : List PV → Prop} {C : En → Prop} {gs : En → List PV}
theorem xc {F : List PV → PV} (o : Ok X.prog X.w X.K X.mg X.base j x ps (spF X.K G pre F)) (hr : Room k X.A) (ha : PA X (e :: es) (tXs X.K G C gs)) (hj : j ≤ k := by decide) (hg : Gl X x := by rfl) (hdb : (x == ("__debug__" : Str)) = false := by decide)
    (he : starEach (e :: es) X.env = (false, eval e X.env) :: starEach es X.env := by rfl) (hpl : (backTo pos (starEach es X.env)).any (·.1) = false := by rfl) :
    PE X (.Call (.Name x p) (e :: es) [] pos) (tX X.K G (fun ρ => C ρ ∧ pre (gs ρ)) fun ρ => F (gs ρ)) :=
  toX (pe_callO o hr ha hj hg hdb he hpl) fun B σ H ρ O Q R c q => ⟨B, ρ, O, R, c.1, fun vs H1 s1 a1 => by
    dsimp only
    rw [List.append_nil]
    exact ⟨gs ρ, O, (R.grow s1).dom, a1, c.2, fun v H2 s2 a2 => q v H2 (s1.trans s2) a2⟩⟩
theorem xcl {F : List PV → List Int} (o : Ok X.prog X.w X.K X.mg X.base j x ps (spL X.K G pre F)) (hr : Room k X.A) (ha : PA X (e :: es) (tXs X.K G C gs)) (hj : j ≤ k := by decide) (hg : Gl X x := by rfl) (hdb : (x == ("__debug__" : Str)) = false := by decide)
    (he : starEach (e :: es) X.env = (false, eval e X.env) :: starEach es X.env := by rfl) (hpl : (backTo pos (starEach es X.env)).any (·.1) = false := by rfl) :
    PE X (.Call (.Name x p) (e :: es) [] pos) (tXl X.K G (fun ρ => C ρ ∧ pre (gs ρ)) fun ρ => F (gs ρ)) :=
  toXl (pe_callO o hr ha hj hg hdb he hpl) fun B σ H ρ O Q R c q => ⟨B, ρ, O, R, c.1, fun vs H1 s1 a1 => by
    dsimp only
    rw [List.append_nil]
    exact ⟨gs ρ, O, (R.grow s1).dom, a1, c.2, fun a H2 s2 n2 e2 => q a H2 (s1.trans s2) (s1.free n2) e2⟩⟩
end
/-! a def begins -/
noncomputable def startR (N : List Str) (as : List PV) : En := as.map Sl.fr ++ List.replicate (N.length - as.length) .un
theorem rep_start {K : PySem.W.Frag} {G : Gx} {H : Hp} {O : Addr → Bool} {as : List PV} {vs : List V} {N : List Str} (hd : ∀ a, O a = true → H a ≠ none) (h : AtL K G (mn H O) as vs) : Rep K G ⟨H, O⟩ (L2.start N vs) H (startR N as) O := by
  have hl := h.length
  refine ⟨Same.refl H, hd, fun _ z => z, hd, fun _ z => .inl z, fun i p e => ?_, fun i p e => ?_, fun i j p q a e => ?_, by unfold L2.start startR; simp [hl], fun i xs ys e => ?_⟩
  · unfold startR at e
    by_cases c : i < as.length
    · rw [List.getElem?_append_left (by rw [List.length_map]; exact c), List.getElem?_map] at e
      cases e' : as[i]? with
      | none => rw [e'] at e; cases e
      | some p' =>
        rw [e'] at e
        cases e
        obtain ⟨v, ev, av⟩ := h.at e'
        refine ⟨v, ?_, av⟩
        unfold L2.start
        rw [List.getElem?_append_left (by rw [List.length_map, ← hl]; exact c), List.getElem?_map, ev]
        rfl
    · rw [List.getElem?_append_right (by rw [List.length_map]; omega), List.getElem?_replicate] at e
      split at e <;> cases e
  · exfalso
    unfold startR at e
    by_cases c : i < as.length
    · rw [List.getElem?_append_left (by rw [List.length_map]; exact c), List.getElem?_map] at e
      cases e' : as[i]? <;> rw [e'] at e <;> cases e
    · rw [List.getElem?_append_right (by rw [List.length_map]; omega), List.getElem?_replicate] at e
      split at e <;> cases e
  · exfalso
    unfold startR at e
    by_cases c : i < as.length
    · rw [List.getElem?_append_left (by rw [List.length_map]; exact c), List.getElem?_map] at e
      cases e' : as[i]? <;> rw [e'] at e <;> cases e
    · rw [List.getElem?_append_right (by rw [List.length_map]; omega), List.getElem?_replicate] at e
      split at e <;> cases e
  · exfalso
    unfold startR at e
    by_cases c : i < as.length
    · rw [List.getElem?_append_left (by rw [List.length_map]; exact c), List.getElem?_map] at e
      cases e' : as[i]? <;> rw [e'] at e <;> cases e
    · rw [List.getElem?_append_right (by rw [List.length_map]; omega), List.getElem?_replicate] at e
      split at e <;> cases e
section
variable {P : Program} {w : World} {K : PySem.W.Frag} {mg : Str → Option Value} {base : Heap} {G : Gx}
/-- a def that tells a value -/
theorem okF {x : Str} {st : Stmt} {N ps : List Str} {k : Nat} {pre : List PV → Prop} {F : List PV → PV} (d : Def K mg x st ps) (S : FnScope N ps (defScope st)) (len : ∀ as, pre as → as.length = ps.length)
    (hbody : ∀ (f : Addr) (cdv : Value) (A : Around) (outer : List Env) (s : Shared) (H : Hp) (E : XK), Room k (A.deeper (envOfC x (defScope st) s.heap.objs.size f cdv)) →
      ∃ fs, PSs (cxOf CX0 P w K mg base N x (defScope st) f cdv A outer s H E).nox (defBody st) (ts K G ER0 fs) ∧ ∀ as, pre as → fs { nx := fun _ => F as = .non, rt := fun p => p = F as, rl := fun ns => F as = .ints ns } (startR N as)) : Ok P w K mg base (k + 1) x ps (spF K G pre F) := by
  refine Def.ok d S (fun vs H Q E h => ?_) fun f cdv A outer s H vs Q E hr h => ?_
  · obtain ⟨as, O, _, al, hp, _⟩ := h
    rw [← al.length]; exact len as hp
  obtain ⟨as, O, hd, al, hp, q⟩ := h
  obtain ⟨fs, b, c⟩ := hbody f cdv A outer s H E hr
  refine ⟨_, b, ⟨H, O⟩, startR N as, _, ⟨O, rep_start hd al⟩, c as hp, ⟨fun σ' H' ρ' R' h => ?_, fun v H' p s' a' h => ?_, fun a H' ns s' n e h => ?_, fun _ _ _ _ _ h => h.elim, fun _ _ _ _ h => h, fun _ _ _ _ h => h, fun _ _ _ h => h⟩⟩
  · obtain ⟨O', R'⟩ := R'
    exact q .non H' R'.same (by rw [show F as = .non from h]; rfl)
  · have h : p = F as := h
    subst h
    exact q v H' s' a'
  · have h : F as = .ints ns := h
    refine q _ H' s' ?_
    rw [h]
    exact ⟨a, rfl, .inl (by
      rw [mn_of]
      · exact e
      · cases z : O a with
        | false => rfl
        | true => exact absurd n (hd a z))⟩
/-- a def that tells a new list of numbers -/
theorem okL {x : Str} {st : Stmt} {N ps : List Str} {k : Nat} {pre : List PV → Prop} {F : List PV → List Int} (d : Def K mg x st ps) (S : FnScope N ps (defScope st)) (len : ∀ as, pre as → as.length = ps.length)
    (hbody : ∀ (f : Addr) (cdv : Value) (A : Around) (outer : List Env) (s : Shared) (H : Hp) (E : XK), Room k (A.deeper (envOfC x (defScope st) s.heap.objs.size f cdv)) →
      ∃ fs, PSs (cxOf CX0 P w K mg base N x (defScope st) f cdv A outer s H E).nox (defBody st) (ts K G ER0 fs) ∧ ∀ as, pre as → fs { nx := fun _ => False, rt := fun _ => False, rl := fun ns => ns = F as } (startR N as)) : Ok P w K mg base (k + 1) x ps (spL K G pre F) := by
  refine Def.ok d S (fun vs H Q E h => ?_) fun f cdv A outer s H vs Q E hr h => ?_
  · obtain ⟨as, O, _, al, hp, _⟩ := h
    rw [← al.length]; exact len as hp
  obtain ⟨as, O, hd, al, hp, q⟩ := h
  obtain ⟨fs, b, c⟩ := hbody f cdv A outer s H E hr
  refine ⟨_, b, ⟨H, O⟩, startR N as, _, ⟨O, rep_start hd al⟩, c as hp, ⟨fun _ _ _ _ h => h.elim, fun _ _ _ _ _ h => h.elim, fun a H' ns s' n e h => ?_, fun _ _ _ _ _ h => h.elim, fun _ _ _ _ h => h, fun _ _ _ _ h => h, fun _ _ _ h => h⟩⟩
  have h : ns = F as := h
  subst h
  exact q a H' s' n e
end
/-! ### changes of a list of one's own -/
/-- a def that changes the list of numbers it is handed alone -/
noncomputable def spM (pre : List Int → Prop) (F : List Int → List Int) : Sp := fun vs H Q _ => ∃ a ns, vs = [.ref a] ∧ H a = some (.lst (ns.map V.int)) ∧ pre ns ∧ ∀ H', (∀ b o, b ≠ a → H b = some o → H' b = some o) → H' a = some (.lst ((F ns).map V.int)) → Q .non H'
theorem upd_le {H H' : Hp} {a : Addr} {o : HO} (h : ∀ b o, b ≠ a → H b = some o → H' b = some o) (e : H' a = some o) : Same (upd H a o) H' := fun b u z => by
  by_cases c : b = a
  · subst c; rw [upd_same] at z; cases z; exact e
  · rw [upd_ne c] at z; exact h b u c z
section
variable {X : Cx} {G : Gx} {Er : ER} {e b : Expr} {pos px pa pc : Pos} {i j k : Nat} {x y : Str} {C Cb : En → Prop} {g gb : En → Int}
theorem xst_pop (i : Nat) {x : Str} (hN : X.N[i]? = some x := by rfl) (hv : Vis X.env.scope x := by first | exact Or.inl rfl | exact Or.inr (Or.inl rfl) | exact Or.inr (Or.inr rfl))
    (hd : (x == ("__debug__" : Str)) = false := by decide) (hcd : (x == ("__classdict__" : Str)) = false := by decide)
    (hbase : attributeBase (.Name x px) "pop" X.env (eval (.Name x px) X.env) = eval (.Name x px) X.env := by rfl) (hline : (pa.endLine == pc.line) = true := by rfl)
    (hsw : swapsWith (.Call (.Attribute (.Name x px) "pop" pa) [] [] pc) none pos.line X.env = pure false := by rfl) :
    PS X (.Expr (.Call (.Attribute (.Name x px) "pop" pa) [] [] pc) pos) (ts X.K G Er fun P ρ => isO ρ i ∧ getL ρ i ≠ [] ∧ P.nx (ρ.set i (.ow (.ints (getL ρ i).dropLast)))) :=
  toS (ps_expr (pe_bm0 PySem.F.plainAttrs_list PySem.F.slot_list_pop PySem.F.type_list_pop mt_pop (pe_var hN hv hd hcd) hbase hline) hsw) fun B σ H ρ O P D R c w => by
    obtain ⟨c0, c1, c3⟩ := c
    obtain ⟨a, vs, e1, e2, e3, e4, e5⟩ := R.ow i _ c0
    have e5 : vs = (getL ρ i).map V.int := e5
    subst e5
    have hl : 0 < (getL ρ i).length := List.length_pos_iff.mpr c1
    refine ⟨_, e1, .inl ⟨rfl, _, SqL.of e4⟩, a, _, V.int ((getL ρ i)[(getL ρ i).length - 1]'(by omega)), rfl, rfl, e4, ?_, w.nx σ _ _ ⟨O, R.change c0 e1 (p' := .ints (getL ρ i).dropLast) ?_⟩ c3⟩
    · rw [List.length_map, List.getElem?_map, List.getElem?_eq_getElem (by omega)]
      rfl
    · show _ = (getL ρ i).dropLast.map V.int
      rw [List.map_dropLast]
theorem xst_setit (i : Nat) {x : Str} {ps : Pos} (hk : PE X b (tXI X.K G Cb gb)) (he : PE X e (tXI X.K G C g)) (hN : X.N[i]? = some x := by rfl) (hv : Vis X.env.scope x := by first | exact Or.inl rfl | exact Or.inr (Or.inl rfl) | exact Or.inr (Or.inr rfl))
    (hd : (x == ("__debug__" : Str)) = false := by decide) (hcd : (x == ("__classdict__" : Str)) = false := by decide)
    (ha : ∀ v, assign (.Subscript (.Name x px) b ps) X.env v = (do
      let ov ← holding [v] (eval (.Name x px) X.env)
      let iv ← holding [v, ov] (eval b X.env)
      standAt ps
      holding [v, ov, iv] (setItem ov iv v)
      release [v, ov, iv] []) := by intro _; rfl)
    (hs : swapsWithSole [.Subscript (.Name x px) b ps] e pos.line X.env = pure false := by rfl) (hw : swappedStores [.Subscript (.Name x px) b ps] e X.env = pure none := by rfl)
    (h1 : (assignEach [.Subscript (.Name x px) b ps] X.env).map (·.2) = [assign (.Subscript (.Name x px) b ps) X.env] := by rfl) :
    PS X (.Assign [.Subscript (.Name x px) b ps] e pos) (ts X.K G Er fun P ρ => C ρ ∧ isO ρ i ∧ Cb ρ ∧ (-((getL ρ i).length : Int) ≤ gb ρ ∧ gb ρ < ((getL ρ i).length : Int)) ∧ P.nx (ρ.set i (.ow (.ints ((getL ρ i).set (ixO (getL ρ i).length (gb ρ)) (g ρ)))))) :=
  toS (ps_asg he (pg_sub (pe_var hN hv hd hcd) hk set_list ha) hs hw h1) fun B σ H ρ O P D R c w => by
    obtain ⟨c1, c0, c2, cb, c3⟩ := c
    refine ⟨B, ρ, O, R, c1, fun v H1 s1 a1 => ?_⟩
    have a1 : v = .int (g ρ) := a1
    subst a1
    have R1 := R.grow s1
    obtain ⟨a, vs, e1, e2, e3, e4, e5⟩ := R1.ow i _ c0
    have e5 : vs = (getL ρ i).map V.int := e5
    subst e5
    refine ⟨_, e1, B, ρ, O, R1, c2, fun u H2 s2 a2 => ?_⟩
    have a2 : u = .int (gb ρ) := a2
    subst a2
    refine ⟨a, _, _, _, rfl, rfl, s2 _ _ e4, by rw [List.length_map]; exact ixN_ok cb.1 cb.2, w.nx σ _ _ ⟨O, (R1.grow s2).change c0 e1 (p' := .ints _) ?_⟩ c3⟩
    show _ = ((getL ρ i).set _ _).map V.int
    rw [List.map_set]
/-- a call of a def that changes the list of one's own in slot i -/
theorem xst_mut (i : Nat) {x y : Str} {ps : List Str} {pre : List Int → Prop} {F : List Int → List Int} (o : Ok X.prog X.w X.K X.mg X.base j y ps (spM pre F)) (hr : Room k X.A) (hj : j ≤ k := by decide) (hg : Gl X y := by rfl)
    (hN : X.N[i]? = some x := by rfl) (hv : Vis X.env.scope x := by first | exact Or.inl rfl | exact Or.inr (Or.inl rfl) | exact Or.inr (Or.inr rfl)) (hd : (x == ("__debug__" : Str)) = false := by decide) (hcd : (x == ("__classdict__" : Str)) = false := by decide)
    (hdb : (y == ("__debug__" : Str)) = false := by decide) (he : starEach (.Name x px :: []) X.env = (false, eval (.Name x px) X.env) :: starEach [] X.env := by rfl) (hpl : (backTo pc (starEach [] X.env)).any (·.1) = false := by rfl)
    (hsw : swapsWith (.Call (.Name y pa) [.Name x px] [] pc) none pos.line X.env = pure false := by rfl) :
    PS X (.Expr (.Call (.Name y pa) [.Name x px] [] pc) pos) (ts X.K G Er fun P ρ => isO ρ i ∧ pre (getL ρ i) ∧ P.nx (ρ.set i (.ow (.ints (F (getL ρ i)))))) :=
  toS (ps_expr (pe_callO o hr (pa_cons (pe_var hN hv hd hcd) pa_nil he) hj hg hdb he hpl) hsw) fun B σ H ρ O P D R c w => by
    obtain ⟨c0, c1, c3⟩ := c
    obtain ⟨a, vs, e1, e2, e3, e4, e5⟩ := R.ow i _ c0
    have e5 : vs = (getL ρ i).map V.int := e5
    subst e5
    exact ⟨_, e1, a, _, rfl, e4, c1, fun H' k1 k2 => w.nx σ H' _ ⟨O, (R.change c0 e1 (p' := .ints _) rfl).grow (upd_le k1 k2)⟩ c3⟩
end
end L3

/-! ### comprehensions over pure values -/
namespace L3
open PySem PySem.Spec PyProof.Rows L2
noncomputable def capR (cap : List (Option Nat)) (ρ : En) : En := cap.map fun o => match o with
  | some i => (match ρ[i]? with
    | some (.fr p) => .fr p
    | _ => .un)
  | none => .un
section
variable {K : PySem.W.Frag} {G : Gx} {B : Bs} {σ : L2.St} {H H1 : Hp} {ρ : En} {O : Addr → Bool} {D : Addr} {cap : List (Option Nat)}
theorem rep_block (R : Rep K G B σ H1 ρ O) (hD : H1 D = none) (s : Same H1 H) (hn : H D ≠ none) : Rep K G ⟨H1, O⟩ (capS cap σ) H (capR cap ρ) (hide D O) := by
  refine ⟨s, R.dom, hide_le, fun a z y => ?_, fun a z => ?_, fun j p e => ?_, fun j p e => ?_, fun i j p q a e => ?_, by unfold capS capR; rw [List.length_map, List.length_map], fun j xs ys e => ?_⟩
  · by_cases c : a = D
    · subst c; exact hn y
    · rw [hide_ne c] at z; exact R.dom a z (s.free y)
  · by_cases c : a = D
    · subst c; exact .inr hD
    · rw [hide_ne c] at z; exact .inl z
  · unfold capR at e
    rw [List.getElem?_map] at e
    cases ec : cap[j]? with
    | none => rw [ec] at e; cases e
    | some o =>
      rw [ec] at e
      cases o with
      | none => cases e
      | some i =>
        have e := Option.some.inj e
        dsimp only at e
        split at e
        · rename_i p' er
          cases e
          obtain ⟨v, e1, e2⟩ := R.fr i p er
          refine ⟨v, ?_, At.mono (mn_hide s hD) _ _ e2⟩
          unfold capS
          rw [List.getElem?_map, ec]
          show some ((σ[i]?).join) = some (some v)
          rw [e1]
          rfl
        · cases e
  · exfalso
    unfold capR at e
    rw [List.getElem?_map] at e
    cases ec : cap[j]? with
    | none => rw [ec] at e; cases e
    | some o =>
      rw [ec] at e
      cases o with
      | none => cases e
      | some i =>
        have e := Option.some.inj e
        dsimp only at e
        split at e <;> cases e
  · exfalso
    unfold capR at e
    rw [List.getElem?_map] at e
    cases ec : cap[i]? with
    | none => rw [ec] at e; cases e
    | some o =>
      rw [ec] at e
      cases o with
      | none => cases e
      | some i =>
        have e := Option.some.inj e
        dsimp only at e
        split at e <;> cases e
  · exfalso
    unfold capR at e
    rw [List.getElem?_map] at e
    cases ec : cap[j]? with
    | none => rw [ec] at e; cases e
    | some o =>
      rw [ec] at e
      cases o with
      | none => cases e
      | some i =>
        have e := Option.some.inj e
        dsimp only at e
        split at e <;> cases e
theorem ext_refl : ∀ σ : L2.St, ExtS σ σ
  | [] => True.intro
  | none :: r => ext_refl r
  | some _ :: r => ⟨rfl, ext_refl r⟩
variable {α : Type} {J : It} {g : TG} {C : En → Prop} {gb : En → PV} {Q : VK}
theorem lc_main (items : List α) (setσ : α → V → L2.St) (setr : α → En) (val : α → V) (R : Rep K G B σ H1 ρ O) (hD : H1 D = none) (hlen : items.length ≤ 1000) (hgo : ∀ i H, i < items.length → Same H1 H → J.go i H)
    (hyld : ∀ i it x H H', items[i]? = some it → Same H1 H → J.yld i H x H' → Same H H' ∧ ∀ k : L2.St → Hp → Prop, k (setσ it (val it)) H' → g x (capS cap σ) H' k) (hstop : ∀ H, Same H1 H → J.stop items.length H)
    (hset : ∀ it H, it ∈ items → Same H1 H → Rep K G ⟨H1, O⟩ (capS cap σ) H (capR cap ρ) (hide D O) → Rep K G ⟨H1, O⟩ (setσ it (val it)) H (setr it) (hide D O)) (hext : ∀ it, ExtS (capS cap σ) (setσ it (val it))) (hC : ∀ it ∈ items, C (setr it))
    (hQ : ∀ H' ys, Same H1 H' → H' D = some (.lst ys) → AtL K G (mn H' (hide D O)) (items.map fun it => gb (setr it)) ys → Q (.ref D) H') :
    ∃ W : Nat → Nat → List V → Hp → Prop, (∃ m, W 0 m [] (upd H1 D (.lst []))) ∧ lcW D J (capS cap σ) g noTest (tX K G C gb) Q W := by
  refine ⟨fun i m ys H => m = items.length - i ∧ i ≤ items.length ∧ Same H1 H ∧ H D = some (.lst ys) ∧ AtL K G (mn H (hide D O)) ((items.take i).map fun it => gb (setr it)) ys, ⟨items.length, by simp, Nat.zero_le _, same_new hD _, upd_same, rfl⟩, ?_⟩
  rintro i m ys H ⟨rfl, hi, hs, hd, al⟩
  have hl : ys.length = i := by rw [← al.length, List.length_map, List.length_take]; omega
  refine ⟨hd, small1000 (by omega), ?_⟩
  by_cases hlt : i < items.length
  · refine .inr ⟨hgo i H hlt hs, ?_⟩
    intro x H' hy
    have en : items[i]? = some items[i] := List.getElem?_eq_getElem hlt
    obtain ⟨s1, kk⟩ := hyld i _ x H H' en hs hy
    refine kk _ ⟨hext _, ?_⟩
    refine iteT ?_
    have hd' := s1 _ _ hd
    have R2 := hset items[i] H' (List.getElem_mem hlt) (hs.trans s1) (rep_block R hD (hs.trans s1) (by rw [hd']; exact fun z => by cases z))
    refine ⟨_, _, _, R2, hC _ (List.getElem_mem hlt), fun v H2 s2 a2 => ⟨s2 _ _ hd', items.length - (i + 1), by omega, rfl, hlt, ?_, upd_same, ?_⟩⟩
    · intro b o z
      rw [upd_ne (ne_of_none z hD)]
      exact s2 _ _ (s1 _ _ (hs b o z))
    · rw [mn_upd hide_self, take_at en, List.map_append]
      exact AtL.snoc (AtL.mono (mn_same (s1.trans s2)) _ _ al) a2
  · have e : i = items.length := by omega
    subst e
    refine .inl ⟨hstop H hs, hQ H ys hs hd ?_⟩
    rw [List.take_length] at al
    exact al
theorem atL_ints {gi : α → Int} : ∀ {l : List α} {ys : List V}, AtL K G H (l.map fun x => .int (gi x)) ys → ys = (l.map gi).map V.int
  | [], _, h => h
  | x :: r, _, h => by
    obtain ⟨v, t, rfl, e, q⟩ := h
    have e : v = .int (gi x) := e
    rw [e, atL_ints q]
    rfl
end
section
variable {K : PySem.W.Frag} {G : Gx} {σ : L2.St} {H : Hp} {Q : VK} {Cs Cb : En → Prop} {gs : En → List Int} {gi : En → Int} {gp : En → PV} {cap : List (Option Nat)}
/-- over a list of numbers -/
theorem lc_L (h : tXp K G (fun ρ => Cs ρ ∧ (gs ρ).length ≤ 1000 ∧ ∀ n ∈ gs ρ, Cb ((capR (none :: cap) ρ).set 0 (.fr (.int n)))) (fun ρ => (gs ρ).map fun n => gp ((capR (none :: cap) ρ).set 0 (.fr (.int n)))) σ H Q) :
    tLC (none :: cap) (iList K (tXL K G Cs gs)) (gName 0) noTest (tX K G Cb gp) σ H Q := by
  obtain ⟨B, ρ, O, R, ⟨c1, c2, c3⟩, q⟩ := h
  refine ⟨B, ρ, O, R, c1, fun v H1 s1 a1 => ?_⟩
  obtain ⟨a, rfl, hq⟩ := a1
  have hq1 : SqL K H1 a ((gs ρ).map V.int) := .inl (same_rd mn_le hq)
  refine ⟨a, rfl, ⟨_, hq1⟩, fun D hD => ?_⟩
  refine lc_main (gs ρ) (fun _ v => (capS (none :: cap) σ).set 0 (some v)) (fun n => (capR (none :: cap) ρ).set 0 (.fr (.int n))) V.int (R.grow s1) hD c2 (fun i H hi s => ⟨_, .int (gs ρ)[i], s.seq hq1, by simp [hi]⟩) ?_ (fun H s => ⟨_, s.seq hq1, by simp⟩) (fun n H _ s R' => R'.set (p := .int n) rfl) ?_ c3 ?_
  · rintro i n x H H' en s ⟨rfl, hx⟩
    obtain ⟨n', rfl, hn⟩ := int_at (hx _ (s.seq hq1))
    rw [hn] at en
    cases en
    exact ⟨Same.refl _, fun k hk => hk⟩
  · intro n
    show ExtS (none :: capS cap σ) (some (.int n) :: capS cap σ)
    exact ext_refl _
  · intro H' ys s hd al
    exact q D ys H' (s1.trans s) (s1.free hD) hd al
/-- over enumerate -/
theorem lc_E (h : tXp K G (fun ρ => Cs ρ ∧ (gs ρ).length ≤ 1000 ∧ ∀ k : Nat, ∀ n, (gs ρ)[k]? = some n → Cb (((capR (none :: none :: cap) ρ).set 0 (.fr (.int k))).set 1 (.fr (.int n)))) (fun ρ => (gs ρ).mapIdx fun k n => gp (((capR (none :: none :: cap) ρ).set 0 (.fr (.int k))).set 1 (.fr (.int n)))) σ H Q) :
    tLC (none :: none :: cap) (iEnum K (tCons (tXL K G Cs gs) tNil)) (gTup K 2 (gCons (gName 0) (gCons (gName 1) gNil))) noTest (tX K G Cb gp) σ H Q := by
  obtain ⟨B, ρ, O, R, ⟨c1, c2, c3⟩, q⟩ := h
  refine ⟨B, ρ, O, R, c1, fun v H1 s1 a1 => ?_⟩
  obtain ⟨a, rfl, hq⟩ := a1
  have hq1 : SqL K H1 a ((gs ρ).map V.int) := .inl (same_rd mn_le hq)
  refine ⟨a, rfl, ⟨_, hq1⟩, fun D hD => ?_⟩
  have hz : ((gs ρ).zipIdx).length = (gs ρ).length := List.length_zipIdx
  refine lc_main ((gs ρ).zipIdx) (fun p _ => ((capS (none :: none :: cap) σ).set 0 (some (.int p.2))).set 1 (some (.int p.1))) (fun p => ((capR (none :: none :: cap) ρ).set 0 (.fr (.int p.2))).set 1 (.fr (.int p.1))) (fun p => .int p.1) (R.grow s1) hD (by rw [hz]; exact c2)
    (fun i H hi s => ⟨_, .int ((gs ρ)[i]'(by rw [hz] at hi; exact hi)), s.seq hq1, by rw [hz] at hi; simp [hi]⟩) ?_ (fun H s => ⟨_, s.seq hq1, by simp⟩) (fun p H _ s R' => (R'.set (p := .int p.2) rfl).set (p := .int p.1) rfl) ?_ ?_ ?_
  · rintro i ⟨n, k⟩ x H H' en s ⟨T, y, rfl, hT, rfl, hx⟩
    obtain ⟨n', rfl, hn⟩ := int_at (hx _ (s.seq hq1))
    rw [List.getElem?_zipIdx, hn] at en
    have en : (n', 0 + i) = (n, k) := Option.some.inj en
    cases en
    refine ⟨same_new hT _, fun kk hk => ⟨T, _, rfl, SqT.of upd_same, rfl, _, _, rfl, _, _, rfl, rfl, ?_⟩⟩
    rw [Nat.zero_add] at hk
    exact hk
  · rintro ⟨n, k⟩
    show ExtS (none :: none :: capS cap σ) (some (.int k) :: some (.int n) :: capS cap σ)
    exact ext_refl _
  · rintro ⟨n, k⟩ hm
    have := List.mem_zipIdx_iff_getElem?.mp hm
    exact c3 k n this
  · intro H' ys s hd al
    refine q D ys H' (s1.trans s) (s1.free hD) hd ?_
    have e : ((gs ρ).mapIdx fun k n => gp (((capR (none :: none :: cap) ρ).set 0 (.fr (.int k))).set 1 (.fr (.int n)))) = (gs ρ).zipIdx.map fun p => gp (((capR (none :: none :: cap) ρ).set 0 (.fr (.int p.2))).set 1 (.fr (.int p.1))) := by
      rw [List.mapIdx_eq_zipIdx_map]
    dsimp only
    rw [e]
    exact al
/-- a list of numbers comes -/
theorem p_of_l {C : En → Prop} {α : Type} {src : En → List α} {gi : En → α → Int} (h : tXl K G C (fun ρ => (src ρ).map (gi ρ)) σ H Q) : tXp K G C (fun ρ => (src ρ).map fun x => .int (gi ρ x)) σ H Q := by
  obtain ⟨B, ρ, O, R, c, q⟩ := h
  refine ⟨B, ρ, O, R, c, fun a vs H' s n e al => q a H' s n ?_⟩
  rw [e, atL_ints al]
theorem p_of_li {C : En → Prop} {src : En → List Int} {gi : En → Nat → Int → Int} (h : tXl K G C (fun ρ => (src ρ).mapIdx (gi ρ)) σ H Q) : tXp K G C (fun ρ => (src ρ).mapIdx fun k x => .int (gi ρ k x)) σ H Q := by
  obtain ⟨B, ρ, O, R, c, q⟩ := h
  refine ⟨B, ρ, O, R, c, fun a vs H' s n e al => q a H' s n ?_⟩
  dsimp only at al ⊢
  rw [List.mapIdx_eq_zipIdx_map] at al
  rw [e, atL_ints (gi := fun p : Int × Nat => gi ρ p.2 p.1) al, List.mapIdx_eq_zipIdx_map]
end
section
variable {X : Cx} {G : Gx} {Er : ER} {N' : List Str} {sc : Scope} {cl : List (Str × Addr)} {cap : List (Option Nat)} {el tg src : Expr} {at' spos px : Pos} {Cs Cb : En → Prop} {gs : En → List Int} {gn gi : En → Int} {gp : En → PV} {i : Nat} {x : Str}
theorem xl_lcL (L : LcOk X N' sc cl (none :: cap)) (hc : X.calm = true) (hi : PE X src (tXL X.K G Cs gs)) (hg : ∀ s H fp, PG (cxComp X N' sc cl s H fp) tg (gName 0)) (he : ∀ s H fp, PE (cxComp X N' sc cl s H fp) el (tXI X.K G Cb gi)) (hs : ∀ x, foldedSetIterable src X.env x = pure x := by intro _; rfl) :
    PE X (.ListComp el [⟨tg, src, [], 0⟩] sc at') (tXl X.K G (fun ρ => Cs ρ ∧ (gs ρ).length ≤ 1000 ∧ ∀ n ∈ gs ρ, Cb ((capR (none :: cap) ρ).set 0 (.fr (.int n)))) fun ρ => (gs ρ).map fun n => gi ((capR (none :: cap) ρ).set 0 (.fr (.int n)))) :=
  fun pins s σ H Q I h => pe_lc L hc (pi_list hi) hg (fun _ _ _ => pts_nil) he hs pins s σ H Q I (lc_L (p_of_l h))
theorem xl_lcE {p pos' : Pos} {els : List Expr} {kk : Nat} {tp : Pos} (L : LcOk X N' sc cl (none :: none :: cap)) (hc : X.calm = true) (hgl : Gl X "enumerate") (hm : X.mg "enumerate" = none) (hi : PE X src (tXL X.K G Cs gs))
    (hg : ∀ s H fp, PG (cxComp X N' sc cl s H fp) (.Tuple els kk tp) (gTup X.K 2 (gCons (gName 0) (gCons (gName 1) gNil)))) (he : ∀ s H fp, PE (cxComp X N' sc cl s H fp) el (tXI X.K G Cb gi)) (hst : starEach [src] X.env = [(false, eval src X.env)] := by rfl)
    (hs : ∀ x, foldedSetIterable (.Call (.Name "enumerate" p) [src] [] pos') X.env x = pure x := by intro _; rfl) :
    PE X (.ListComp el [⟨.Tuple els kk tp, .Call (.Name "enumerate" p) [src] [] pos', [], 0⟩] sc at') (tXl X.K G (fun ρ => Cs ρ ∧ (gs ρ).length ≤ 1000 ∧ ∀ k : Nat, ∀ n, (gs ρ)[k]? = some n → Cb (((capR (none :: none :: cap) ρ).set 0 (.fr (.int k))).set 1 (.fr (.int n))))
      fun ρ => (gs ρ).mapIdx fun k n => gi (((capR (none :: none :: cap) ρ).set 0 (.fr (.int k))).set 1 (.fr (.int n)))) :=
  fun pins s σ H Q I h => pe_lc L hc (pi_enum hgl hm (pa_cons hi pa_nil hst) hst) hg (fun _ _ _ => pts_nil) he hs pins s σ H Q I (lc_E (p_of_li h))
/-- x = [..], the machine's own way: a list of one's own -/
theorem own_of {t : TE} {st : Stmt} {C : En → Prop} {g : En → List Int} (h : PS X st (tAsg t (gName i))) (k : ∀ σ H Q, tXl X.K G C g σ H Q → t σ H Q) : PS X st (ts X.K G Er fun P ρ => C ρ ∧ ∀ ns, ns = g ρ → P.nx (ρ.set i (.ow (.ints ns)))) :=
  toS h fun B σ H ρ O P D R c w => k σ H _ ⟨B, ρ, O, R, c.1, fun a H1 s1 n1 e1 => w.nx _ H1 _ ⟨hide a O, R.new (p := .ints (g ρ)) s1 n1 e1 rfl⟩ (c.2 _ rfl)⟩
theorem xst_lcL (hN : X.N.Nodup) (hi' : X.N[i]? = some x) (hx : X.env.scope.names.lookup x = some .local) (L : LcOk X N' sc cl (none :: cap)) (hc : X.calm = true) (hi : PE X src (tXL X.K G Cs gs)) (hg : ∀ s H fp, PG (cxComp X N' sc cl s H fp) tg (gName 0)) (he : ∀ s H fp, PE (cxComp X N' sc cl s H fp) el (tXI X.K G Cb gi))
    (hsw : swapsWith (.ListComp el [⟨tg, src, [], 0⟩] sc at') (some (.Name x px)) spos.line X.env = pure true) (hs : ∀ x, foldedSetIterable src X.env x = pure x := by intro _; rfl) :
    PS X (.Assign [.Name x px] (.ListComp el [⟨tg, src, [], 0⟩] sc at') spos) (ts X.K G Er fun P ρ => (Cs ρ ∧ (gs ρ).length ≤ 1000 ∧ ∀ n ∈ gs ρ, Cb ((capR (none :: cap) ρ).set 0 (.fr (.int n)))) ∧ ∀ ns, ns = ((gs ρ).map fun n => gi ((capR (none :: cap) ρ).set 0 (.fr (.int n)))) → P.nx (ρ.set i (.ow (.ints ns)))) :=
  own_of (ps_lc hN hi' hx L hc (pi_list hi) hg (fun _ _ _ => pts_nil) he hsw hs) fun σ H Q h => lc_L (p_of_l h)
end
/-- the slots, written out -/
theorem to_lit {k : En → Prop} {ρ ρ' : En} (h : ρ = ρ') (q : k ρ') : k ρ := by rw [h]; exact q
end L3

/-! ### isinstance, small built-ins, kinds over pure values -/
namespace L3
open PySem PySem.Spec PyProof.Rows L2
noncomputable def tyP : PV → Option Value
  | .int _ => some (.type "int")
  | .bl _ => some (.type "bool")
  | .non => some (.type "NoneType")
  | .str _ => some (.type "str")
  | .ints _ => some (.type "list")
  | .lst _ => some (.type "list")
  | .tup _ => some (.type "tuple")
  | _ => none
noncomputable def clsP : PV → Option Value
  | .ty n => some (.type n)
  | .cls a => some (.ref a)
  | _ => none
theorem At.ty {K : PySem.W.Frag} {G : Gx} {H : Hp} {p : PV} {v : V} {t : Value} (h : At K G H p v) (e : tyP p = some t) : TyOf K H v t := by
  cases p <;> first | cases e | skip
  · cases (show v = _ from h); exact .int _
  · cases (show v = _ from h); exact .bl _
  · cases (show v = _ from h); exact .non
  · cases (show v = _ from h); exact .str _
  · obtain ⟨a, rfl, r | ⟨o, r⟩⟩ := h
    · exact .lst r
    · exact .frz r
  · obtain ⟨a, vs, rfl, r | ⟨o, r⟩, _⟩ := h
    · exact .lst r
    · exact .frz r
  · obtain ⟨a, vs, rfl, r, _⟩ := h
    exact .tup r
theorem At.cls {K : PySem.W.Frag} {G : Gx} {H : Hp} {p : PV} {v : V} {t : Value} (h : At K G H p v) (e : clsP p = some t) : clsV v = some t := by
  cases p <;> first | cases e | skip
  · cases (show v = _ from h); rfl
  · cases (show v = _ from h); rfl
/-- isinstance(p, c) -/
noncomputable def instP (K : PySem.W.Frag) (p c : PV) : Bool := match tyP p, clsP c with
  | some t, some cv => PySem.W.kitOne K t cv == some true
  | _, _ => false
noncomputable def instOk (K : PySem.W.Frag) (p c : PV) : Prop := ∃ t cv b, tyP p = some t ∧ clsP c = some cv ∧ PySem.W.kitOne K t cv = some b
theorem instP_of {K : PySem.W.Frag} {p c : PV} {t cv : Value} {b : Bool} (h1 : tyP p = some t) (h2 : clsP c = some cv) (h : PySem.W.kitOne K t cv = some b) : instP K p c = b := by
  unfold instP
  rw [h1, h2]
  show (PySem.W.kitOne K t cv == some true) = b
  rw [h]
  cases b <;> rfl
theorem TyOf.up {K : PySem.W.Frag} {H H' : Hp} {v : V} {t : Value} (s : Same H H') (h : TyOf K H v t) : TyOf K H' v t := by
  cases h with
  | non => exact .non
  | bl x => exact .bl x
  | int x => exact .int x
  | str x => exact .str x
  | flt x => exact .flt x
  | lst e => exact .lst (s _ _ e)
  | frz e => exact .frz (s _ _ e)
  | tup e => exact .tup (s _ _ e)
  | dK e => exact .dK (s _ _ e)
  | dT e => exact .dT (s _ _ e)
  | ins e a b c d f => exact .ins (s _ _ e) a b c d f
section
variable {X : Cx} {G : Gx} {a b c e : Expr} {es : List Expr} {pos p px apos : Pos} {C Ca Cb Cc : En → Prop} {ga gc : En → PV} {gi gj : En → Int} {i j k n : Nat} {x m : Str}
theorem xe_isinst (hm : X.mg "isinstance" = none) (ha : PE X a (tX X.K G Ca ga)) (hc : PE X c (tX X.K G Cc gc)) (hg : Gl X "isinstance" := by rfl) (he : starEach [a, c] X.env = (false, eval a X.env) :: starEach [c] X.env := by rfl) (he2 : starEach [c] X.env = [(false, eval c X.env)] := by rfl) (hpl : (backTo pos (starEach [c] X.env)).any (·.1) = false := by rfl) :
    PE X (.Call (.Name "isinstance" p) [a, c] [] pos) (tXB X.K G (fun ρ => Ca ρ ∧ Cc ρ ∧ instOk X.K (ga ρ) (gc ρ)) fun ρ => instP X.K (ga ρ) (gc ρ) = true) :=
  toX (pe_callB call_isinst hg hm bt_isinstance (pa_cons ha (pa_cons hc pa_nil he2) he) (by decide) (by decide) he hpl) fun B σ H ρ O Q R cc q => ⟨B, ρ, O, R, cc.1, fun v H1 s1 a1 => ⟨B, ρ, O, R.grow s1, cc.2.1, fun u H2 s2 a2 => by
    obtain ⟨t, cv, b, e1, e2, e3⟩ := cc.2.2
    refine ⟨v, u, t, cv, b, rfl, a2.cls e2, TyOf.up (mn_le.trans s2) (a1.ty e1), e3, q _ H2 (s1.trans s2) ?_⟩
    have z : instP X.K (ga ρ) (gc ρ) = b := instP_of e1 e2 e3
    show V.bl b = V.bl (decide (instP X.K (ga ρ) (gc ρ) = true))
    rw [z, Bool.decide_eq_true]⟩⟩
theorem xn_abs (hm : X.mg "abs" = none) (ha : PE X a (tXI X.K G Ca gi)) (hg : Gl X "abs" := by rfl) (he : starEach [a] X.env = [(false, eval a X.env)] := by rfl) : PE X (.Call (.Name "abs" p) [a] [] pos) (tXI X.K G Ca fun ρ => if gi ρ < 0 then -gi ρ else gi ρ) :=
  toX (pe_callB call_abs hg hm bt_abs (pa_cons ha pa_nil he) (by decide) (by decide) he rfl) fun B σ H ρ O Q R c q => ⟨B, ρ, O, R, c, fun v H1 s1 a1 => by
    have a1 : v = .int (gi ρ) := a1
    subst a1
    exact ⟨_, rfl, q _ H1 s1 rfl⟩⟩
/-! calls that tell a number, a truth -/
noncomputable abbrev spFI (K : PySem.W.Frag) (G : Gx) (pre : List PV → Prop) (F : List PV → Int) : Sp := spF K G pre fun as => .int (F as)
noncomputable abbrev spFB (K : PySem.W.Frag) (G : Gx) (pre : List PV → Prop) (F : List PV → Bool) : Sp := spF K G pre fun as => .bl (F as)
variable {ps : List Str} {pre : List PV → Prop} {gs : En → List PV}
theorem xci {F : List PV → Int} (o : Ok X.prog X.w X.K X.mg X.base j x ps (spFI X.K G pre F)) (hr : Room k X.A) (ha : PA X (e :: es) (tXs X.K G C gs)) (hj : j ≤ k := by decide) (hg : Gl X x := by rfl) (hdb : (x == ("__debug__" : Str)) = false := by decide)
    (he : starEach (e :: es) X.env = (false, eval e X.env) :: starEach es X.env := by rfl) (hpl : (backTo pos (starEach es X.env)).any (·.1) = false := by rfl) :
    PE X (.Call (.Name x p) (e :: es) [] pos) (tXI X.K G (fun ρ => C ρ ∧ pre (gs ρ)) fun ρ => F (gs ρ)) := xc o hr ha hj hg hdb he hpl
theorem xcb {F : List PV → Bool} (o : Ok X.prog X.w X.K X.mg X.base j x ps (spFB X.K G pre F)) (hr : Room k X.A) (ha : PA X (e :: es) (tXs X.K G C gs)) (hj : j ≤ k := by decide) (hg : Gl X x := by rfl) (hdb : (x == ("__debug__" : Str)) = false := by decide)
    (he : starEach (e :: es) X.env = (false, eval e X.env) :: starEach es X.env := by rfl) (hpl : (backTo pos (starEach es X.env)).any (·.1) = false := by rfl) :
    PE X (.Call (.Name x p) (e :: es) [] pos) (tXB X.K G (fun ρ => C ρ ∧ pre (gs ρ)) fun ρ => F (gs ρ) = true) :=
  toX (xc o hr ha hj hg hdb he hpl) fun B σ H ρ O Q R c q => ⟨B, ρ, O, R, c, fun v H' s a => q v H' s (by dsimp only; rw [Bool.decide_eq_true]; exact a)⟩
/-! kinds: the sort 0 of own objects -/
noncomputable def getZ (ρ : En) (i : Nat) : Int := match ρ[i]? with
  | some (.fr (.ob 0 z)) => z
  | _ => 0
noncomputable def isK (ρ : En) (i : Nat) : Prop := ρ[i]? = some (.fr (.ob 0 (getZ ρ i)))
theorem xn_kmeth {KA : Hp → Addr → Int → Prop} {preK : Int → List Int → Prop} {F : Int → List Int → Int} {pl : Sem Bool} (i : Nat) (M : KM X.prog X.w X.K X.mg X.base j KA m n preK F) (hr : Room k X.A) (ha : PA X (e :: es) (tXs X.K G C gs)) (hn : ∀ ρ, (gs ρ).length = n := by intro _; rfl) (hG : ∀ H a z, G.ob 0 H a z → KA H a z := by first | exact fun _ _ _ h => h.2 | exact fun _ _ _ h => h.elim (fun z => z.2) fun z => absurd z.1 (by decide)) (hGm : ∀ {H H' : Hp} {a : Addr} {z : Int}, KA H a z → Same H H' → KA H' a z := by first | exact fun h s => KAt.same h s | exact fun h s => h.same s) (hj : j ≤ k := by decide)
    (hN : X.N[i]? = some x := by rfl) (hv : Vis X.env.scope x := by first | exact Or.inl rfl | exact Or.inr (Or.inl rfl) | exact Or.inr (Or.inr rfl)) (hd : (x == ("__debug__" : Str)) = false := by decide) (hcd : (x == ("__classdict__" : Str)) = false := by decide)
    (hst : starEach (e :: es) X.env = (false, eval e X.env) :: starEach es X.env := by rfl) (hpl : (backTo pos (starEach es X.env)).any (·.1) = false := by rfl)
    (ht : eval (.Call (.Attribute (.Name x px) m apos) (e :: es) [] pos) X.env = (do
      let ov ← eval (.Name x px) X.env
      standAt apos.atName
      let (f, first) ← holding [ov] (getMethod ov m pl)
      callWith pos f first (backTo pos (starEach (e :: es) X.env)) (backToKw pos (keywordEach [] X.env))) := by rfl) :
    PE X (.Call (.Attribute (.Name x px) m apos) (e :: es) [] pos) (tXI X.K G (fun ρ => isK ρ i ∧ C ρ ∧ areI (gs ρ) ∧ preK (getZ ρ i) (allI (gs ρ))) fun ρ => F (getZ ρ i) (allI (gs ρ))) := by
  intro pins s σ H Q I h
  obtain ⟨B, ρ, O, R, ⟨c0, c1, c2, c3⟩, q⟩ := h
  obtain ⟨v, e1, a, rfl, ka⟩ := R.fr i _ c0
  have ka1 : KA H a (getZ ρ i) := hGm (hG _ _ _ ka) mn_le
  obtain ⟨Cl, dx, fs, ps, f1, f2, M'⟩ := M.ex H a _ ka1
  obtain ⟨f, fd, FF, bb, mm, cc⟩ := M'.ex
  refine pe_meth (pe_var hN hv hd hcd) cc mm (FF.mono hj) hr bb .nil pass0 ha hst hpl ht pins s σ H Q I ⟨_, e1, a, dx, fs, rfl, f1, f2, B, ρ, O, R, c1, fun vs H1 s1 a1 => ?_⟩
  have ev := a1.ints c2
  have el : (allI (gs ρ)).length = n := by rw [← hn ρ, a1.length, ev, List.length_map]
  exact ⟨allI (gs ρ), el, by rw [List.append_nil, ev], hGm ka1 s1, c3, q _ H1 s1 rfl⟩
end
end L3

/-! ### promises of the hand layer, as promises over pure values -/
namespace L3
open PySem PySem.Spec PyProof.Rows L2
theorem areI_len : ∀ {as : List PV}, areI as → (allI as).length = as.length
  | [], _ => rfl
  | p :: r, h => by
    cases p <;> first | exact h.elim | skip
    show (allI r).length + 1 = r.length + 1
    rw [areI_len (as := r) h]
section
variable {P : Program} {w : World} {K : PySem.W.Frag} {mg : Str → Option Value} {base : Heap} {G : Gx} {k n : Nat} {x : Str} {ps : List Str}
theorem liftB {pre : List Int → Prop} {F : List Int → Bool} (o : Ok P w K mg base k x ps (spB n pre F)) : Ok P w K mg base k x ps (spFB K G (fun as => areI as ∧ as.length = n ∧ pre (allI as)) fun as => F (allI as)) :=
  o.imp fun vs H Q E ⟨as, O, _, al, ⟨h1, h2, h3⟩, q⟩ => ⟨allI as, by rw [areI_len h1, h2], al.ints h1, h3, q _ H (Same.refl H) rfl⟩
/-- the script, then numbers -/
noncomputable def scrI : List PV → List Int
  | .scr ns :: _ => ns
  | _ => []
noncomputable def preS (n : Nat) (pre : List Int → List Int → Prop) : List PV → Prop
  | .scr ns :: r => areI r ∧ r.length = n ∧ pre ns (allI r)
  | _ => False
theorem liftS {pre : List Int → List Int → Prop} {F : List Int → List Int → Int} (o : Ok P w K mg base k x ps (spS K n pre F)) : Ok P w K mg base k x ps (spFI K G (preS n pre) fun as => F (scrI as) (allI as.tail)) :=
  o.imp fun vs H Q E ⟨as, O, _, al, hp, q⟩ => by
    match as, hp, al, q with
    | .scr ns :: r, ⟨h1, h2, h3⟩, al, q =>
      obtain ⟨v, t, rfl, ⟨a, rfl, hs⟩, al2⟩ := al
      exact ⟨a, ns, allI r, by rw [areI_len h1, h2], by rw [al2.ints h1], mn_le.seq hs, h3, q _ H (Same.refl H) rfl⟩
end
end L3

/-! ### x[k] op= e over a list of one's own -/
namespace L3
open PySem PySem.Spec PyProof.Rows L2
section
variable {X : Cx} {G : Gx} {Er : ER} {b e : Expr} {px ps pos : Pos} {C Cb : En → Prop} {g gb : En → Int}
end
end L3

/-! ### slices of lists of numbers; sizes of numbers -/
namespace L3
open PySem PyProof.Rows L2 FM
theorem cutI_len (xs : List Int) (lo hi : Option Int) : (cutI xs lo hi).length ≤ xs.length := by
  unfold cutI
  rw [List.length_take, List.length_drop]
  omega
theorem cutI_from (xs : List Int) (a : Nat) : cutI xs (some (a : Int)) none = xs.drop a := by
  unfold cutI
  rw [HT.sIx_nat, HT.sIx_none]
  by_cases h : a ≤ xs.length
  · rw [Nat.min_eq_left h, List.take_of_length_le (by rw [List.length_drop]; omega)]
  · rw [Nat.min_eq_right (by omega), List.drop_eq_nil_of_le (Nat.le_refl _), List.drop_eq_nil_of_le (by omega), List.take_nil]
end L3

/-! ### slices with a step -/
namespace L2
open PySem PySem.Spec PyProof.Rows
section
variable {X : Cx} {e st : Expr} {te : TE} {lo hi : Option Expr} {tl th tt : TO} {pos p2 : Pos}
end
end L2
namespace L3
open PySem PySem.Spec PyProof.Rows L2
section
variable {X : Cx} {G : Gx} {a : Expr} {pos p2 : Pos} {C : En → Prop}
end
end L3

/-! ### polynomials by their numbers: sums, products -/
namespace FM
open L2
theorem getD_ge {xs : List Int} {n : Nat} (h : xs.length ≤ n) : xs.getD n 0 = 0 := by rw [List.getD_eq_getElem?_getD, List.getElem?_eq_none h]; rfl
theorem getD_lt {xs : List Int} {n : Nat} (h : n < xs.length) : xs.getD n 0 = xs[n] := by rw [List.getD_eq_getElem?_getD, List.getElem?_eq_getElem h]; rfl
theorem getD_at' {xs : List Int} {n : Nat} {x : Int} (h : xs[n]? = some x) : xs.getD n 0 = x := by rw [List.getD_eq_getElem?_getD, h]; rfl
theorem getD_mem {xs : List Int} {n : Nat} (h : n < xs.length) : xs.getD n 0 ∈ xs := by rw [getD_lt h]; exact List.getElem_mem h
theorem getD_map (f : Int → Int) (h0 : f 0 = 0) (xs : List Int) (n : Nat) : (xs.map f).getD n 0 = f (xs.getD n 0) := by
  by_cases h : n < xs.length
  · rw [getD_lt (by rw [List.length_map]; exact h), List.getElem_map, getD_lt h]
  · rw [getD_ge (by rw [List.length_map]; omega), getD_ge (by omega), h0]
theorem pl_0 (z : Int) : pl z 0 = 0 := by
  unfold pl
  split
  · rfl
  · exact Int.zero_emod z
theorem snoc_get (xs : List Int) (x : Int) (n : Nat) : (xs ++ [x]).getD n 0 = if n = xs.length then x else xs.getD n 0 := by
  by_cases h : n < xs.length
  · rw [getD_lt (by rw [List.length_append]; omega), List.getElem_append_left h, if_neg (by omega), getD_lt h]
  · by_cases h2 : n = xs.length
    · subst h2
      rw [if_pos rfl, getD_lt (by rw [List.length_append, List.length_singleton]; omega), List.getElem_append_right (Nat.le_refl _)]
      simp
    · rw [if_neg h2, getD_ge (by rw [List.length_append, List.length_singleton]; omega), getD_ge (by omega)]
theorem snoc_or (xs : List Int) : xs = [] ∨ ∃ ys x, xs = ys ++ [x] := by
  by_cases h : xs = []
  · exact .inl h
  · exact .inr ⟨_, _, (List.dropLast_concat_getLast h).symm⟩
theorem trimZ_get : ∀ (k : Nat) (xs : List Int), xs.length = k → ∀ n, (trimZ xs).getD n 0 = xs.getD n 0
  | 0, xs, h, n => by
    have : xs = [] := List.length_eq_zero_iff.mp h
    subst this
    rfl
  | k + 1, xs, h, n => by
    rcases snoc_or xs with rfl | ⟨ys, x, rfl⟩
    · rfl
    · by_cases hx : x = 0
      · subst hx
        have hl : ys.length = k := by rw [List.length_append, List.length_singleton] at h; omega
        rw [trimZ_zero, trimZ_get k ys hl n, snoc_get]
        by_cases h2 : n = ys.length
        · rw [if_pos h2, getD_ge (by omega)]
        · rw [if_neg h2]
      · rw [trimZ_ne _ hx]
theorem trim_get (xs : List Int) (n : Nat) : (trimZ xs).getD n 0 = xs.getD n 0 := trimZ_get _ xs rfl n
/-- in form: no nought at the end -/
noncomputable def InForm (xs : List Int) : Prop := xs ≠ [] → xs.getD (xs.length - 1) 0 ≠ 0
theorem trimZ_form : ∀ (k : Nat) (xs : List Int), xs.length = k → InForm (trimZ xs)
  | 0, xs, h => by
    have : xs = [] := List.length_eq_zero_iff.mp h
    subst this
    intro h; exact absurd rfl h
  | k + 1, xs, h => by
    rcases snoc_or xs with rfl | ⟨ys, x, rfl⟩
    · intro h; exact absurd rfl h
    · by_cases hx : x = 0
      · subst hx
        rw [trimZ_zero]
        exact trimZ_form k ys (by rw [List.length_append, List.length_singleton] at h; omega)
      · rw [trimZ_ne _ hx]
        intro _
        rw [snoc_get, if_pos (by rw [List.length_append, List.length_singleton]; omega)]
        exact hx
theorem trim_form (xs : List Int) : InForm (trimZ xs) := trimZ_form _ xs rfl
theorem form_ext {a b : List Int} (ha : InForm a) (hb : InForm b) (h : ∀ n, a.getD n 0 = b.getD n 0) : a = b := by
  have le : ∀ {a b : List Int}, InForm a → (∀ n, a.getD n 0 = b.getD n 0) → a.length ≤ b.length := fun {a b} ha h => by
    by_cases c : a.length ≤ b.length
    · exact c
    · have hne : a ≠ [] := fun z => by subst z; exact c (Nat.zero_le _)
      exact absurd (by rw [h, getD_ge (by omega)]) (ha hne)
  have hl : a.length = b.length := Nat.le_antisymm (le ha h) (le hb fun n => (h n).symm)
  refine List.ext_getElem hl fun i h1 h2 => ?_
  have := h i
  rw [getD_lt h1, getD_lt h2] at this
  exact this
theorem trim_ext {a b : List Int} (h : ∀ n, a.getD n 0 = b.getD n 0) : trimZ a = trimZ b :=
  form_ext (trim_form a) (trim_form b) fun n => by rw [trim_get, trim_get, h]
/-- brought to the kind, noughts cut -/
noncomputable def Tz (z : Int) (f : List Int) : List Int := trimZ (f.map (pl z))
theorem Tz_get (z : Int) (f : List Int) (n : Nat) : (Tz z f).getD n 0 = pl z (f.getD n 0) := by unfold Tz; rw [trim_get, getD_map _ (pl_0 z)]
theorem Tz_len (z : Int) (f : List Int) : (Tz z f).length ≤ f.length := by
  unfold Tz
  refine Nat.le_trans (trimZ_len _) ?_
  rw [List.length_map]
  exact Nat.le_refl _
theorem mem_getD {xs : List Int} {m : Int} (h : m ∈ xs) : ∃ n, n < xs.length ∧ xs.getD n 0 = m := by
  obtain ⟨n, h1, h2⟩ := List.getElem_of_mem h
  exact ⟨n, h1, by rw [getD_lt h1, h2]⟩
/-! sums -/
noncomputable def sm : Nat → (Nat → Int) → Int
  | 0, _ => 0
  | n + 1, f => sm n f + f n
theorem sm_congr {f g : Nat → Int} : ∀ {n : Nat}, (∀ i, i < n → f i = g i) → sm n f = sm n g
  | 0, _ => rfl
  | n + 1, h => by
    show sm n f + f n = sm n g + g n
    rw [sm_congr fun i hi => h i (by omega), h n (by omega)]
theorem sm_zero {f : Nat → Int} : ∀ {n : Nat}, (∀ i, i < n → f i = 0) → sm n f = 0
  | 0, _ => rfl
  | n + 1, h => by
    show sm n f + f n = 0
    rw [sm_zero fun i hi => h i (by omega), h n (by omega)]
    rfl
theorem sm_more {f : Nat → Int} {n : Nat} : ∀ {m : Nat}, n ≤ m → (∀ i, n ≤ i → i < m → f i = 0) → sm m f = sm n f
  | 0, h, _ => by
    have : n = 0 := by omega
    subst this; rfl
  | m + 1, h, z => by
    by_cases c : n = m + 1
    · subst c; rfl
    · show sm m f + f m = sm n f
      rw [z m (by omega) (by omega), Int.add_zero]
      exact sm_more (by omega) fun i h1 h2 => z i h1 (by omega)
theorem sm_head (f : Nat → Int) : ∀ n, sm (n + 1) f = f 0 + sm n fun i => f (i + 1)
  | 0 => by show 0 + f 0 = f 0 + 0; omega
  | n + 1 => by
    show sm (n + 1) f + f (n + 1) = f 0 + (sm n (fun i => f (i + 1)) + f (n + 1))
    rw [sm_head f n]
    omega
theorem sm_rev (f : Nat → Int) : ∀ n, sm (n + 1) f = sm (n + 1) fun i => f (n - i)
  | 0 => rfl
  | n + 1 => by
    rw [sm_head (fun i => f (n + 1 - i)) (n + 1)]
    show sm (n + 1) f + f (n + 1) = f (n + 1 - 0) + sm (n + 1) fun i => f (n + 1 - (i + 1))
    rw [sm_rev f n, Nat.sub_zero]
    have : sm (n + 1) (fun i => f (n - i)) = sm (n + 1) fun i => f (n + 1 - (i + 1)) := sm_congr fun i _ => by rw [Nat.add_sub_add_right]
    omega
theorem sm_abs {f : Nat → Int} {M : Nat} : ∀ {n : Nat}, (∀ i, i < n → (f i).natAbs ≤ M) → (sm n f).natAbs ≤ n * M
  | 0, _ => by simp [sm]
  | n + 1, h => by
    have h1 := sm_abs (n := n) fun i hi => h i (by omega)
    have h2 := h n (by omega)
    have h3 := Int.natAbs_add_le (sm n f) (f n)
    show (sm n f + f n).natAbs ≤ (n + 1) * M
    rw [Nat.succ_mul]
    omega
/-! products -/
/-- the number at x^n of the product -/
noncomputable def cm (f g : List Int) (n : Nat) : Int := sm (n + 1) fun i => f.getD i 0 * g.getD (n - i) 0
theorem cm_comm (f g : List Int) (n : Nat) : cm f g n = cm g f n := by
  unfold cm
  rw [sm_rev]
  refine sm_congr fun i hi => ?_
  rw [Int.mul_comm, show n - (n - i) = i by omega]
/-- the sum over the first numbers of f alone -/
noncomputable def cpart (f g : List Int) (n i : Nat) : Int := sm i fun j => if j ≤ n then f.getD j 0 * g.getD (n - j) 0 else 0
theorem cpart_all (f g : List Int) (n : Nat) {i : Nat} (h : f.length ≤ i) : cpart f g n i = cm f g n := by
  have e : cm f g n = cpart f g n (n + 1) := sm_congr fun j hj => by rw [if_pos (by omega)]
  rw [e]
  unfold cpart
  rcases Nat.le_total i (n + 1) with c | c
  · refine (sm_more c fun j h1 h2 => ?_).symm
    rw [getD_ge (show f.length ≤ j by omega), Int.zero_mul]
    split <;> rfl
  · refine sm_more c fun j h1 h2 => ?_
    rw [if_neg (by omega)]
theorem cm_abs {f g : List Int} {A B : Nat} (hf : ∀ m ∈ f, m.natAbs ≤ A) (hg : ∀ m ∈ g, m.natAbs ≤ B) (n : Nat) : (cm f g n).natAbs ≤ g.length * (B * A) := by
  rw [cm_comm, ← cpart_all g f n (Nat.le_refl _)]
  refine sm_abs fun i hi => ?_
  split
  · rw [Int.natAbs_mul]
    refine Nat.mul_le_mul (hg _ (getD_mem hi)) ?_
    by_cases c : n - i < f.length
    · exact hf _ (getD_mem c)
    · rw [getD_ge (by omega)]; exact Nat.zero_le _
  · exact Nat.zero_le _
theorem cm_ge {f g : List Int} {n : Nat} (h : f.length + g.length ≤ n + 1) : cm f g n = 0 := by
  unfold cm
  refine sm_zero fun i hi => ?_
  by_cases c : i < f.length
  · rw [getD_ge (show g.length ≤ n - i by omega), Int.mul_zero]
  · rw [getD_ge (show f.length ≤ i by omega), Int.zero_mul]
/-- the product as a list -/
noncomputable def convL (f g : List Int) : List Int := (List.range (f.length + g.length)).map (cm f g)
theorem convL_get (f g : List Int) (n : Nat) : (convL f g).getD n 0 = cm f g n := by
  unfold convL
  by_cases h : n < f.length + g.length
  · rw [getD_lt (by rw [List.length_map, List.length_range]; exact h), List.getElem_map, List.getElem_range]
  · rw [getD_ge (by rw [List.length_map, List.length_range]; omega), cm_ge (by omega)]
/-- a list by its numbers -/
theorem list_ext {a b : List Int} (hl : a.length = b.length) (h : ∀ n, a.getD n 0 = b.getD n 0) : a = b := by
  refine List.ext_getElem hl fun i h1 h2 => ?_
  have := h i
  rw [getD_lt h1, getD_lt h2] at this
  exact this
/-- a row while the product is reckoned: i rows done, k places of the next -/
noncomputable def RowAt (f g : List Int) (i k : Nat) (row : List Int) : Prop := row.length = f.length + g.length ∧ ∀ n, row.getD n 0 = cpart f g n i + if i ≤ n ∧ n - i < k then f.getD i 0 * g.getD (n - i) 0 else 0
theorem row_start (f g : List Int) : RowAt f g 0 0 (List.replicate (f.length + g.length) 0) := by
  refine ⟨List.length_replicate, fun n => ?_⟩
  rw [if_neg (by omega)]
  show _ = (0 : Int) + 0
  by_cases h : n < f.length + g.length
  · rw [getD_lt (by rw [List.length_replicate]; exact h), List.getElem_replicate]; rfl
  · rw [getD_ge (by rw [List.length_replicate]; omega)]; rfl
theorem set_get (row : List Int) (j : Nat) (x : Int) (n : Nat) (h : j < row.length) : (row.set j x).getD n 0 = if n = j then x else row.getD n 0 := by
  by_cases c : n = j
  · subst c
    rw [if_pos rfl, getD_lt (by rw [List.length_set]; exact h), List.getElem_set_self]
  · rw [if_neg c, List.getD_eq_getElem?_getD, List.getElem?_set_ne (by omega), ← List.getD_eq_getElem?_getD]
theorem row_step {f g row : List Int} {i k : Nat} (h : RowAt f g i k row) (hi : i < f.length) (hk : k < g.length) : RowAt f g i (k + 1) (row.set (i + k) (row.getD (i + k) 0 + f.getD i 0 * g.getD k 0)) := by
  obtain ⟨hl, hr⟩ := h
  refine ⟨by rw [List.length_set]; exact hl, fun n => ?_⟩
  rw [set_get _ _ _ _ (by omega)]
  by_cases c : n = i + k
  · subst c
    rw [if_pos rfl, hr, if_neg (by omega), if_pos (by omega), show i + k - i = k by omega]
    omega
  · rw [if_neg c, hr]
    by_cases d : i ≤ n ∧ n - i < k
    · rw [if_pos d, if_pos (by omega)]
    · rw [if_neg d, if_neg (by omega)]
theorem row_next {f g row : List Int} {i : Nat} (h : RowAt f g i g.length row) : RowAt f g (i + 1) 0 row := by
  obtain ⟨hl, hr⟩ := h
  refine ⟨hl, fun n => ?_⟩
  rw [hr, if_neg (show ¬ (i + 1 ≤ n ∧ n - (i + 1) < 0) by omega)]
  show _ = cpart f g n i + (if i ≤ n then f.getD i 0 * g.getD (n - i) 0 else 0) + 0
  by_cases c : i ≤ n
  · rw [if_pos c]
    by_cases d : n - i < g.length
    · rw [if_pos ⟨c, d⟩]; omega
    · rw [if_neg (by omega), getD_ge (show g.length ≤ n - i by omega), Int.mul_zero]; omega
  · rw [if_neg (by omega), if_neg c]; omega
theorem row_end {f g row : List Int} (h : RowAt f g f.length 0 row) : row = convL f g := by
  obtain ⟨hl, hr⟩ := h
  refine list_ext (by rw [hl]; unfold convL; rw [List.length_map, List.length_range]) fun n => ?_
  rw [hr, if_neg (by omega), convL_get, cpart_all f g n (Nat.le_refl _)]
  omega
end FM

/-! ### arguments that are only read; a list of two lists of one's own -/
namespace L3
open PySem PySem.Spec PyProof.Rows L2
theorem mn_no (H : Hp) : mn H (fun _ => false) = H := by funext b; exact mn_of rfl
noncomputable def tXr (K : PySem.W.Frag) (G : Gx) (C : En → Prop) (g : En → PV) : TE := fun σ H Q => ∃ B ρ O, Rep K G B σ H ρ O ∧ C ρ ∧ ∀ v H', Same H H' → At K G H' (g ρ) v → Q v H'
section
variable {X : Cx} {G : Gx} {Er : ER} {a b c e : Expr} {es : List Expr} {pos p px ps pa pc : Pos} {C Ca Cb : En → Prop} {g : En → PV} {gs : En → List PV} {gi : En → Int} {i j k : Nat} {x : Str} {pl : List Str} {pre : List PV → Prop}
theorem rdX (h : PE X e (tX X.K G C g)) : PE X e (tXr X.K G C g) := fun pins s σ H Q I ⟨B, ρ, O, R, c, q⟩ => h pins s σ H Q I ⟨B, ρ, O, R, c, fun v H' s a => q v H' s (At.mono mn_le _ _ a)⟩
end
section
variable {K : PySem.W.Frag} {G : Gx} {B : Bs} {σ : L2.St} {H : Hp} {ρ : En} {O : Addr → Bool} {i : Nat} {xs ys zs : List Int} {D a b : Addr}
end
section
variable {X : Cx} {G : Gx} {Er : ER} {a b e : Expr} {pos px pl ps pk pa pc : Pos} {i n : Nat} {x : Str} {C Ca Cb : En → Prop} {ga gb : En → List Int} {g : En → Int}
end
end L3

/-! ### lists compared, sums, kinds made, comprehensions with a test, zip, a tuple taken apart -/
namespace L2
open PySem PySem.Spec PyProof.Rows
theorem ints_are : ∀ {ns : List Int} {its : List Value}, Vals (ns.map V.int) its → IntsAre its ns
  | [], _, h => by cases h; exact .nil
  | n :: r, _, h => by
    cases h with
    | cons a b =>
      obtain ⟨t, rfl⟩ := a
      exact .cons n t (ints_are b)
noncomputable def rEqL (g : List Int → List Int → Bool) : R2 := fun x y H Q => ∃ a b ns ms, x = .ref a ∧ y = .ref b ∧ Rd H a (.lst (ns.map V.int)) ∧ Rd H b (.lst (ms.map V.int)) ∧ Q (.bl (g ns ms)) H
section
variable {X : Cx}
theorem op_eqLs (hu : X.A.units + 64 < cLine) : OpR X (compareOp .Eq) (rEqL fun ns ms => decide (ns = ms)) := by
  intro pins s σ H x y v u Q I rx ry h
  obtain ⟨a, b, ns, ms, rfl, rfl, ha, hb, q⟩ := h
  cases rx
  cases ry
  obtain ⟨_, its, n, r, _, e⟩ := L3.Inv.lstR I ha
  obtain ⟨_, its2, n2, r2, _, e2⟩ := L3.Inv.lstR I hb
  exact PySem.W.ke_eq_ints ⟨_, e, rfl, _, rfl⟩ ⟨_, e2, rfl, _, rfl⟩ (ints_are r) (ints_are r2) hu ⟨.bl _, H, I, rfl, q⟩
end
end L2
namespace L3
open PySem PySem.Spec PyProof.Rows L2
section
variable {X : Cx} {G : Gx} {Er : ER} {a b e : Expr} {pos p px apos : Pos} {C Ca Cb : En → Prop} {gl hl : En → List Int} {i j k : Nat} {x : Str}
/-- a list of numbers that is read and let go: one's own, or not -/
theorem rlO (i : Nat) {x : Str} (hN : X.N[i]? = some x := by rfl) (hv : Vis X.env.scope x := by first | exact Or.inl rfl | exact Or.inr (Or.inl rfl) | exact Or.inr (Or.inr rfl))
    (hd : (x == ("__debug__" : Str)) = false := by decide) (hcd : (x == ("__classdict__" : Str)) = false := by decide) : PE X (.Name x pos) (tXr X.K G (fun ρ => isL ρ i ∨ isO ρ i) fun ρ => .ints (getL ρ i)) :=
  fun pins s σ H Q I ⟨B, ρ, O, R, c, q⟩ => pe_var hN hv hd hcd pins s σ H Q I (by
    rcases c with c | c
    · obtain ⟨v, e1, a, rfl, r⟩ := R.fr i _ c
      exact ⟨_, e1, q _ H (Same.refl H) ⟨a, rfl, same_rd mn_le r⟩⟩
    · obtain ⟨a, vs, e1, e2, e3, e4, e5⟩ := R.ow i _ c
      have e5 : vs = (getL ρ i).map V.int := e5
      subst e5
      exact ⟨_, e1, q _ H (Same.refl H) ⟨a, rfl, .inl e4⟩⟩)
theorem two_r {r : R2} {σ : L2.St} {H : Hp} {B : Bs} {ρ : En} {O : Addr → Bool} {Q : VK} (R : Rep X.K G B σ H ρ O) (ca : Ca ρ) (cb : Cb ρ) (q : ∀ l m H1 H2, Same H H1 → Same H1 H2 → Rd H2 l (.lst ((gl ρ).map V.int)) → Rd H2 m (.lst ((hl ρ).map V.int)) → r (.ref l) (.ref m) H2 Q) :
    tOp r (tXr X.K G Ca fun ρ => .ints (gl ρ)) (tXr X.K G Cb fun ρ => .ints (hl ρ)) σ H Q :=
  ⟨B, ρ, O, R, ca, fun v H1 s1 a1 => ⟨B, ρ, O, R.grow s1, cb, fun u H2 s2 a2 => by
    obtain ⟨l, rfl, r1⟩ := a1
    obtain ⟨m, rfl, r2⟩ := a2
    exact q l m H1 H2 s1 s2 (same_rd s2 r1) r2⟩⟩
theorem xe_eqL (hu : X.A.units + 64 < cLine) (ha : PE X a (tXr X.K G Ca fun ρ => .ints (gl ρ))) (hb : PE X b (tXr X.K G Cb fun ρ => .ints (hl ρ))) : PE X (.Compare a [.Eq] [b] pos) (tXB X.K G (fun ρ => Ca ρ ∧ Cb ρ) fun ρ => gl ρ = hl ρ) :=
  toX (pe_cmpR (op_eqLs hu) ha hb (nomark _)) fun _ _ _ _ _ _ R c q => two_r R c.1 c.2 fun l m _ H2 s1 s2 r1 r2 => ⟨l, m, _, _, rfl, rfl, r1, r2, q _ H2 (s1.trans s2) rfl⟩
/-! values that are new: told by a def whose caller goes on changing what it handed in -/
/-- an item of a list or tuple of values, known to be a number, a list of numbers -/
noncomputable def pvI : PV → Int
  | .int n => n
  | _ => 0
noncomputable def pvL : PV → List Int
  | .ints ns => ns
  | _ => []
theorem xn_of {g : En → PV} (h : PE X e (tX X.K G C g)) : PE X e (tXI X.K G (fun ρ => C ρ ∧ g ρ = .int (pvI (g ρ))) fun ρ => pvI (g ρ)) :=
  toX h fun B σ H ρ O Q R c q => ⟨B, ρ, O, R, c.1, fun v H' s a => q v H' s (by rw [← c.2]; exact a)⟩
theorem xl_of {g : En → PV} (h : PE X e (tX X.K G C g)) : PE X e (tXL X.K G (fun ρ => C ρ ∧ g ρ = .ints (pvL (g ρ))) fun ρ => pvL (g ρ)) :=
  toX h fun B σ H ρ O Q R c q => ⟨B, ρ, O, R, c.1, fun v H' s a => q v H' s (by rw [← c.2]; exact a)⟩
noncomputable def pvP : PV → List PV
  | .lst xs => xs
  | _ => []
theorem xp_of {g : En → PV} (h : PE X e (tX X.K G C g)) : PE X e (tX X.K G (fun ρ => C ρ ∧ g ρ = .lst (pvP (g ρ))) fun ρ => .lst (pvP (g ρ))) :=
  toX h fun B σ H ρ O Q R c q => ⟨B, ρ, O, R, c.1, fun v H' s a => q v H' s (by rw [← c.2]; exact a)⟩
end
section
variable {P : Program} {w : World} {K : PySem.W.Frag} {mg : Str → Option Value} {base : Heap} {G : Gx}
end
/-! kinds that are made where they are used -/
noncomputable def spNewW (C : Addr) : Sp := fun vs H Q _ => ∃ x dx : Addr, vs = [.ref x] ∧ H x = some (.ins C dx []) ∧ Q .non (upd H x (.ins C dx [("size", .int 0)]))
theorem mk_seen {H : Hp} {O : Addr → Bool} {x : Addr} (hd : ∀ a, O a = true → H a ≠ none) (hx : H x = none) {H' : Hp} : mn H' O x = H' x := mn_of (by
  cases z : O x with
  | false => rfl
  | true => exact absurd hx (hd x z))
theorem mk_grow {H : Hp} {x dx C : Addr} {fs : List (Str × V)} (hx : H x = none) (hd : H dx = none) : Same H (upd (upd (upd H dx (.own x)) x (.ins C dx [])) x (.ins C dx fs)) := fun b o e => by
  rw [upd_ne (ne_of_none e hx), upd_ne (ne_of_none e hx), upd_ne (ne_of_none e hd)]
  exact e
/-- Wholes alone -/
noncomputable def KW (cW : Addr) (H : Hp) (a : Addr) (z : Int) : Prop := z = 0 ∧ ∃ dx fs, H a = some (.ins cW dx fs) ∧ fs.lookup ("size" : Str) = some (.int 0) ∧ ∀ m ∈ kMeths, fs.lookup m = none
theorem KW.same {cW : Addr} {H H' : Hp} {a : Addr} {z : Int} (k : KW cW H a z) (s : Same H H') : KW cW H' a z := by
  obtain ⟨e0, dx, fs, e, r⟩ := k
  exact ⟨e0, dx, fs, s _ _ e, r⟩
noncomputable def GkW (cW : Addr) : Gx := ⟨fun k H a z => k = 0 ∧ KW cW H a z, fun _ _ _ _ _ s h => ⟨h.1, h.2.same s⟩⟩
theorem gkW {cW : Addr} (H : Hp) (a dx : Addr) (h : H a = some (.ins cW dx [("size", .int 0)])) : (GkW cW).ob 0 H a 0 := by
  have hm : ∀ m ∈ kMeths, List.lookup m [("size", V.int 0)] = none := by decide +kernel
  exact ⟨rfl, rfl, dx, _, h, rfl, hm⟩
section
variable {X : Cx} {G : Gx} {pos p : Pos} {j k : Nat} {x : Str} {C : Addr}
theorem xk_W (o : OkI X.prog X.w X.K X.mg X.base CX0 j x C ["self"] (spNewW C)) (hr : Room k X.A) (hG : ∀ (H : Hp) (a dx : Addr), H a = some (.ins C dx [("size", .int 0)]) → G.ob 0 H a 0) (hj : j + 1 ≤ k := by decide) (hg : Gl X x := by rfl) (hdb : (x == ("__debug__" : Str)) = false := by decide) :
    PE X (.Call (.Name x p) [] [] pos) (tX X.K G (fun _ => True) fun _ => .ob 0 0) :=
  toX (pe_makeO0 o hr pass0 hj hg hdb) fun B σ H ρ O Q R _ q => fun y dx hy hd hne => by
    refine ⟨y, dx, rfl, upd_same, rfl, q (.ref y) _ (mk_grow hy hd) ⟨y, rfl, hG _ _ dx ?_⟩⟩
    rw [mk_seen R.dom hy]
    exact upd_same
end
/-! comprehensions with a test -/
section
variable {K : PySem.W.Frag} {G : Gx} {B : Bs} {σ : L2.St} {H H1 : Hp} {ρ : En} {O : Addr → Bool} {D : Addr} {cap : List (Option Nat)}
variable {α : Type} {J : It} {g : TG} {C Ct : En → Prop} {pt : En → Prop} [∀ ρ, Decidable (pt ρ)] {gb : En → PV} {Q : VK}
end
section
variable {K : PySem.W.Frag} {G : Gx} {σ : L2.St} {H : Hp} {Q : VK} {Cs Ct Cb : En → Prop} {pt : En → Prop} [∀ ρ, Decidable (pt ρ)] {gs hs : En → List Int} {gi : En → Int} {gp : En → PV} {cap : List (Option Nat)}
/-- over a list of one's own -/
theorem lc_Q (h : tXp K G (fun ρ => Cs ρ ∧ (gs ρ).length ≤ 1000 ∧ ∀ n ∈ gs ρ, Cb ((capR (none :: cap) ρ).set 0 (.fr (.int n)))) (fun ρ => (gs ρ).map fun n => gp ((capR (none :: cap) ρ).set 0 (.fr (.int n)))) σ H Q) :
    tLC (none :: cap) (iList K (tXr K G Cs fun ρ => .ints (gs ρ))) (gName 0) noTest (tX K G Cb gp) σ H Q := by
  obtain ⟨B, ρ, O, R, ⟨c1, c2, c3⟩, q⟩ := h
  refine ⟨B, ρ, O, R, c1, fun v H1 s1 a1 => ?_⟩
  obtain ⟨a, rfl, hq⟩ := a1
  have hq1 : SqL K H1 a ((gs ρ).map V.int) := .inl hq
  refine ⟨a, rfl, ⟨_, hq1⟩, fun D hD => ?_⟩
  refine lc_main (gs ρ) (fun _ v => (capS (none :: cap) σ).set 0 (some v)) (fun n => (capR (none :: cap) ρ).set 0 (.fr (.int n))) V.int (R.grow s1) hD c2 (fun i H hi s => ⟨_, .int (gs ρ)[i], s.seq hq1, by simp [hi]⟩) ?_ (fun H s => ⟨_, s.seq hq1, by simp⟩) (fun n H _ s R' => R'.set (p := .int n) rfl) ?_ c3 ?_
  · rintro i n x H H' en s ⟨rfl, hx⟩
    obtain ⟨n', rfl, hn⟩ := int_at (hx _ (s.seq hq1))
    rw [hn] at en
    cases en
    exact ⟨Same.refl _, fun k hk => hk⟩
  · intro n
    show ExtS (none :: capS cap σ) (some (.int n) :: capS cap σ)
    exact ext_refl _
  · intro H' ys s hd al
    exact q D ys H' (s1.trans s) (s1.free hD) hd al
end
section
variable {X : Cx} {G : Gx} {Er : ER} {N' : List Str} {sc : Scope} {cl : List (Str × Addr)} {cap : List (Option Nat)} {el tg src tst l l2 : Expr} {at' spos px p pos' : Pos} {Cs Cs' Ct Cb : En → Prop} {pt : En → Prop} [∀ ρ, Decidable (pt ρ)] {gs hs : En → List Int} {gi : En → Int} {gp : En → PV} {i : Nat} {x : Str}
theorem xst_lcQ (hN : X.N.Nodup) (hi' : X.N[i]? = some x) (hx : X.env.scope.names.lookup x = some .local) (L : LcOk X N' sc cl (none :: cap)) (hc : X.calm = true) (hi : PE X src (tXr X.K G Cs fun ρ => .ints (gs ρ))) (hg : ∀ s H fp, PG (cxComp X N' sc cl s H fp) tg (gName 0)) (he : ∀ s H fp, PE (cxComp X N' sc cl s H fp) el (tXI X.K G Cb gi))
    (hsw : swapsWith (.ListComp el [⟨tg, src, [], 0⟩] sc at') (some (.Name x px)) spos.line X.env = pure true) (hs : ∀ x, foldedSetIterable src X.env x = pure x := by intro _; rfl) :
    PS X (.Assign [.Name x px] (.ListComp el [⟨tg, src, [], 0⟩] sc at') spos) (ts X.K G Er fun P ρ => (Cs ρ ∧ (gs ρ).length ≤ 1000 ∧ ∀ n ∈ gs ρ, Cb ((capR (none :: cap) ρ).set 0 (.fr (.int n)))) ∧ ∀ ns, ns = ((gs ρ).map fun n => gi ((capR (none :: cap) ρ).set 0 (.fr (.int n)))) → P.nx (ρ.set i (.ow (.ints ns)))) :=
  own_of (ps_lc hN hi' hx L hc (pi_list hi) hg (fun _ _ _ => pts_nil) he hsw hs) fun σ H Q h => lc_Q (p_of_l h)
end
end L3
/-! the law's promise, with the size of the script's numbers -/
namespace L2
open PySem PySem.Spec PyProof.Rows PySem.W PySem.Calls
theorem wl_all : ∀ (ns : List Int), ∀ n ∈ ns, WData.weight (.int n) ≤ WData.weightAll (ns.map WData.int)
  | [], n, h => by cases h
  | m :: r, n, h => by
    rw [List.map_cons]
    simp only [WData.weightAll]
    rcases List.mem_cons.mp h with rfl | h
    · omega
    · have := wl_all r n h
      omega
theorem wl_bits {ns : List Int} (h : WData.layableAll [WData.list (ns.map WData.int)] = true) {n : Int} (hn : n ∈ ns) : Builtin.Int.intBits n ≤ 2 ^ 20 := by
  have h1 : WData.layable (WData.list (ns.map WData.int)) = true := List.all_eq_true.mp h _ List.mem_cons_self
  unfold WData.layable at h1
  rw [Bool.and_eq_true] at h1
  have h2 := of_decide_eq_true h1.2
  have h3 := wl_all ns n hn
  simp only [WData.weight] at h2 h3
  exact Nat.le_trans h3 h2
theorem walk_of2 {l : PySem.W.OpenLaw} {n k : Nat} {q : Program} {loose : List Str} {XP : (Str → Option Value) → Heap → Prop} {YP : World → Heap → Prop} {d : DefRec} {K : Params → PySem.W.Frag} {CX : World → CXT} {sp : World → Sp} {x : Str}
    (hn : l.most = some n) (hn2 : n ≤ sizeLine) (hdf : d.params.defaults = []) (hr : Room k callerA) (hY : ∀ (w : World) (h : Heap), YP w h → (K w.params).In h)
    (F : ∀ (w : World) (mg : Str → Option Value) (fa : Addr) (h : Heap), (K w.params).In h → h.Ns mainGlobals mg → mg d.name = some (.ref fa) →
      ∃ fd : FuncData, (∀ (s : Shared) (u : Value), BindsTo s fd ⟨[u], []⟩ [(x, u)]) ∧ ∀ base : Heap, (K w.params).In base → base.Ns mainGlobals mg → FnOk l.prog w (K w.params) mg base (CX w) k fa fd [x] (sp w))
    (hsp : ∀ (w : World) (H : Hp) (a : Addr) (ns : List Int), ns.length ≤ n → (∀ m ∈ ns, Builtin.Int.intBits m ≤ 2 ^ 20) → SqL (K w.params) H a (ns.map V.int) → sp w [.ref a] H (fun v _ => v = .bl true) fun _ _ _ => False)
    (hCX : ∀ (w : World) (H : Hp) (s : Shared) (e : Value) (s' : Shared), CX w [] H s (fun _ _ _ => False) e s' → False) : PySem.W.WalkO q loose XP YP l.row.toRowW d [] (fun f vs => PySem.call f vs) := by
  intro w s₀ s₁ mg mb G Y fa o pm cd doc dV kV ho hd hcd hD hmg hg args vals as hpre hlay hrd hwl hlo
  obtain rfl : dV = .none := Dflts.none hD hdf
  obtain rfl : kV = .none := Dflts.noKw hD
  obtain ⟨a, vs, ns, rfl, rfl, hobj, hints, hlen⟩ := Att.script_of hn hpre hwl
  have KX := hY w _ Y
  obtain ⟨fd, hb, hF⟩ := F w mg fa _ KX G.T.g hmg
  refine enter_call (codeAny_mono (law_call KX G.T.g G.T.b G.T.builtins G.T.nolimit hg hobj hints (Nat.le_trans hlen hn2) hr hF hb (fun H hO hS => hsp w H a ns hlen (fun m hm => wl_bits hlay hm) hS) fun H e s' => hCX w H s₁ e s') fun r s' hq => ?_)
  obtain ⟨rfl, h2, h3, h4⟩ := hq
  exact ⟨.inl ⟨.bool true, .bool true, [], rfl, fun _ => rfl, .bool true, Att.post_true l _, fun _ => ⟨List.Pairwise.nil, fun _ hm => (nomatch hm)⟩⟩, h2, h3, h4⟩
noncomputable def spLaw2 (K : PySem.W.Frag) : Sp := fun vs H Q _ => ∃ (a : Addr) (ns : List Int), vs = [.ref a] ∧ SqL K H a (ns.map V.int) ∧ ns.length ≤ 63 ∧ (∀ m ∈ ns, Builtin.Int.intBits m ≤ 2 ^ 20) ∧ ∀ H', Q (.bl true) H'
end L2
namespace L3
open PySem PySem.Spec PyProof.Rows L2
theorem lawF2 {P : Program} {w : World} {K : PySem.W.Frag} {mg : Str → Option Value} {base : Heap} {G : Gx} {k : Nat} {x : Str} {st : Stmt} {N : List Str} {f : Addr} {fd : FuncData} {y : Str} (F : Fun K x x st f fd) (S : FnScope N [y] (defScope st))
    (hbody : ∀ (cdv : Value) (A : Around) (outer : List Env) (s : Shared) (H : Hp) (E : XK), Room k (A.deeper (envOfC x (defScope st) s.heap.objs.size f cdv)) →
      ∃ fs, PSs (cxOf CX0 P w K mg base N x (defScope st) f cdv A outer s H E).nox (defBody st) (ts K G ER0 fs) ∧ ∀ ns : List Int, ns.length ≤ 63 → (∀ m ∈ ns, Builtin.Int.intBits m ≤ 2 ^ 20) → fs { nx := fun _ => False, rt := fun p => p = .bl true } (startR N [.scr ns])) : FnOk P w K mg base CX0 (k + 1) f fd [y] (spLaw2 K) := by
  refine F.ok S (fun vs H Q E h => ?_) fun cdv A outer s H vs Q E hr h => ?_
  · obtain ⟨a, ns, rfl, _⟩ := h
    rfl
  obtain ⟨a, ns, rfl, hS, hl, hb, q⟩ := h
  obtain ⟨fs, b, c⟩ := hbody cdv A outer s H E hr
  have al : AtL K G (mn H fun _ => false) [.scr ns] [.ref a] := ⟨_, _, rfl, ⟨a, rfl, by rw [mn_no]; exact hS⟩, rfl⟩
  refine ⟨_, b, ⟨H, fun _ => false⟩, startR N [.scr ns], _, ⟨_, rep_start (fun _ z => by cases z) al⟩, c ns hl hb, ⟨fun _ _ _ _ h => h.elim, fun v H' p s' a' h => ?_, fun _ _ _ _ _ _ h => h.elim, fun _ _ _ _ _ h => h.elim, fun _ _ _ _ h => h, fun _ _ _ _ h => h, fun _ _ _ h => h⟩⟩
  have h : p = .bl true := h
  subst h
  have a' : v = .bl true := a'
  subst a'
  exact q H'
end L3

/-! ### Euclid's steps, turned numbers, primes -/
namespace FM
open L2
/-- where turned stands: before, rest and their shares -/
structure Eu (n z b r sb s : Int) : Prop where
  r0 : 0 ≤ r
  rb : r < b
  bz : b ≤ z
  db : z ∣ b - sb * n
  dr : z ∣ r - s * n
  gc : Int.gcd b r = Int.gcd n z
  sg : (sb ≤ 0 ∧ 0 ≤ s) ∨ (0 ≤ sb ∧ s ≤ 0)
  id : (s.natAbs : Int) * b + (sb.natAbs : Int) * r = z
theorem gcd_mod (n z : Int) : Int.gcd z (n % z) = Int.gcd n z := by
  rw [Int.emod_def, Int.gcd_sub_mul_left_right, Int.gcd_comm]
theorem Eu.start {n z : Int} (hz : 2 ≤ z) : Eu n z z (n % z) 0 1 := by
  refine ⟨Int.emod_nonneg _ (by omega), Int.emod_lt_of_pos _ (by omega), Int.le_refl _, ?_, ?_, gcd_mod n z, .inl ⟨by omega, by omega⟩, ?_⟩
  · rw [Int.zero_mul, Int.sub_zero]; exact Int.dvd_refl z
  · rw [Int.one_mul, Int.emod_def]
    exact ⟨-(n / z), by rw [Int.mul_neg]; omega⟩
  · show (1 : Int) * z + ((0 : Int).natAbs : Int) * (n % z) = z
    rw [Int.one_mul]
    show z + (0 : Int) * (n % z) = z
    rw [Int.zero_mul]; omega
theorem Eu.rest {b r : Int} (h : 0 < r) : b - b / r * r = b % r := by rw [Int.emod_def, Int.mul_comm]
theorem Eu.step {n z b r sb s : Int} (h : Eu n z b r sb s) (hr : r ≠ 0) : Eu n z r (b - b / r * r) s (sb - b / r * s) := by
  have r0 : 0 < r := by have := h.r0; omega
  have q0 : 0 ≤ b / r := Int.ediv_nonneg (by have := h.rb; omega) (by omega)
  have er := Eu.rest (b := b) r0
  have abs : ((sb - b / r * s).natAbs : Int) = (sb.natAbs : Int) + b / r * (s.natAbs : Int) := by
    rcases h.sg with ⟨h1, h2⟩ | ⟨h1, h2⟩
    · have e1 : 0 ≤ b / r * s := Int.mul_nonneg q0 h2
      have e2 : (s.natAbs : Int) = s := by omega
      rw [e2]
      omega
    · have e1 : b / r * s ≤ 0 := Int.mul_nonpos_of_nonneg_of_nonpos q0 h2
      have e2 : (s.natAbs : Int) = -s := by omega
      rw [e2, Int.mul_neg]
      omega
  refine ⟨?_, ?_, by have := h.rb; have := h.bz; omega, h.dr, ?_, ?_, ?_, ?_⟩
  · rw [er]; exact Int.emod_nonneg _ (by omega)
  · rw [er]; exact Int.emod_lt_of_pos _ r0
  · obtain ⟨u, hu⟩ := h.db
    obtain ⟨v, hv⟩ := h.dr
    refine ⟨u - b / r * v, ?_⟩
    have e : b - b / r * r - (sb - b / r * s) * n = (b - sb * n) - b / r * (r - s * n) := by
      rw [Int.sub_mul, Int.mul_sub, Int.mul_assoc]; omega
    rw [e, hu, hv, Int.mul_sub, Int.mul_left_comm]
  · rw [er, ← h.gc, gcd_mod]
  · rcases h.sg with ⟨h1, h2⟩ | ⟨h1, h2⟩
    · exact .inr ⟨h2, by have := Int.mul_nonneg q0 h2; omega⟩
    · exact .inl ⟨h2, by have := Int.mul_nonpos_of_nonneg_of_nonpos q0 h2; omega⟩
  · rw [abs, ← h.id, Int.add_mul, Int.mul_sub, Int.mul_assoc, Int.mul_comm (b / r) ((s.natAbs : Int) * r), Int.mul_assoc, Int.mul_comm r (b / r)]
    omega
/-- the shares stay below the size -/
theorem Eu.small {n z b r sb s : Int} (h : Eu n z b r sb s) : (s.natAbs : Int) ≤ z ∧ (sb.natAbs : Int) ≤ z ∨ r = 0 ∧ (s.natAbs : Int) ≤ z := by
  have h0 := h.r0
  have h1 := h.rb
  have hid := h.id
  have a1 : (s.natAbs : Int) * 1 ≤ (s.natAbs : Int) * b := Int.mul_le_mul_of_nonneg_left (by omega) (by omega)
  have a2 : 0 ≤ (sb.natAbs : Int) * r := Int.mul_nonneg (by omega) h0
  by_cases c : r = 0
  · exact .inr ⟨c, by omega⟩
  · have a3 : (sb.natAbs : Int) * 1 ≤ (sb.natAbs : Int) * r := Int.mul_le_mul_of_nonneg_left (by omega) (by omega)
    have a4 : 0 ≤ (s.natAbs : Int) * b := Int.mul_nonneg (by omega) (by omega)
    exact .inl ⟨by omega, by omega⟩
theorem Eu.end {n z b sb s : Int} (h : Eu n z b 0 sb s) : b = (Int.gcd n z : Int) := by
  have := h.gc
  rw [Int.gcd_zero_right] at this
  have := h.rb
  omega
theorem Eu.one {n z b sb s : Int} (hz : 2 ≤ z) (h : Eu n z b 0 sb s) (h1 : b = 1) : (sb % z * n) % z = 1 := by
  have hd := h.db
  rw [h1] at hd
  have e : (sb % z * n) % z = (sb * n) % z := by rw [Int.mul_emod, Int.emod_emod_of_dvd _ (Int.dvd_refl z), ← Int.mul_emod]
  rw [e]
  have e2 : (1 - sb * n) % z = 0 := Int.emod_eq_zero_of_dvd hd
  have e3 := (Int.emod_eq_emod_iff_emod_sub_eq_zero (m := 1) (n := z) (k := sb * n)).mpr e2
  rw [← e3]
  exact Int.emod_eq_of_lt (by omega) (by omega)
/-! primes -/
theorem IsP.dvd {p d : Int} (hp : IsP p) (h0 : 0 < d) (h : d ∣ p) : d = 1 ∨ d = p := by
  obtain ⟨k, hk⟩ := h
  have hp2 := hp.1
  have k0 : 0 < k := by
    rcases Int.lt_or_le 0 k with c | c
    · exact c
    · have := Int.mul_nonpos_of_nonneg_of_nonpos (Int.le_of_lt h0) c
      omega
  by_cases c1 : d = 1
  · exact .inl c1
  · by_cases c2 : k = 1
    · right; rw [hk, c2, Int.mul_one]
    · exfalso
      rcases Int.le_total d k with c | c
      · refine hp.2.2 d (by omega) ?_ (Int.emod_eq_zero_of_dvd ⟨k, hk⟩)
        rw [hk]
        exact Int.mul_le_mul_of_nonneg_left c (by omega)
      · refine hp.2.2 k (by omega) ?_ (Int.emod_eq_zero_of_dvd ⟨d, by rw [hk, Int.mul_comm]⟩)
        rw [hk, Int.mul_comm d k]
        exact Int.mul_le_mul_of_nonneg_left c (by omega)
theorem IsP.coprime {p b : Int} (hp : IsP p) (h : ¬ b % p = 0) : Int.gcd b p = 1 := by
  have h1 : ((Int.gcd b p : Nat) : Int) ∣ p := Int.gcd_dvd_right b p
  have h2 : ((Int.gcd b p : Nat) : Int) ∣ b := Int.gcd_dvd_left b p
  have h3 : 0 < Int.gcd b p := Int.gcd_pos_of_ne_zero_right _ (by have := hp.1; omega)
  rcases hp.dvd (by omega) h1 with c | c
  · omega
  · rw [c] at h2
    exact absurd (Int.emod_eq_zero_of_dvd h2) h
end FM

/-! ### a try around a call, an except with a name -/
namespace L2
open PySem PySem.Spec PyProof.Rows
section
variable {X : Cx} {pins : List (Addr × Obj)} {σ : St} {H : Hp} {s : Shared} {h' : Heap} {ch : List Addr}
/-- records that the entry did not know have changed, the frames up to their slots -/
theorem Inv.noted {t' : Nat} (I : Inv X pins σ H s) (hl : X.env.locals ∈ frs X.stack)
    (hch : ∀ b ∈ ch, X.s₀.heap.get? b = none ∧ H b = none ∧ b ∉ frs X.stack ∧ (∀ x c, X.env.cells.lookup x = some c → c ≠ b) ∧ ∀ p ∈ X.pn ++ pins, p.1 ≠ b)
    (keep : ∀ b o, b ∉ ch → b ∉ frs X.stack → s.heap.get? b = some o → h'.get? b = some o) (slot : ∀ b o, b ∈ frs X.stack → s.heap.get? b = some o → ∃ sl, h'.get? b = some { o with slots := sl }) : Inv X pins σ H { s with heap := h', toks := t' } := by
  have any : ∀ b o, b ∉ ch → s.heap.get? b = some o → ∃ sl, h'.get? b = some { o with slots := sl } := fun b o hb e => by
    by_cases c : b ∈ frs X.stack
    · exact slot b o c e
    · exact ⟨o.slots, keep b o hb c e⟩
  have noC : ∀ b o, X.s₀.heap.get? b = some o → b ∉ ch := fun b o e z => by rw [(hch b z).1] at e; cases e
  have neL : ∀ b o, X.s₀.heap.get? b = some o → b ≠ X.env.locals := fun b o e => Nat.ne_of_lt (Nat.lt_of_lt_of_le (Heap.lt_size e) I.ok.above)
  have cellK : ∀ x c, X.env.cells.lookup x = some c → ∀ v, s.heap.IsCell c v → h'.IsCell c v := fun x c e v ⟨o, ho, hd⟩ => by
    obtain ⟨sl, q⟩ := any c o (fun z => (hch c z).2.2.2.1 x c e rfl) ho
    exact ⟨_, q, hd⟩
  refine ⟨I.ok, I.os, I.bare, ⟨fun b o e n hbf hx => ?_, fun b o e n hbf hx => ?_, I.base.free, fun b o e hx => ?_, I.base.tups, I.base.frzs, I.base.tbls⟩, ?_, fun x c e => ?_, I.free, I.freeC, fun p hp => ?_, fun b o e => ?_, I.len⟩
  · refine keep b o (noC b o e) (fun z => ?_) (I.base.keep b o e n hbf hx)
    rcases List.mem_cons.mp (I.stkSub b z) with q | q
    · exact neL b o e q
    · exact hbf q
  · obtain ⟨sl, e1⟩ := I.base.slot b o e n hbf hx
    obtain ⟨sl2, e2⟩ := any b _ (noC b o e) e1
    exact ⟨sl2, e2⟩
  · obtain ⟨o', e1⟩ := I.base.there b o e hx
    obtain ⟨sl2, e2⟩ := any b o' (noC b o e) e1
    exact ⟨_, e2⟩
  · obtain ⟨m, ⟨o, es, ep, ho, r⟩, hloc⟩ := I.loc
    obtain ⟨sl, e⟩ := slot _ o hl ho
    refine ⟨m, ⟨_, es, ep, e, r⟩, fun i x v h1 h2 h3 => ?_⟩
    obtain ⟨u, ru, l⟩ := hloc i x v h1 h2 h3
    refine ⟨u, ru, ?_⟩
    rcases l with l | ⟨k, c, hc, ic⟩
    · exact .inl l
    · exact .inr ⟨k, c, hc, cellK x c hc _ ic⟩
  · obtain ⟨v, ic⟩ := I.cell x c e
    exact ⟨v, cellK x c e v ic⟩
  · obtain ⟨a1, a2, a3, a4, a5⟩ := I.pin p hp
    refine ⟨keep p.1 p.2 (fun z => (hch _ z).2.2.2.2 p hp rfl) (fun z => ?_) a1, a2, a3, a4, a5⟩
    rcases List.mem_cons.mp (I.stkSub _ z) with q | q
    · exact a3 q
    · exact a4 q
  · refine (I.hok b o e).stay (fun c u hc q => keep c u (fun z => ?_) (fun z => ?_) q) (fun _ q => q) fun _ _ q => q
    · have hn := (hch c z).2.1
      rcases hc with rfl | hc
      · rw [hn] at e; cases e
      · rw [hn] at hc; cases hc
    · have hn := I.stkFree c z
      rcases hc with rfl | hc
      · rw [hn] at e; cases e
      · rw [hn] at hc; cases hc
end
section
variable {X : Cx} {pins : List (Addr × Obj)} {σ : St} {H1 H' : Hp} {s1 s' : Shared} {a : Addr} {cls : Value}
end

section
variable {X : Cx} {pins : List (Addr × Obj)} {σ : St} {H H' : Hp} {s : Shared} {h0 : Heap} {a : Addr} {cls : Value}
end

section
variable {X : Cx} {call : Expr} {te : XK → TE} {x n y : Str} {C : Addr} {i j : Nat} {px py pn hp p1 p2 pos : Pos}
end
end L2

/-! ### defs that may refuse, read over pure values -/
namespace L3
open PySem PySem.Spec PyProof.Rows L2
/-- what a call comes to: a value, or an error of a class -/
inductive Rs where
  | val (p : PV) | err (C : Addr)
noncomputable def spE (K : PySem.W.Frag) (G : Gx) (pre : List PV → Prop) (F : List PV → Rs) : Sp := fun vs H Q E => ∃ as O, (∀ a, O a = true → H a ≠ none) ∧ AtL K G (mn H O) as vs ∧ pre as ∧ (∀ p, F as = .val p → ∀ v H', Same H H' → At K G (mn H' O) p v → Q v H') ∧ ∀ C, F as = .err C → ∀ H', Same H H' → E (.ref C) none H'
structure OkE (P : Program) (w : World) (K : PySem.W.Frag) (mg : Str → Option Value) (base : Heap) (k : Nat) (x : Str) (ps : List Str) (sp : Sp) : Prop where
  ex : ∃ f fd, FnOk P w K mg base (CXe P w) k f fd ps sp ∧ Binds K fd ps [] ∧ PySem.W.keepIn K (.ref f) = true ∧ mg x = some (.ref f)
noncomputable abbrev erE (E : XK) : ER := fun C H => E (.ref C) none H
section
variable {P : Program} {w : World} {K : PySem.W.Frag} {mg : Str → Option Value} {base : Heap} {G : Gx}
/-- a def that tells a value or refuses -/
theorem okE {x : Str} {st : Stmt} {N ps : List Str} {k : Nat} {pre : List PV → Prop} {F : List PV → Rs} (d : Def K mg x st ps) (S : FnScope N ps (defScope st)) (len : ∀ as, pre as → as.length = ps.length)
    (hbody : ∀ (f : Addr) (cdv : Value) (A : Around) (outer : List Env) (s : Shared) (H : Hp) (E : XK), Room k (A.deeper (envOfC x (defScope st) s.heap.objs.size f cdv)) →
      ∃ fs, PSs (cxOf (CXe P w) P w K mg base N x (defScope st) f cdv A outer s H E) (defBody st) (ts K G (erE E) fs) ∧ ∀ as, pre as → fs { nx := fun _ => F as = .val .non, rt := fun p => F as = .val p, rl := fun ns => F as = .val (.ints ns), er := fun C => F as = .err C } (startR N as)) : OkE P w K mg base (k + 1) x ps (spE K G pre F) := by
  obtain ⟨f, fd, Fu, b, m⟩ := d.ex
  refine ⟨f, fd, ?_, b, Fu.kp, m⟩
  obtain ⟨oc, od, kV, doc, pm, an, cdv, ct, osl, rfl, lk, hcd⟩ := Fu.ex
  refine fn_of lk hcd S (fun vs H Q E h => ?_) fun A outer s H vs Q E hr h => ?_
  · obtain ⟨as, O, _, al, hp, _⟩ := h
    rw [← al.length]; exact len as hp
  obtain ⟨as, O, hd, al, hp, q, qe⟩ := h
  obtain ⟨fs, b, c⟩ := hbody f cdv A outer s H E hr
  refine ⟨_, b, ⟨H, O⟩, startR N as, _, ⟨O, rep_start hd al⟩, c as hp, ⟨fun σ' H' ρ' R' h => ?_, fun v H' p s' a' h => q p h v H' s' a', fun a H' ns s' n e h => ?_, fun _ _ _ _ _ h => h.elim, fun _ _ _ _ h => h, fun _ _ _ _ h => h, fun H' C s' h => qe C h H' s'⟩⟩
  · obtain ⟨O', R'⟩ := R'
    exact q _ h .non H' R'.same rfl
  · refine q _ h _ H' s' ⟨a, rfl, .inl ?_⟩
    rw [mn_of]
    · exact e
    · cases z : O a with
      | false => rfl
      | true => exact absurd n (hd a z)
end
section
variable {X : Cx} {G : Gx} {E : XK} {e : Expr} {es : List Expr} {pos p cpos np pos' : Pos} {i j k : Nat} {x y : Str} {ps : List Str} {pre : List PV → Prop} {C : En → Prop} {gs : En → List PV} {F : List PV → Rs} {Cc : Addr}
theorem pe_callE {sp : Sp} {t : TA} (o : OkE X.prog X.w X.K X.mg X.base j x ps sp) (hx : Passes (CXe X.prog X.w) X E) (hr : Room k X.A) (ha : PA X (e :: es) t) (hj : j ≤ k := by decide) (hg : Gl X x := by rfl) (hdb : (x == ("__debug__" : Str)) = false := by decide)
    (he : starEach (e :: es) X.env = (false, eval e X.env) :: starEach es X.env := by rfl) (hpl : (backTo pos (starEach es X.env)).any (·.1) = false := by rfl) : PE X (.Call (.Name x p) (e :: es) [] pos) (tCall sp [] E t) := by
  obtain ⟨f, fd, F, b, kp, m⟩ := o.ex
  exact pe_call (F.mono hj) hr hg m kp b .nil hx ha hdb he hpl
theorem passE0 : Passes (CXe X.prog X.w) X E0 := fun _ _ _ _ _ _ _ h => by obtain ⟨_, _, _, _, _, _, _, _, _, q⟩ := h; exact q.elim
/-- a call that does not refuse here -/
noncomputable def Rs.get : Rs → PV
  | .val p => p
  | .err _ => .non
noncomputable def Rs.isV : Rs → Prop
  | .val _ => True
  | .err _ => False
/-- raise C(..) -/
theorem xst_raise (hn : NewTo X E) (hc : X.calm = true) (q : ExcC X.K Cc) (hg : Gl X x) (hm : X.mg x = some (.ref Cc)) (ha : PA X (e :: es) (tXs X.K G C gs)) (hlen : ∀ ρ, (gs ρ).length = (e :: es).length := by intro _; rfl) (hz : (e :: es).length ≤ 1000 := by decide)
    (hdb : (x == ("__debug__" : Str)) = false := by decide) (he : starEach (e :: es) X.env = (false, eval e X.env) :: starEach es X.env := by rfl) (hpl : (backTo cpos (starEach (e :: es) X.env)).any (·.1) = false := by rfl) :
    PS X (.Raise (some (.Call (.Name x np) (e :: es) [] cpos)) none pos) (ts X.K G (erE E) fun P ρ => C ρ ∧ P.er Cc) :=
  toS (ps_raise hn hc q hg hm ha hz hdb he hpl fun σ H Q ⟨B, ρ, O, R, c, q⟩ => ⟨B, ρ, O, R, c, fun vs H1 s1 a1 => ⟨by rw [← a1.length]; exact hlen ρ, q vs H1 s1 a1⟩⟩) fun B σ H ρ O P D R c w => ⟨B, ρ, O, R, c.1, fun _ H1 s1 _ => w.er H1 Cc (R.same.trans s1) c.2⟩
end
end L3

/-! ### isinstance of a caught error; a try read over pure values -/
namespace L2
open PySem PySem.Spec PyProof.Rows
/-- what isinstance asks of an error's own class -/
structure ErrK (K : PySem.W.Frag) (C : Addr) : Prop where
  hg : PySem.W.findIn K (.ref C) "__getattribute__" = some (some (.builtin "BaseException.__getattribute__"))
  hk : PySem.W.findIn K (.ref C) "__getattr__" = some none
  hb : PySem.W.mroIn K C (.type "BaseException") = some true
  hd : PySem.W.hasDictIn K C = true
  ha : PySem.W.findIn K (.ref C) "__class__" = some (some (.builtin "object.__class__"))
  hn : PySem.W.specialIn K (.builtin "object.__class__") "__get__" = some (some (.builtin "getset_descriptor.__get__"))
  htk : PySem.W.takesIn K (.builtin "object.__class__") = some true
  hm : PySem.W.mroIn K C (.type "object") = some true
theorem ErrK.lk {K : PySem.W.Frag} {C : Addr} (F : ErrK K C) : ∃ c d cd sl, K.lookup C = some ⟨c, d, .cls cd, sl⟩ := by
  obtain ⟨cd, hc, _⟩ := PySem.W.any_some F.hd
  unfold PySem.W.clsIn at hc
  split at hc
  · rename_i c' d' cd' sl' ho
    exact ⟨c', d', cd', sl', ho⟩
  · cases hc
end L2
namespace L3
open PySem PySem.Spec PyProof.Rows L2
section
variable {X : Cx} {G : Gx} {a c e : Expr} {es : List Expr} {pos p : Pos} {Ca Cc C : En → Prop} {ga gc : En → PV}
end
section
variable {X : Cx} {G : Gx} {Er : ER} {e : Expr} {es : List Expr} {C : En → Prop} {gs : En → List PV} {pre : List PV → Prop} {F : List PV → Rs} {f x n y : Str} {Cc : Addr} {i j k l : Nat} {ps : List Str} {px py pn hp p1 p2 pos p cpos : Pos}
end
end L3

/-! ### values compared deeply, range with a step -/
namespace L2
open PySem PySem.Spec PyProof.Rows
end L2
namespace L3
open PySem PySem.Spec PyProof.Rows L2
/-! data -/
mutual
noncomputable def dat : PV → PyData
  | .int n => .int n
  | .bl b => .bool b
  | .non => .none
  | .str s => .str s
  | .ints ns => .list (ns.map PyData.int)
  | .lst xs => .list (dats xs)
  | .tup xs => .tuple (dats xs)
  | _ => .none
noncomputable def dats : List PV → List PyData
  | [] => []
  | p :: ps => dat p :: dats ps
end
mutual
noncomputable def isDat : PV → Prop
  | .int _ => True
  | .bl _ => True
  | .non => True
  | .str _ => True
  | .ints _ => True
  | .lst xs => areDat xs
  | .tup xs => areDat xs
  | _ => False
noncomputable def areDat : List PV → Prop
  | [] => True
  | p :: ps => isDat p ∧ areDat ps
end
section
variable {X : Cx} {pins : List (Addr × Obj)} {σ : L2.St} {H : Hp} {s : Shared} {G : Gx}
mutual
theorem reads_at (I : Inv X pins σ H s) : ∀ (p : PV) (v : V) (u : Value), At X.K G H p v → isDat p → RelV v u → ∃ as, Reads s.heap u (dat p) as
  | .int n, v, u, h, _, r => by
    have h : v = .int n := h
    subst h
    obtain ⟨t, rfl⟩ := r
    exact ⟨_, .int n t⟩
  | .bl b, v, u, h, _, r => by
    have h : v = .bl b := h
    subst h
    obtain rfl : u = .bool b := r
    exact ⟨_, .bool b⟩
  | .non, v, u, h, _, r => by
    have h : v = .non := h
    subst h
    obtain rfl : u = .none := r
    exact ⟨_, .none⟩
  | .str x, v, u, h, _, r => by
    have h : v = .str x := h
    subst h
    obtain ⟨t, rfl⟩ := r
    exact ⟨_, .str x t⟩
  | .ints ns, v, u, h, _, r => by
    obtain ⟨a, rfl, hr⟩ := h
    obtain rfl : u = .ref a := r
    obtain ⟨_, its, n, rv, _, e⟩ := Inv.lstR I hr
    exact ⟨_, reads_newData ⟨_, e, rfl, _, rfl⟩ (PySem.W.ke_carried (ints_are rv))⟩
  | .lst xs, v, u, h, d, r => by
    obtain ⟨a, vs, rfl, hr, al⟩ := h
    obtain rfl : u = .ref a := r
    obtain ⟨_, its, n, rv, _, e⟩ := Inv.lstR I hr
    obtain ⟨as, q⟩ := readsAll_at I xs vs its al d rv
    exact ⟨_, .list e rfl rfl q⟩
  | .tup xs, v, u, h, d, r => by
    obtain ⟨a, vs, rfl, hr, al⟩ := h
    obtain rfl : u = .ref a := r
    obtain ⟨_, its, rv, ⟨o, ho, hc, m, hd⟩⟩ := I.hok a _ hr
    obtain ⟨as, q⟩ := readsAll_at I xs vs its al d rv
    exact ⟨_, .tuple ho hc hd q⟩
  | .scr _, _, _, _, d, _ => d.elim
  | .ob _ _, _, _, _, d, _ => d.elim
  | .ty _, _, _, _, d, _ => d.elim
  | .cls _, _, _, _, d, _ => d.elim
theorem readsAll_at (I : Inv X pins σ H s) : ∀ (ps : List PV) (vs : List V) (us : List Value), AtL X.K G H ps vs → areDat ps → Vals vs us → ∃ as, ReadsAll s.heap us (dats ps) as
  | [], vs, us, h, _, r => by
    have h : vs = [] := h
    subst h
    cases r
    exact ⟨_, .nil⟩
  | p :: ps, vs, us, h, d, r => by
    obtain ⟨v, t, rfl, h1, h2⟩ := h
    cases r with
    | cons r1 r2 =>
      obtain ⟨as, q⟩ := reads_at I p v _ h1 d.1 r1
      obtain ⟨bs, q2⟩ := readsAll_at I ps t _ h2 d.2 r2
      exact ⟨_, .cons q q2⟩
end
end
noncomputable def eqD (p q : PV) : Prop := PySem.Spec.same (dat p) (dat q) = true
noncomputable instance (p q : PV) : Decidable (eqD p q) := inferInstanceAs (Decidable (_ = true))
section
variable {X : Cx} {G : Gx} {Er : ER} {a b : Expr} {pos : Pos} {Ca Cb : En → Prop} {ga gb : En → PV}
theorem two_d {r : R2} {σ : L2.St} {H : Hp} {B : Bs} {ρ : En} {O : Addr → Bool} {Q : VK} (R : Rep X.K G B σ H ρ O) (ca : Ca ρ) (cb : Cb ρ) (q : ∀ v u H1 H2, Same H H1 → Same H1 H2 → At X.K G H2 (ga ρ) v → At X.K G H2 (gb ρ) u → r v u H2 Q) :
    tOp r (tXr X.K G Ca ga) (tXr X.K G Cb gb) σ H Q :=
  ⟨B, ρ, O, R, ca, fun v H1 s1 a1 => ⟨B, ρ, O, R.grow s1, cb, fun u H2 s2 a2 => q v u H1 H2 s1 s2 (At.mono s2 _ _ a1) a2⟩⟩
end
end L3

/-! ### expressions that may refuse: calls, makers; a try around any of them; fields of kinds -/
namespace L3
open PySem PySem.Spec PyProof.Rows L2
/-- an expression that may refuse -/
noncomputable def tR (K : PySem.W.Frag) (G : Gx) (C : En → Prop) (F : En → Rs) (E : XK) : TE := fun σ H Q => ∃ B ρ O, Rep K G B σ H ρ O ∧ C ρ ∧ (∀ p, F ρ = .val p → ∀ v H', Same H H' → At K G (mn H' O) p v → Q v H') ∧ ∀ c, F ρ = .err c → ∀ H', Same H H' → E (.ref c) none H'
noncomputable abbrev PR (X : Cx) (G : Gx) (e : Expr) (C : En → Prop) (F : En → Rs) : Prop := ∀ E, Passes (CXe X.prog X.w) X E → PE X e (tR X.K G C F E)
section
variable {X : Cx} {G : Gx} {Er : ER} {E : XK} {e : Expr} {es : List Expr} {pos p pos' : Pos} {i j k l : Nat} {x y n : Str} {ps : List Str} {pre : List PV → Prop} {C : En → Prop} {gs : En → List PV} {g : En → PV} {F : List PV → Rs} {FE : En → Rs} {Cc Cl : Addr} {px py pn hp p1 p2 : Pos}
/-- where it does not refuse -/
theorem xR_V (h : PR X G e C FE) : PE X e (tX X.K G (fun ρ => C ρ ∧ (FE ρ).isV) fun ρ => (FE ρ).get) :=
  fun pins s σ H Q I ⟨B, ρ, O, R, c, q⟩ => h E0 passE0 pins s σ H Q I ⟨B, ρ, O, R, c.1, fun p hp v H' s a => q v H' s (by dsimp only; rw [hp]; exact a), fun cc hcc => by
    have z := c.2
    rw [hcc] at z
    exact z.elim⟩
/-! fields of kinds -/
end
end L3

/-! ### methods that may refuse; isinstance of kinds -/
namespace L2
open PySem PySem.Spec PyProof.Rows
/-- numbers handed to a method of the object at a, a number or an error out -/
noncomputable def spKME (KA : Hp → Addr → Int → Prop) (a : Addr) (z : Int) (n : Nat) (pre : Int → List Int → Prop) (F : Int → List Int → Int ⊕ Addr) : Sp := fun vs H Q E => ∃ ns : List Int, ns.length = n ∧ vs = .ref a :: ns.map V.int ∧ KA H a z ∧ pre z ns ∧ (∀ c, F z ns = .inl c → ∀ H', Same H H' → Q (.int c) H') ∧ ∀ e, F z ns = .inr e → ∀ H', Same H H' → E (.ref e) none H'
structure KME (P : Program) (w : World) (K : PySem.W.Frag) (mg : Str → Option Value) (base : Heap) (k : Nat) (KA : Hp → Addr → Int → Prop) (m : Str) (n : Nat) (pre : Int → List Int → Prop) (F : Int → List Int → Int ⊕ Addr) : Prop where
  ex : ∀ H a z, KA H a z → ∃ C dx fs ps, H a = some (.ins C dx fs) ∧ fs.lookup m = none ∧ OkM P w K mg base (CXe P w) k C m ps (spKME KA a z n pre F)
end L2
namespace L3
open PySem PySem.Spec PyProof.Rows L2
noncomputable def toRs : Int ⊕ Addr → Rs
  | .inl c => .val (.int c)
  | .inr e => .err e
section
variable {X : Cx} {G : Gx} {a b c e : Expr} {es : List Expr} {pos p px apos : Pos} {C Ca Cb Cc : En → Prop} {ga gc : En → PV} {gs : En → List PV} {i j k n : Nat} {x m : Str}
theorem xR_meth {KA : Hp → Addr → Int → Prop} {preK : Int → List Int → Prop} {F : Int → List Int → Int ⊕ Addr} {pl : Sem Bool} (i : Nat) (M : KME X.prog X.w X.K X.mg X.base j KA m n preK F) (hr : Room k X.A) (ha : PA X (e :: es) (tXs X.K G C gs)) (hn : ∀ ρ, (gs ρ).length = n := by intro _; rfl) (hG : ∀ H a z, G.ob 0 H a z → KA H a z := by first | exact fun _ _ _ h => h.2 | exact fun _ _ _ h => h.elim (fun z => z.2) fun z => absurd z.1 (by decide)) (hGm : ∀ {H H' : Hp} {a : Addr} {z : Int}, KA H a z → Same H H' → KA H' a z := by first | exact fun h s => KAt.same h s | exact fun h s => h.same s) (hj : j ≤ k := by decide)
    (hN : X.N[i]? = some x := by rfl) (hv : Vis X.env.scope x := by first | exact Or.inl rfl | exact Or.inr (Or.inl rfl) | exact Or.inr (Or.inr rfl)) (hd : (x == ("__debug__" : Str)) = false := by decide) (hcd : (x == ("__classdict__" : Str)) = false := by decide)
    (hst : starEach (e :: es) X.env = (false, eval e X.env) :: starEach es X.env := by rfl) (hpl : (backTo pos (starEach es X.env)).any (·.1) = false := by rfl)
    (ht : eval (.Call (.Attribute (.Name x px) m apos) (e :: es) [] pos) X.env = (do
      let ov ← eval (.Name x px) X.env
      standAt apos.atName
      let (f, first) ← holding [ov] (getMethod ov m pl)
      callWith pos f first (backTo pos (starEach (e :: es) X.env)) (backToKw pos (keywordEach [] X.env))) := by rfl) :
    PR X G (.Call (.Attribute (.Name x px) m apos) (e :: es) [] pos) (fun ρ => isK ρ i ∧ C ρ ∧ areI (gs ρ) ∧ preK (getZ ρ i) (allI (gs ρ))) fun ρ => toRs (F (getZ ρ i) (allI (gs ρ))) := by
  intro E hx pins s σ H Q I h
  obtain ⟨B, ρ, O, R, ⟨c0, c1, c2, c3⟩, q, qe⟩ := h
  obtain ⟨v, e1, a, rfl, ka⟩ := R.fr i _ c0
  have ka1 : KA H a (getZ ρ i) := hGm (hG _ _ _ ka) mn_le
  obtain ⟨Cl, dx, fs, ps, f1, f2, M'⟩ := M.ex H a _ ka1
  obtain ⟨f, fd, FF, bb, mm, cc⟩ := M'.ex
  refine pe_meth (pe_var hN hv hd hcd) cc mm (FF.mono hj) hr bb .nil hx ha hst hpl ht pins s σ H Q I ⟨_, e1, a, dx, fs, rfl, f1, f2, B, ρ, O, R, c1, fun vs H1 s1 a1 => ?_⟩
  have ev := a1.ints c2
  have el : (allI (gs ρ)).length = n := by rw [← hn ρ, a1.length, ev, List.length_map]
  exact ⟨allI (gs ρ), el, by rw [List.append_nil, ev], hGm ka1 s1, c3, fun c hc H' s' => q (.int c) (by dsimp only; rw [hc]; rfl) _ H' (s1.trans s') rfl, fun er her H' s' => qe er (by dsimp only; rw [her]; rfl) H' (s1.trans s')⟩
end
end L3

/-! for over zip, list(range(n)), what k01 asks of kinds -/
namespace L2
open PySem PySem.Spec PyProof.Rows
end L2
namespace L3
open PySem PySem.Spec PyProof.Rows L2
section
variable {X : Cx} {G : Gx} {Er : ER} {f : FS} {C C2 : En → Prop} {pos p pos' : Pos} {e : Expr} {es : List Expr} {g : En → PV} {x : Str} {ps : List Str} {j k : Nat} {Cl : Addr} {gs : En → List PV}
/-! objects of other sorts taken as kinds -/
end
end L3

/-! defs that refuse or tell a new value -/
namespace L3
open PySem PySem.Spec PyProof.Rows L2
section
variable {P : Program} {w : World} {K : PySem.W.Frag} {mg : Str → Option Value} {base : Heap} {G : Gx}
end
section
variable {X : Cx} {G : Gx} {e : Expr} {es : List Expr} {pos p : Pos} {j k : Nat} {x : Str} {ps : List Str} {pre : List PV → Prop} {C : En → Prop} {gs : En → List PV} {F : List PV → Rs}
end
end L3

/-! try: y = e / except C: return None -/
namespace L2
open PySem PySem.Spec PyProof.Rows
section
variable {X : Cx} {call : Expr} {te : XK → TE} {x y : Str} {C : Addr} {j k0 : Nat} {px py pn hp p1 p2 pos : Pos}
end
end L2
namespace L3
open PySem PySem.Spec PyProof.Rows L2
section
variable {X : Cx} {G : Gx} {Er : ER} {e : Expr} {C : En → Prop} {FE : En → Rs} {x y : Str} {Cc : Addr} {j k0 : Nat} {px py pn hp p1 p2 pos : Pos}
end
section
variable {X : Cx} {G : Gx} {a b c e : Expr} {p pos : Pos} {C Ca Cb Cc : En → Prop} {ga gb g : En → PV} {gl : En → List Int}
theorem xv_if {pt : En → Prop} [∀ ρ, Decidable (pt ρ)] (hc : PT X c (tXT X.K G Cc pt)) (ha : PE X a (tX X.K G Ca ga)) (hb : PE X b (tX X.K G Cb gb)) : PE X (.IfExp c a b pos) (tX X.K G (fun ρ => Cc ρ ∧ (pt ρ → Ca ρ) ∧ (¬ pt ρ → Cb ρ)) fun ρ => if pt ρ then ga ρ else gb ρ) :=
  toX (pe_ifExp hc ha hb) fun B σ H ρ O Q R c q => ⟨B, ρ, O, R, c.1, fun H1 s1 => by
    by_cases d : pt ρ
    · rw [decide_eq_true d]
      refine iteT ⟨B, ρ, O, R.grow s1, c.2.1 d, fun v H2 s2 a2 => q v H2 (s1.trans s2) ?_⟩
      show At X.K G (mn H2 O) (if pt ρ then ga ρ else gb ρ) v
      rw [if_pos d]; exact a2
    · rw [decide_eq_false d]
      refine iteF ⟨B, ρ, O, R.grow s1, c.2.2 d, fun v H2 s2 a2 => q v H2 (s1.trans s2) ?_⟩
      show At X.K G (mn H2 O) (if pt ρ then ga ρ else gb ρ) v
      rw [if_neg d]; exact a2⟩
end
end L3

/-! ### texts; range downwards -/
namespace L2
open PySem PySem.Spec PyProof.Rows
end L2
namespace L3
open PySem PySem.Spec PyProof.Rows L2
section
variable {X : Cx} {G : Gx} {Er : ER} {f : FS} {a b c e : Expr} {pos p : Pos} {C Ca Cb Cc : En → Prop} {ga gb gs : En → Str} {gi : En → Int} {g : En → PV} {i k : Nat} {x : Str}
end
end L3

/-! ### pairs in lists, reversed ranges, min of three, longer f-texts -/
namespace L2
open PySem PySem.Spec PyProof.Rows
section
variable {prog : Program} {w : World} {A : Around} {E : Value → Shared → Prop} {s : Shared}
end
end L2
namespace L3
open PySem PySem.Spec PyProof.Rows L2
section
variable {X : Cx} {G : Gx} {Er : ER} {f : FS} {a b c e : Expr} {pos p : Pos} {C Ca Cb Cc Cs : En → Prop} {ga gb gs : En → Str} {gi gj gk : En → Int} {g : En → PV} {i k : Nat} {x : Str}
/-- the two of a pair -/
noncomputable def fstP : PV → PV
  | .tup [a, _] => a
  | _ => .non
noncomputable def sndP : PV → PV
  | .tup [_, b] => b
  | _ => .non
noncomputable def isPair (q : PV) : Prop := q = .tup [fstP q, sndP q]
end
section
variable {K : PySem.W.Frag} {G : Gx} {σ : L2.St} {H : Hp} {Q : VK} {Cs Cb : En → Prop} {gp : En → PV} {cap : List (Option Nat)}
end
section
variable {X : Cx} {G : Gx} {Er : ER} {N' : List Str} {sc : Scope} {cl : List (Str × Addr)} {cap : List (Option Nat)} {el tg src : Expr} {at' spos px : Pos} {Cs Cb Ca C2 Cc : En → Prop} {gs : En → List Int} {ga gb gc gi : En → Int} {gp : En → PV} {i : Nat} {x : Str} {a b c : Expr}
end
/-! lists of pairs of a list of numbers and a number, compared -/
noncomputable def isGo (q : PV) : Prop := ∃ g o, q = .tup [.ints g, .int o]
theorem isGo.pair {q : PV} (h : isGo q) : isPair q := by
  obtain ⟨g, o, rfl⟩ := h
  rfl
end L3

/-! ### any, not of a list, lists of values of one's own, list(reversed(..)) -/
namespace L2
open PySem PySem.Spec PyProof.Rows
/-! list(reversed(a list)) -/
section
variable {prog : Program} {w : World} {A : Around} {R : Result → Shared → Prop} {s : Shared}
variable {I : Addr} {fp wr : List Addr} {G : Array GenState → Array GenState → Prop} {n : Nat} {P : Nat → Value → Prop} {St : Nat → Shared → Prop}
end
section
variable {prog : Program} {w : World} {A : Around} {E : Value → Shared → Prop} {s : Shared}
variable {I : Addr} {fp wr : List Addr} {G : Array GenState → Array GenState → Prop} {n : Nat} {P : Nat → Value → Prop} {St : Nat → Shared → Prop}
end
end L2
namespace L3
open PySem PySem.Spec PyProof.Rows L2
section
variable {X : Cx} {G : Gx} {Er : ER} {a b c e : Expr} {pos p : Pos} {C Ca : En → Prop} {gl : En → List Int} {g : En → PV} {gp : En → List PV} {i : Nat} {x : Str} {px pa pc : Pos}
noncomputable def isOP (ρ : En) (i : Nat) : Prop := ρ[i]? = some (.ow (.lst (pvP (getP ρ i))))
/-- a value behind a list of one's own -/
theorem xst_appP (i : Nat) {x : Str} (he : PE X e (tX X.K G C g)) (hN : X.N[i]? = some x := by rfl) (hv : Vis X.env.scope x := by first | exact Or.inl rfl | exact Or.inr (Or.inl rfl) | exact Or.inr (Or.inr rfl))
    (hd : (x == ("__debug__" : Str)) = false := by decide) (hcd : (x == ("__classdict__" : Str)) = false := by decide)
    (hbase : attributeBase (.Name x px) "append" X.env (eval (.Name x px) X.env) = eval (.Name x px) X.env := by rfl)
    (hfew : ((backTo pc (starEach (e :: []) X.env)).all (fun x => !x.1) && (backToKw pc (keywordEach [] X.env)).all (fun x => x.1.isSome)
      && decide ((e :: []).length + ([] : List Keyword).length + (if ([] : List Keyword).isEmpty then 0 else 1) < 30)) = true := by rfl)
    (hline : (pa.endLine == pc.line) = true := by rfl) (hs : starEach (e :: []) X.env = (false, eval e X.env) :: starEach [] X.env := by rfl) (hplain : (backTo pc (starEach [] X.env)).any (·.1) = false := by rfl)
    (hsw : swapsWith (.Call (.Attribute (.Name x px) "append" pa) [e] [] pc) none pos.line X.env = pure false := by rfl) :
    PS X (.Expr (.Call (.Attribute (.Name x px) "append" pa) [e] [] pc) pos) (ts X.K G Er fun P ρ => isOP ρ i ∧ C ρ ∧ (pvP (getP ρ i)).length < sizeLine ∧ P.nx (ρ.set i (.ow (.lst (pvP (getP ρ i) ++ [g ρ]))))) :=
  toS (ps_expr (pe_bm PySem.F.plainAttrs_list PySem.F.slot_list_append PySem.F.type_list_append mt_append (pe_var hN hv hd hcd) (pa_cons he pa_nil hs) hbase hfew hline hs hplain) hsw) fun B σ H ρ O P D R c w => by
    obtain ⟨c0, c1, c2, c3⟩ := c
    obtain ⟨a, vs, e1, e2, e3, e4, e5⟩ := R.ow i _ c0
    have e5 : AtL X.K G (mn H O) (pvP (getP ρ i)) vs := e5
    have el := e5.length
    refine ⟨_, e1, .inl ⟨rfl, _, SqL.of e4⟩, B, ρ, O, R, c1, fun v H1 s1 a1 => ?_⟩
    refine ⟨a, _, _, rfl, rfl, s1 _ _ e4, by rw [← el]; exact c2, w.nx σ _ _ ⟨O, (R.grow s1).change c0 e1 (p' := .lst (pvP (getP ρ i) ++ [g ρ])) ?_⟩ c3⟩
    show AtL X.K G (mn H1 O) (pvP (getP ρ i) ++ [g ρ]) _
    exact AtL.snoc (AtL.mono (mn_same s1) _ _ e5) a1
end
end L3

/-! ### lists of lists: comprehensions over them, items, slices, changes -/
namespace L3
open PySem PySem.Spec PyProof.Rows L2
section
variable {K : PySem.W.Frag} {G : Gx} {σ : L2.St} {H : Hp} {Q : VK} {Cs Cb : En → Prop} {gp : En → PV} {cap : List (Option Nat)}
end
section
variable {X : Cx} {G : Gx} {Er : ER} {N' : List Str} {sc : Scope} {cl : List (Str × Addr)} {cap : List (Option Nat)} {el tg src : Expr} {at' spos px : Pos} {Cs Cb : En → Prop} {gn gi : En → Int} {gp : En → PV} {gl : En → List PV} {i : Nat} {x : Str}
end
section
variable {K : PySem.W.Frag} {G : Gx} {H : Hp}
theorem atL_drop : ∀ {ps : List PV} {vs : List V}, AtL K G H ps vs → ∀ k : Nat, AtL K G H (ps.drop k) (vs.drop k)
  | _, _, h, 0 => h
  | [], _, h, k + 1 => by
    have h : _ = [] := h
    rw [h]
    rfl
  | p :: r, _, h, k + 1 => by
    obtain ⟨u, t, rfl, e, z⟩ := h
    exact atL_drop z k
theorem atL_take : ∀ {ps : List PV} {vs : List V}, AtL K G H ps vs → ∀ k : Nat, AtL K G H (ps.take k) (vs.take k)
  | _, _, _, 0 => rfl
  | [], _, h, k + 1 => by
    have h : _ = [] := h
    rw [h]
    rfl
  | p :: r, _, h, k + 1 => by
    obtain ⟨u, t, rfl, e, z⟩ := h
    exact ⟨u, t.take k, rfl, e, atL_take z k⟩
end
section
variable {X : Cx} {G : Gx} {Er : ER} {a b e : Expr} {pos p px : Pos} {C Ca Cb : En → Prop} {gb : En → Int} {g : En → PV} {gp : En → List PV} {i : Nat} {x : Str}
/-- a list of values of one's own, read whole -/
theorem rdOP (i : Nat) {x : Str} (hN : X.N[i]? = some x := by rfl) (hv : Vis X.env.scope x := by first | exact Or.inl rfl | exact Or.inr (Or.inl rfl) | exact Or.inr (Or.inr rfl))
    (hd : (x == ("__debug__" : Str)) = false := by decide) (hcd : (x == ("__classdict__" : Str)) = false := by decide) : PE X (.Name x pos) (tXr X.K G (fun ρ => isOP ρ i) fun ρ => .lst (pvP (getP ρ i))) :=
  fun pins s σ H Q I ⟨B, ρ, O, R, c, q⟩ => pe_var hN hv hd hcd pins s σ H Q I (by
    obtain ⟨l, vs, e1, e2, e3, e4, e5⟩ := R.ow i _ c
    have e5 : AtL X.K G (mn H O) (pvP (getP ρ i)) vs := e5
    exact ⟨_, e1, q _ H (Same.refl H) ⟨l, vs, rfl, .inl e4, AtL.mono mn_le _ _ e5⟩⟩)
noncomputable def cutP (xs : List PV) (lo hi : Option Int) : List PV := (xs.drop (HT.sIx xs.length 0 lo)).take (HT.sIx xs.length xs.length hi - HT.sIx xs.length 0 lo)
/-- x[lo:hi] of a list of values -/
theorem xp_slice {lo hi : Option Expr} {p2 : Pos} {Cl Ch : En → Prop} {gl gh : En → Option Int} (ha : PE X a (tX X.K G C fun ρ => .lst (gp ρ))) (hl : PO X lo (tXo X.K G Cl gl)) (hh : PO X hi (tXo X.K G Ch gh)) :
    PE X (.Subscript a (.Slice lo hi none p2) pos) (tXp X.K G (fun ρ => C ρ ∧ Cl ρ ∧ Ch ρ) fun ρ => cutP (gp ρ) (gl ρ) (gh ρ)) :=
  fun pins s σ H Q I ⟨B, ρ, O, R, c, q⟩ => pe_slice sl_list ha hl hh pins s σ H Q I ⟨B, ρ, O, R, c.1, fun v H1 s1 a1 => ⟨B, ρ, O, R.grow s1, c.2.1, fun H2 s2 => ⟨B, ρ, O, (R.grow s1).grow s2, c.2.2, fun H3 s3 => by
    obtain ⟨l, vs, rfl, r, al⟩ := a1
    have al3 := AtL.mono (mn_same (s2.trans s3)) _ _ al
    have ell := al.length
    refine ⟨l, _, rfl, (s2.trans s3).seq (.inl (same_rd mn_le r)), fun y hy => q y _ _ (((s1.trans s2).trans s3).trans (same_new hy _)) (((s1.trans s2).trans s3).free hy) upd_same (AtL.mono (mn_hide (same_new hy _) hy) _ _ ?_)⟩
    show AtL X.K G (mn H3 O) (cutP (gp ρ) (gl ρ) (gh ρ)) (cutV vs (gl ρ) (gh ρ))
    unfold cutP cutV
    rw [ell]
    exact atL_take (atL_drop al3 _) _⟩⟩⟩
end
/-! rests by a prime, alone -/
noncomputable def spNewR (C : Addr) : Sp := fun vs H Q _ => ∃ (x dx : Addr) (p : Int), vs = [.ref x, .int p] ∧ FM.IsP p ∧ H x = some (.ins C dx []) ∧ Q .non (upd H x (.ins C dx [("size", .int p)]))
noncomputable def KR (cR : Addr) (H : Hp) (a : Addr) (z : Int) : Prop := 0 < z ∧ ∃ dx fs, H a = some (.ins cR dx fs) ∧ fs.lookup ("size" : Str) = some (.int z) ∧ ∀ m ∈ kMeths, fs.lookup m = none
theorem KR.same {cR : Addr} {H H' : Hp} {a : Addr} {z : Int} (k : KR cR H a z) (s : Same H H') : KR cR H' a z := by
  obtain ⟨e0, dx, fs, e, r⟩ := k
  exact ⟨e0, dx, fs, s _ _ e, r⟩
noncomputable def GkR (cR : Addr) : Gx := ⟨fun k H a z => k = 0 ∧ KR cR H a z, fun _ _ _ _ _ s h => ⟨h.1, h.2.same s⟩⟩
theorem gkR {cR : Addr} (H : Hp) (a dx : Addr) (p : Int) (hp : FM.IsP p) (h : H a = some (.ins cR dx [("size", .int p)])) : (GkR cR).ob 0 H a p := by
  have hm : ∀ m ∈ kMeths, List.lookup m [("size", V.int p)] = none := fun m hm => by
    have key : ∀ m ∈ kMeths, (m == ("size" : Str)) = false := by decide +kernel
    rw [List.lookup_cons, key m hm]
    rfl
  exact ⟨rfl, by have := hp.1; omega, dx, _, h, rfl, hm⟩
section
variable {X : Cx} {G : Gx} {pos p : Pos} {j k : Nat} {x y : Str} {C : Addr} {e : Expr} {Ca : En → Prop} {ga : En → Int}
theorem xk_R (o : OkI X.prog X.w X.K X.mg X.base CX0 j x C ["self", y] (spNewR C)) (hr : Room k X.A) (hG : ∀ (H : Hp) (a dx : Addr) (p : Int), FM.IsP p → H a = some (.ins C dx [("size", .int p)]) → G.ob 0 H a p) (ha : PE X e (tXI X.K G Ca ga)) (hj : j + 1 ≤ k := by decide) (hg : Gl X x := by rfl) (hdb : (x == ("__debug__" : Str)) = false := by decide)
    (he : starEach [e] X.env = [(false, eval e X.env)] := by rfl) (hpl : (backTo pos (starEach [] X.env)).any (·.1) = false := by rfl) : PE X (.Call (.Name x p) [e] [] pos) (tX X.K G (fun ρ => Ca ρ ∧ FM.IsP (ga ρ)) fun ρ => .ob 0 (ga ρ)) :=
  toX (pe_makeO o hr pass0 (pa_cons ha pa_nil he) hj hg hdb he hpl) fun B σ H ρ O Q R c q => ⟨B, ρ, O, R, c.1, fun v H1 s1 a1 => fun y dx hy hd hne => by
    have a1 : v = .int (ga ρ) := a1
    subst a1
    refine ⟨y, dx, ga ρ, rfl, c.2, upd_same, rfl, q (.ref y) _ (s1.trans (mk_grow hy hd)) ⟨y, rfl, hG _ _ dx _ c.2 ?_⟩⟩
    rw [mk_seen (R.grow s1).dom hy]
    exact upd_same⟩
end
/-! tables of numbers, compared -/
noncomputable def tabP (t : List (List Int)) : PV := .lst (t.map PV.ints)
theorem areDat_tab : ∀ t : List (List Int), areDat (t.map PV.ints)
  | [] => True.intro
  | _ :: r => ⟨True.intro, areDat_tab r⟩
theorem canLay_tab : ∀ t : List (List Int), PyData.canLayAll0 (dats (t.map PV.ints)) = true ∧ PyData.depthAll (dats (t.map PV.ints)) ≤ 1
  | [] => ⟨rfl, by decide⟩
  | g :: r => by
    obtain ⟨h1, h2⟩ := canLay_tab r
    refine ⟨?_, ?_⟩
    · simp [dat, dats, PyData.canLay0, PyData.canLayAll0, PySem.W.ke_canLayAll0, h1]
    · simp only [List.map_cons, dats, PyData.depthAll]
      refine Nat.max_le.mpr ⟨?_, h2⟩
      simp [dat, PyData.depth, PySem.W.ke_depthAll]
end L3

/-! a list of numbers, written by a comprehension over range of two and of three -/
namespace L3
open PySem L2 PyProof.Rows
section
variable {X : Cx} {G : Gx} {N' : List Str} {sc : Scope} {cl : List (Str × Addr)} {cap : List (Option Nat)} {el tg : Expr} {at' : Pos} {Cb Ca C2 Cc : En → Prop} {ga gb gc gi : En → Int} {a b c : Expr}
end
end L3

/-! for x in a tuple of values -/
namespace L3
open PySem L2 PyProof.Rows
section
variable {X : Cx} {G : Gx} {Er : ER} {pos : Pos} {f : FS} {C : En → Prop} {e : Expr}
end
end L3

/-! ### max with a default; zip, enumerate and tests over lists of values; sums of them -/
namespace L2
open PySem PySem.Spec PyProof.Rows
section
variable {prog : Program} {w : World} {A : Around} {R : Result → Shared → Prop} {E : Value → Shared → Prop} {I : Addr} {fp wr : List Addr} {n : Nat} {Pv : Nat → Value → Prop} {St : Nat → Heap → Prop}
end
end L2
namespace L3
open PySem PySem.Spec PyProof.Rows L2
section
variable {X : Cx} {G : Gx} {Er : ER} {a b e : Expr} {pos p px apos kp pz : Pos} {C Ca Cb : En → Prop} {gl : En → List Int} {gp hp : En → List PV} {g : En → PV} {i j k : Nat} {x : Str}
/-- len of a list of values of one's own -/
theorem xn_lenO (i : Nat) {x : Str} (hm : X.mg "len" = none) (hN : X.N[i]? = some x := by rfl) (hg : Gl X "len" := by rfl) (hv : Vis X.env.scope x := by first | exact Or.inl rfl | exact Or.inr (Or.inl rfl) | exact Or.inr (Or.inr rfl))
    (hd : (x == ("__debug__" : Str)) = false := by decide) (hcd : (x == ("__classdict__" : Str)) = false := by decide) (he : starEach [.Name x px] X.env = [(false, eval (.Name x px) X.env)] := by rfl) :
    PE X (.Call (.Name "len" p) [.Name x px] [] pos) (tXI X.K G (fun ρ => isOP ρ i) fun ρ => ((pvP (getP ρ i)).length : Int)) :=
  toX (pe_callB call_len_seq hg hm bt_len (pa_cons (pe_var hN hv hd hcd) pa_nil he) (by decide) (by decide) he rfl) fun B σ H ρ O Q R c q => by
    obtain ⟨l, vs, e1, e2, e3, e4, e5⟩ := R.ow i _ c
    have e5 : AtL X.K G (mn H O) (pvP (getP ρ i)) vs := e5
    have el := e5.length
    exact ⟨_, e1, l, vs, rfl, .inl (SqL.of e4), by rw [← el]; exact q _ H (Same.refl H) rfl⟩
end
/-! comprehensions over zip, enumerate, with a test, of lists of values -/
section
variable {K : PySem.W.Frag} {G : Gx} {σ : L2.St} {H : Hp} {Q : VK} {Cs Cs' Cb Ct : En → Prop} {pt : En → Prop} [∀ ρ, Decidable (pt ρ)] {gp : En → PV} {cap : List (Option Nat)} {gl hl : En → List PV}
end
section
variable {X : Cx} {G : Gx} {Er : ER} {N' : List Str} {sc : Scope} {cl : List (Str × Addr)} {cap : List (Option Nat)} {el tg src tst l l2 : Expr} {at' spos px p pos' : Pos} {Cs Cs' Ct Cb : En → Prop} {pt : En → Prop} [∀ ρ, Decidable (pt ρ)] {gp : En → PV} {gl hl : En → List PV} {i : Nat} {x : Str}
end
end L3

/-! ### a comprehension whose own name is read by one inside it -/
namespace L2
open PySem PySem.Spec PyProof.Rows
section
variable {M : Model} {A : Around} {E : Value → Shared → Prop} {s : Shared}
end
section
variable {X : Cx} {pins : List (Addr × Obj)} {σ : St} {H : Hp} {s : Shared} {N' : List Str} {sc : Scope} {cl : List (Str × Addr)} {cap : List (Option Nat)} {fp : List Addr} {y : Str}
end
section
variable {X : Cx} {pins : List (Addr × Obj)} {σ : St} {H : Hp} {s : Shared} {N' : List Str} {sc : Scope} {cl : List (Str × Addr)} {cap : List (Option Nat)} {fp : List Addr} {y : Str}
  {el tg src : Expr} {cs : List Expr} {at' : Pos} {g : TG} {tt : TT} {te : TE} {J : It} {it : Addr} {tn : Nat → Heap → Prop} {Q : VK}
end
end L2
namespace L3
open PySem PySem.Spec PyProof.Rows L2
section
variable {X : Cx} {G : Gx} {Er : ER} {N' : List Str} {sc : Scope} {cl : List (Str × Addr)} {cap : List (Option Nat)} {el tg src : Expr} {at' spos px : Pos} {Cs Cb : En → Prop} {gn gi : En → Int} {gp : En → PV} {i : Nat} {x y : Str} {p pos' : Pos}
end
end L3

/-! ### pop at a place, insert, of lists of values of one's own; zip with a test -/
namespace L2
open PySem PySem.Spec PyProof.Rows
section
variable {X : Cx}
end
end L2
namespace L3
open PySem PySem.Spec PyProof.Rows L2
section
variable {K : PySem.W.Frag} {G : Gx} {H : Hp}
end
section
variable {X : Cx} {G : Gx} {Er : ER} {a b e : Expr} {pos p px py apos pc pa : Pos} {C Ca Cb : En → Prop} {gb : En → Int} {g : En → PV} {i j : Nat} {x y : Str}
end
section
variable {K : PySem.W.Frag} {G : Gx} {σ : L2.St} {H : Hp} {Q : VK} {Cs Cs' Cb Ct : En → Prop} {pt : En → Prop} [∀ ρ, Decidable (pt ρ)] {gp : En → PV} {cap : List (Option Nat)} {gl hl : En → List PV}
end
section
variable {X : Cx} {G : Gx} {Er : ER} {N' : List Str} {sc : Scope} {cl : List (Str × Addr)} {cap : List (Option Nat)} {el tg src tst l l2 : Expr} {at' spos px p pos' : Pos} {Cs Cs' Ct Cb : En → Prop} {pt : En → Prop} [∀ ρ, Decidable (pt ρ)] {gp : En → PV} {gl hl : En → List PV} {i : Nat} {x : Str}
end
end L3

/-! ### not in a table; a list of two taken apart; wholes and rests -/
namespace L2
open PySem PySem.Spec PyProof.Rows
section
variable {X : Cx} {pos : Pos}
/-- (a, b, ..) = a list of that length -/
noncomputable def gLst (K : PySem.W.Frag) (n : Nat) (t : TGs) : TG := fun v σ H Q => ∃ a xs, v = .ref a ∧ SqL K H a xs ∧ xs.length = n ∧ t xs σ H Q
theorem pg_lst {es : List Expr} {k : Nat} {t : TGs} {n : Nat} (hc : X.calm = true) (h : PGs X es t)
    (hn : (assignEach es X.env).length = n := by rfl) (hst : (assignEach es X.env).findIdx? (·.1) = none := by rfl) : PG X (.Tuple es k pos) (gLst X.K n t) := by
  intro pins s σ H v u Q I r hw
  obtain ⟨a, xs, e1, hq, hl, hw⟩ := hw
  subst e1
  cases r
  obtain ⟨its, rv, pl, hz⟩ := I.list hq
  rw [assign_Tuple]
  refine wpAny_bind (wpAny_standAt ?_)
  unfold unpack
  rw [hn, hst]
  have e : n = its.toArray.size := by simp [← hl, rv.length]
  rw [e]
  refine wpAny_bind (wpAny_holding (PySem.W.kun_itemsOf (I.ok.hd hc) pl.isList fun h' hx => ?_))
  have I1 : Inv X pins σ H { s with heap := h' } := I.kept (t' := s.toks) fun b o e => hx b o (Nat.ne_of_lt (Heap.lt_size e)) e
  exact h pins _ σ H xs _ Q I1 (by simpa using rv) hw
end
end L2
namespace L3
open PySem PySem.Spec PyProof.Rows L2
section
variable {X : Cx} {G : Gx} {Er : ER} {f : FS} {C : En → Prop} {pos : Pos} {i j : Nat} {e : Expr}
/-- x, y = a list of two numbers -/
theorem xst_unpL {x y : Str} {px py tp : Pos} {kk : Nat} {g : En → PV} (he : PE X e (tX X.K G C g)) (hgt : PG X (.Tuple [.Name x px, .Name y py] kk tp) (gLst X.K 2 (gCons (gName i) (gCons (gName j) gNil))))
    (hs : swapsWithSole [.Tuple [.Name x px, .Name y py] kk tp] e pos.line X.env = pure false := by rfl) (hw : swappedStores [.Tuple [.Name x px, .Name y py] kk tp] e X.env = pure none := by rfl)
    (h1 : (assignEach [.Tuple [.Name x px, .Name y py] kk tp] X.env).map (·.2) = [assign (.Tuple [.Name x px, .Name y py] kk tp) X.env] := by rfl) :
    PS X (.Assign [.Tuple [.Name x px, .Name y py] kk tp] e pos) (ts X.K G Er fun P ρ => C ρ ∧ ∃ u v, g ρ = .ints [u, v] ∧ P.nx ((ρ.set i (.fr (.int u))).set j (.fr (.int v)))) :=
  toS (ps_asg he hgt hs hw h1) fun B σ H ρ O P D R c w => by
    obtain ⟨c1, u, v, eg, c3⟩ := c
    refine ⟨B, ρ, O, R, c1, fun t H1 s1 a1 => ?_⟩
    rw [eg] at a1
    obtain ⟨l, rfl, hl⟩ := a1
    exact ⟨l, [.int u, .int v], rfl, .inl (same_rd mn_le hl), rfl, _, _, rfl, _, _, rfl, rfl, w.nx _ H1 _ ⟨O, ((R.grow s1).set (p := .int u) rfl).set (p := .int v) rfl⟩ c3⟩
noncomputable def fstI : PV → Int
  | .ints [a, _] => a
  | _ => 0
noncomputable def sndI : PV → Int
  | .ints [_, b] => b
  | _ => 0
noncomputable def isTwo (q : PV) : Prop := q = .ints [fstI q, sndI q]
/-- for a, b in a list of lists of two numbers -/
theorem xst_forTL {k j : Nat} {x y : Str} {l : Expr} {body : List Stmt} {g : En → List PV} {px py tp : Pos} {kk : Nat} (hp : PassesOwn (model X.prog X.w) X.A X.env X.xe) (hc : X.calm = true) (hl : PE X l (tX X.K G C fun ρ => .lst (g ρ)))
    (hgt : PG X (.Tuple [.Name x px, .Name y py] kk tp) (gLst X.K 2 (gCons (gName k) (gCons (gName j) gNil)))) (hb : PSs X body (ts X.K G Er f)) (hfs : ∀ x, foldedSetIterable l X.env x = pure x := by intro _; rfl) :
    PS X (.For (.Tuple [.Name x px, .Name y py] kk tp) l body [] pos) (ts X.K G Er fun P ρ => (C ρ ∧ ∀ q ∈ g ρ, isTwo q) ∧ ∃ W : Nat → En → Prop, W 0 ρ ∧
      (∀ i n ρ', (g ρ)[i]? = some n → W i ρ' → f { P with nx := W (i + 1), ct := W (i + 1), bk := P.nx } ((ρ'.set k (.fr (.int (fstI n)))).set j (.fr (.int (sndI n))))) ∧ ∀ ρ', W (g ρ).length ρ' → P.nx ρ') :=
  toS (ps_for hp hc (pi_list hl) hgt hb hfs) fun B σ H ρ O P D R c w => by
    obtain ⟨⟨c1, c2⟩, W, w0, st, nd⟩ := c
    refine ⟨B, ρ, O, R, c1, fun v H1 s1 a1 => ?_⟩
    obtain ⟨a, vs, e, hq, hal⟩ := a1
    have R1 := R.grow s1
    have w1 := owe_base R1 w
    have el := hal.length
    refine ⟨a, e, ⟨_, .inl (same_rd mn_le hq)⟩, for_list (xs := vs) (fun i σ H => ∃ ρ', RepE X.K G (B.at H1 O) σ H ρ' ∧ W i ρ') ⟨ρ, ⟨O, R1.rebase⟩, w0⟩ ?_ ?_ ?_⟩
    · rintro i σ H _ ⟨ρ', ⟨O', R'⟩, _⟩
      exact .inl (same_rd ((Rep.base_mn B H1 O).trans R'.same) hq)
    · rintro i y σ H hy ⟨ρ', ⟨O', R'⟩, hw⟩
      obtain ⟨n, en, an⟩ := hal.get hy
      have ip := c2 n (List.mem_of_getElem? en)
      have an2 := At.mono (R1.seen R') _ _ an
      rw [ip] at an2
      obtain ⟨T, rfl, hT⟩ := an2
      refine ⟨T, [.int (fstI n), .int (sndI n)], rfl, .inl (same_rd mn_le hT), rfl, _, _, rfl, _, _, rfl, rfl, ?_⟩
      exact ⟨_, _, _, ⟨O', (R'.set (p := .int (fstI n)) rfl).set (p := .int (sndI n)) rfl⟩, st i n ρ' en hw, ⟨fun σ' H' ρ' R' h => ⟨ρ', R', h⟩, w1.rt, w1.rl, w1.rn, w1.nx, fun σ' H' ρ' R' h => ⟨ρ', R', h⟩, w1.er⟩⟩
    · rintro σ H ⟨ρ', R', hw⟩
      rw [← el] at hw
      exact w1.nx σ H ρ' R' (nd ρ' hw)
end
/-! not in a table -/
noncomputable def rowI : PV → List Int
  | .ints l => l
  | _ => []
noncomputable def rowsI (ps : List PV) : List (List Int) := ps.map rowI
theorem rowsI_map (t : List (List Int)) : rowsI (t.map PV.ints) = t := by
  unfold rowsI
  rw [List.map_map]
  exact (List.map_congr_left fun _ _ => rfl).trans (List.map_id t)
theorem any_tab (l : List Int) : ∀ t : List (List Int), ((dats (t.map PV.ints)).any fun y => PyData.eqv y (dat (.ints l))) = decide (l ∈ t)
  | [] => rfl
  | g :: r => by
    have e1 : PyData.eqv (dat (.ints g)) (dat (.ints l)) = decide (g = l) := PySem.W.ked_eqvAll g l
    have e2 : dats ((g :: r).map PV.ints) = dat (.ints g) :: dats (r.map PV.ints) := rfl
    rw [e2, List.any_cons, e1, any_tab l r]
    by_cases h1 : g = l <;> by_cases h2 : l ∈ r <;> simp [h1, h2, eq_comm]
    exact fun h => absurd h.symm h1
noncomputable def rNin (K : PySem.W.Frag) (G : Gx) : R2 := fun x y H Q => ∃ (l : List Int) (ps : List PV), At K G H (.ints l) x ∧ At K G H (.lst ps) y ∧ ps = (rowsI ps).map PV.ints ∧ Q (.bl (decide (¬ l ∈ rowsI ps))) H
section
variable {X : Cx} {G : Gx} {a b : Expr} {pos : Pos} {Ca Cb : En → Prop} {gl : En → List Int} {gp : En → List PV}
theorem op_nin (hu : X.A.units + 64 < cLine) : OpR X (compareOp .NotIn) (rNin X.K G) := by
  intro pins s σ H x y v u Q I rx ry h
  obtain ⟨l, ps, ap, aq, et, k⟩ := h
  generalize rowsI ps = t at et k
  subst et
  obtain ⟨as, r1⟩ := reads_at I (.ints l) x v ap True.intro rx
  obtain ⟨bs, r2⟩ := reads_at I (.lst (t.map PV.ints)) y u aq (areDat_tab t) ry
  obtain ⟨h1, h2⟩ := canLay_tab t
  refine SeqAt.notIn_list_reads (xs := dats (t.map PV.ints)) r2 r1 h1 (by simp [dat, PyData.canLay0, PySem.W.ke_canLayAll0]) (by
    have : min (PyData.depthAll (dats (t.map PV.ints))) (dat (.ints l)).depth ≤ 1 := Nat.le_trans (Nat.min_le_left _ _) h2
    omega) ⟨.bl _, H, I, rfl, ?_⟩
  rw [any_tab]
  rw [decide_not] at k
  exact k
theorem xt_nin (hu : X.A.units + 64 < cLine) (ha : PE X a (tXr X.K G Ca fun ρ => .ints (gl ρ))) (hb : PE X b (tXr X.K G Cb fun ρ => .lst (gp ρ))) (hm : behindInMarks .NotIn b = false := by rfl) : PT X (.Compare a [.NotIn] [b] pos) (tXT X.K G (fun ρ => Ca ρ ∧ Cb ρ ∧ gp ρ = (rowsI (gp ρ)).map PV.ints) fun ρ => ¬ gl ρ ∈ rowsI (gp ρ)) :=
  fun pins s σ H Q I ⟨_, _, _, R, c, q⟩ => pt_cmpR (op_nin (G := G) hu) ha hb hm pins s σ H Q I (two_d R c.1 c.2.1 fun v u _ H2 s1 s2 a1 a2 => ⟨_, _, a1, a2, c.2.2, _, rfl, q H2 (s1.trans s2)⟩)
end
/-! wholes and rests by a prime -/
noncomputable def KWR (cW cR : Addr) (H : Hp) (a : Addr) (z : Int) : Prop := KW cW H a z ∨ KR cR H a z
theorem KWR.same {cW cR : Addr} {H H' : Hp} {a : Addr} {z : Int} (k : KWR cW cR H a z) (s : Same H H') : KWR cW cR H' a z := k.elim (fun k => .inl (k.same s)) fun k => .inr (k.same s)
noncomputable def GkT (cW cR : Addr) : Gx := ⟨fun k H a z => k = 0 ∧ KWR cW cR H a z, fun _ _ _ _ _ s h => ⟨h.1, h.2.same s⟩⟩
theorem gkTW {cW cR : Addr} (H : Hp) (a dx : Addr) (h : H a = some (.ins cW dx [("size", .int 0)])) : (GkT cW cR).ob 0 H a 0 := ⟨rfl, .inl (gkW H a dx h).2⟩
theorem gkTR {cW cR : Addr} (H : Hp) (a dx : Addr) (p : Int) (hp : FM.IsP p) (h : H a = some (.ins cR dx [("size", .int p)])) : (GkT cW cR).ob 0 H a p := ⟨rfl, .inr (gkR H a dx p hp h).2⟩
end L3

namespace K67
open PySem L2 L3 PyProof.Rows FM
noncomputable abbrev s_cut_noughts : Stmt := top 6
theorem sc_cut_noughts : FnScope ["numbers"] ["numbers"] (defScope s_cut_noughts) := ⟨rfl, rfl, rfl, by decide +kernel, rfl, by decide +kernel, by decide +kernel⟩
noncomputable abbrev s_trimmed : Stmt := top 7
theorem sc_trimmed : FnScope ["kind", "f", "numbers"] ["kind", "f"] (defScope s_trimmed) := ⟨rfl, rfl, rfl, by decide +kernel, rfl, by decide +kernel, by decide +kernel⟩
noncomputable abbrev s_scaled : Stmt := top 8
theorem sc_scaled : FnScope ["kind", "f", "number"] ["kind", "f", "number"] (defScope s_scaled) := ⟨rfl, rfl, rfl, by decide +kernel, rfl, by decide +kernel, by decide +kernel⟩
noncomputable abbrev s_slope : Stmt := top 9
theorem sc_slope : FnScope ["kind", "f"] ["kind", "f"] (defScope s_slope) := ⟨rfl, rfl, rfl, by decide +kernel, rfl, by decide +kernel, by decide +kernel⟩
noncomputable abbrev s_divided : Stmt := top 10
theorem sc_divided : FnScope ["kind", "f", "g", "rest", "divisor", "quotient", "gap", "often", "at", "number"] ["kind", "f", "g"] (defScope s_divided) := ⟨rfl, rfl, rfl, by decide +kernel, rfl, by decide +kernel, by decide +kernel⟩
noncomputable abbrev s_common : Stmt := top 12
theorem sc_common : FnScope ["kind", "f", "g", "before", "rest", "behind"] ["kind", "f", "g"] (defScope s_common) := ⟨rfl, rfl, rfl, by decide +kernel, rfl, by decide +kernel, by decide +kernel⟩
noncomputable abbrev s_with_lead_one : Stmt := top 13
theorem sc_with_lead_one : FnScope ["kind", "f"] ["kind", "f"] (defScope s_with_lead_one) := ⟨rfl, rfl, rfl, by decide +kernel, rfl, by decide +kernel, by decide +kernel⟩
noncomputable abbrev s_turned_lead : Stmt := top 14
theorem sc_turned_lead : FnScope ["kind", "f"] ["kind", "f"] (defScope s_turned_lead) := ⟨rfl, rfl, rfl, by decide +kernel, rfl, by decide +kernel, by decide +kernel⟩
noncomputable abbrev s_is_prime : Stmt := top 17
theorem sc_is_prime : FnScope ["number", "divisor"] ["number"] (defScope s_is_prime) := ⟨rfl, rfl, rfl, by decide +kernel, rfl, by decide +kernel, by decide +kernel⟩
noncomputable abbrev s_turned : Stmt := top 18
theorem sc_turned : FnScope ["number", "size", "before", "rest", "share_before", "share", "often", "rest_behind", "share_behind"] ["number", "size"] (defScope s_turned) := ⟨rfl, rfl, rfl, by decide +kernel, rfl, by decide +kernel, by decide +kernel⟩
noncomputable abbrev s_refuse_no_prime : Stmt := top 19
theorem sc_refuse_no_prime : FnScope ["number"] ["number"] (defScope s_refuse_no_prime) := ⟨rfl, rfl, rfl, by decide +kernel, rfl, by decide +kernel, by decide +kernel⟩
noncomputable abbrev s_good_prime : Stmt := top 24
theorem sc_good_prime : FnScope ["g", "number"] ["g"] (defScope s_good_prime) := ⟨rfl, rfl, rfl, by decide +kernel, rfl, by decide +kernel, by decide +kernel⟩
noncomputable abbrev s_keeps_free_of_squares : Stmt := top 25
theorem sc_keeps_free_of_squares : FnScope ["prime", "g", "kind", "lead"] ["prime", "g"] (defScope s_keeps_free_of_squares) := ⟨rfl, rfl, rfl, by decide +kernel, rfl, by decide +kernel, by decide +kernel⟩
noncomputable abbrev s_cell_at : Stmt := top 27
theorem sc_cell_at : FnScope ["_law_script", "_law_k"] ["_law_script", "_law_k"] (defScope s_cell_at) := ⟨rfl, rfl, rfl, by decide +kernel, rfl, by decide +kernel, by decide +kernel⟩
noncomputable abbrev s_head : Stmt := top 28
theorem sc_head : FnScope ["_law_script", "_law_number"] ["_law_script"] (defScope s_head) := ⟨rfl, rfl, rfl, by decide +kernel, rfl, by decide +kernel, by decide +kernel⟩
noncomputable abbrev s_whole : Stmt := top 29
theorem sc_whole : FnScope ["_law_found"] ["_law_found"] (defScope s_whole) := ⟨rfl, rfl, rfl, by decide +kernel, rfl, by decide +kernel, by decide +kernel⟩
noncomputable abbrev s_alike : Stmt := top 30
theorem sc_alike : FnScope ["_law_found", "_law_due", "_law_k"] ["_law_found", "_law_due"] (defScope s_alike) := ⟨rfl, rfl, rfl, by decide +kernel, rfl, by decide +kernel, by decide +kernel⟩
noncomputable abbrev s_trim : Stmt := top 31
theorem sc_trim : FnScope ["_law_row", "_law_size"] ["_law_row", "_law_size"] (defScope s_trim) := ⟨rfl, rfl, rfl, by decide +kernel, rfl, by decide +kernel, by decide +kernel⟩
noncomputable abbrev s_times : Stmt := top 32
theorem sc_times : FnScope ["_law_f", "_law_g", "_law_size", "_law_row", "_law_i", "_law_k"] ["_law_f", "_law_g", "_law_size"] (defScope s_times) := ⟨rfl, rfl, rfl, by decide +kernel, rfl, by decide +kernel, by decide +kernel⟩
noncomputable abbrev s_divisor : Stmt := top 34
theorem sc_divisor : FnScope ["_law_one", "_law_other", "_law_rest"] ["_law_one", "_law_other"] (defScope s_divisor) := ⟨rfl, rfl, rfl, by decide +kernel, rfl, by decide +kernel, by decide +kernel⟩
noncomputable abbrev s_content : Stmt := top 35
theorem sc_content : FnScope ["_law_f", "_law_found", "_law_number"] ["_law_f"] (defScope s_content) := ⟨rfl, rfl, rfl, by decide +kernel, rfl, by decide +kernel, by decide +kernel⟩
noncomputable abbrev s_bare : Stmt := top 36
theorem sc_bare : FnScope ["_law_f", "_law_content_here"] ["_law_f"] (defScope s_bare) := ⟨rfl, rfl, rfl, by decide +kernel, rfl, by decide +kernel, by decide +kernel⟩
noncomputable abbrev s_law_is_prime : Stmt := top 37
theorem sc_law_is_prime : FnScope ["_law_number", "_law_at"] ["_law_number"] (defScope s_law_is_prime) := ⟨rfl, rfl, rfl, by decide +kernel, rfl, by decide +kernel, by decide +kernel⟩
noncomputable abbrev s_pieces : Stmt := top 38
theorem sc_pieces : FnScope ["_law_script", "_law_made", "_law_cell", "_law_number", "_law_piece"] ["_law_script"] (defScope s_pieces) := ⟨rfl, rfl, rfl, by decide +kernel, rfl, by decide +kernel, by decide +kernel⟩
noncomputable abbrev s_stays : Stmt := top 39
theorem sc_stays : FnScope ["_law_pieces_here", "_law_last", "_law_prime", "_law_k", "_law_b", "_law_a", "_law_d", "_law_c"] ["_law_pieces_here", "_law_last", "_law_prime"] (defScope s_stays) := ⟨rfl, rfl, rfl, by decide +kernel, rfl, by decide +kernel, by decide +kernel⟩
noncomputable abbrev s_law : Stmt := top 40
theorem sc_law : FnScope ["_law_script", "_law_head_here", "_law_pieces_here", "_law_last", "_law_g", "_law_piece", "_law_handed", "_law_kept", "_law_found", "_law_prime"] ["_law_script"] (defScope s_law) := ⟨rfl, rfl, rfl, by decide +kernel, rfl, by decide +kernel, by decide +kernel⟩
noncomputable abbrev s_Kind_init : Stmt := inClass (top 20) 0
theorem sc_Kind_init : FnScope ["self", "size"] ["self", "size"] (defScope s_Kind_init) := ⟨rfl, rfl, rfl, by decide +kernel, rfl, by decide +kernel, by decide +kernel⟩
noncomputable abbrev s_Kind_plain : Stmt := inClass (top 20) 1
theorem sc_Kind_plain : FnScope ["self", "number"] ["self", "number"] (defScope s_Kind_plain) := ⟨rfl, rfl, rfl, by decide +kernel, rfl, by decide +kernel, by decide +kernel⟩
noncomputable abbrev s_Kind_over : Stmt := inClass (top 20) 5
theorem sc_Kind_over : FnScope ["self", "a", "b"] ["self", "a", "b"] (defScope s_Kind_over) := ⟨rfl, rfl, rfl, by decide +kernel, rfl, by decide +kernel, by decide +kernel⟩
noncomputable abbrev s_Wholes_init : Stmt := inClass (top 21) 0
theorem sc_Wholes_init : FnScope ["self"] ["self"] (defScope s_Wholes_init) := ⟨rfl, rfl, rfl, by decide +kernel, rfl, by decide +kernel, by decide +kernel⟩
noncomputable abbrev s_Wholes_plain : Stmt := inClass (top 21) 1
theorem sc_Wholes_plain : FnScope ["self", "number"] ["self", "number"] (defScope s_Wholes_plain) := ⟨rfl, rfl, rfl, by decide +kernel, rfl, by decide +kernel, by decide +kernel⟩
noncomputable abbrev s_Wholes_over : Stmt := inClass (top 21) 2
theorem sc_Wholes_over : FnScope ["self", "a", "b"] ["self", "a", "b"] (defScope s_Wholes_over) := ⟨rfl, rfl, rfl, by decide +kernel, rfl, by decide +kernel, by decide +kernel⟩
noncomputable abbrev s_Rests_init : Stmt := inClass (top 22) 0
theorem sc_Rests_init : FnScope ["self", "prime"] ["self", "prime"] (defScope s_Rests_init) := ⟨rfl, rfl, rfl, by decide +kernel, rfl, by decide +kernel, by decide +kernel⟩
/-- what the law asks of the text as its top has made it -/
structure Top (K : PySem.W.Frag) (mg : Str → Option Value) (cNO : Addr) (cNP : Addr) (cK : Addr) (cW : Addr) (cR : Addr) : Prop where
  d_cut_noughts : Def K mg "cut_noughts" s_cut_noughts ["numbers"]
  d_trimmed : Def K mg "trimmed" s_trimmed ["kind", "f"]
  d_scaled : Def K mg "scaled" s_scaled ["kind", "f", "number"]
  d_slope : Def K mg "slope" s_slope ["kind", "f"]
  d_divided : Def K mg "divided" s_divided ["kind", "f", "g"]
  d_common : Def K mg "common" s_common ["kind", "f", "g"]
  d_with_lead_one : Def K mg "with_lead_one" s_with_lead_one ["kind", "f"]
  d_turned_lead : Def K mg "turned_lead" s_turned_lead ["kind", "f"]
  d_is_prime : Def K mg "is_prime" s_is_prime ["number"]
  d_turned : Def K mg "turned" s_turned ["number", "size"]
  d_refuse_no_prime : Def K mg "refuse_no_prime" s_refuse_no_prime ["number"]
  d_good_prime : Def K mg "good_prime" s_good_prime ["g"]
  d_keeps_free_of_squares : Def K mg "keeps_free_of_squares" s_keeps_free_of_squares ["prime", "g"]
  d_cell_at : Def K mg "_law_cell_at" s_cell_at ["_law_script", "_law_k"]
  d_head : Def K mg "_law_head" s_head ["_law_script"]
  d_whole : Def K mg "_law_whole" s_whole ["_law_found"]
  d_alike : Def K mg "_law_alike" s_alike ["_law_found", "_law_due"]
  d_trim : Def K mg "_law_trim" s_trim ["_law_row", "_law_size"]
  d_times : Def K mg "_law_times" s_times ["_law_f", "_law_g", "_law_size"]
  d_divisor : Def K mg "_law_divisor" s_divisor ["_law_one", "_law_other"]
  d_content : Def K mg "_law_content" s_content ["_law_f"]
  d_bare : Def K mg "_law_bare" s_bare ["_law_f"]
  d_law_is_prime : Def K mg "_law_is_prime" s_law_is_prime ["_law_number"]
  d_pieces : Def K mg "_law_pieces" s_pieces ["_law_script"]
  d_stays : Def K mg "_law_stays" s_stays ["_law_pieces_here", "_law_last", "_law_prime"]
  b_len : mg "len" = none
  b_range : mg "range" = none
  b_isinstance : mg "isinstance" = none
  b_bool : mg "bool" = none
  b_int : mg "int" = none
  b_list : mg "list" = none
  b_max : mg "max" = none
  b_abs : mg "abs" = none
  b_enumerate : mg "enumerate" = none
  g_LARGEST_PRIME : ∃ tk, mg "LARGEST_PRIME" = some (.int 9973 tk)
  i_int_int : PySem.W.kitOne K (.type "int") (.type "int") = some true
  i_int_bool : PySem.W.kitOne K (.type "int") (.type "bool") = some false
  i_list_list : PySem.W.kitOne K (.type "list") (.type "list") = some true
  m_NoOver : mg "NoOver" = some (.ref cNO)
  x_NoOver : ExcC K cNO
  m_NoPrime : mg "NoPrime" = some (.ref cNP)
  x_NoPrime : ExcC K cNP
  m_Kind : mg "Kind" = some (.ref cK)
  m_Wholes : mg "Wholes" = some (.ref cW)
  cl_Wholes : Cls K cW
  na_Wholes_size : NoAttr K cW "size"
  m_Rests : mg "Rests" = some (.ref cR)
  cl_Rests : Cls K cR
  na_Rests_size : NoAttr K cR "size"
  f_Kind_init : ∃ f fd, Fun K "__init__" "Kind.__init__" s_Kind_init f fd ∧ Binds K fd ["self", "size"] [] ∧ ClsFn K cK "__init__" f
  f_Kind_plain : ∃ f fd, Fun K "plain" "Kind.plain" s_Kind_plain f fd ∧ Binds K fd ["self", "number"] [] ∧ Meth K cR "plain" f
  f_Kind_over : ∃ f fd, Fun K "over" "Kind.over" s_Kind_over f fd ∧ Binds K fd ["self", "a", "b"] [] ∧ Meth K cR "over" f
  f_Wholes_init : ∃ f fd, Fun K "__init__" "Wholes.__init__" s_Wholes_init f fd ∧ Binds K fd ["self"] [] ∧ Mk K cW f
  f_Wholes_plain : ∃ f fd, Fun K "plain" "Wholes.plain" s_Wholes_plain f fd ∧ Binds K fd ["self", "number"] [] ∧ Meth K cW "plain" f
  f_Wholes_over : ∃ f fd, Fun K "over" "Wholes.over" s_Wholes_over f fd ∧ Binds K fd ["self", "a", "b"] [] ∧ Meth K cW "over" f
  f_Rests_init : ∃ f fd, Fun K "__init__" "Rests.__init__" s_Rests_init f fd ∧ Binds K fd ["self", "prime"] [] ∧ Mk K cR f
local macro_rules | `(tactic| walk_at "pn0") => `(tactic| first | omega | (dsimp only; omega) | (dsimp only [List.length_cons, List.length_nil]; omega) | (simp [L2.gI, L2.start] <;> omega))
local macro_rules | `(tactic| walk_at "pn1") => `(tactic| first | exact True.intro | rfl | assumption | decide | decide +kernel | exact L2.mul_okR (by decide) | exact L2.mul_okL (by decide) | exact ⟨by decide, by decide +kernel⟩ | exact ⟨by decide, by decide, by decide⟩ | walk_at "pn0" | exact L2.mul_okR ⟨by walk_at "pn0", by walk_at "pn0"⟩ | exact L2.mul_okL ⟨by walk_at "pn0", by walk_at "pn0"⟩)
local macro_rules | `(tactic| walk_at "pn") => `(tactic| first | (refine ⟨?_, ?_⟩ <;> walk_at "pn") | walk_at "pn1" | (intro _; walk_at "pn"))
local macro_rules | `(tactic| walk_at "xs1") => `(tactic| first | exact True.intro | exact (rfl : _ = some _) | exact (rfl : L3.isI _ _) | exact (rfl : L3.isL _ _) | exact (rfl : L3.isF _ _) | exact (rfl : L3.isK _ _) | exact (rfl : L3.isO _ _) | exact (Or.inl rfl : L3.isLO _ _) | exact (Or.inr (Or.inl rfl) : L3.isLO _ _) | exact (Or.inr (Or.inr rfl) : L3.isLO _ _) | walk_at "pn1")
local macro_rules | `(tactic| walk_at "xs") => `(tactic| first | (refine And.intro ?_ ?_ <;> walk_at "xs") | walk_at "xs1")

section
variable {P : Program} {w : World} {K : PySem.W.Frag} {mg : Str → Option Value} {base : Heap} {cNO cNP cK cW cR : Addr}
theorem ok_is_prime (T : Top K mg cNO cNP cK cW cR) : Ok P w K mg base 1 "is_prime" ["number"] (spB 1 yes F_P) := by
  refine Def.ok T.d_is_prime sc_is_prime (fun vs H Q E h => ?_) (fun f cdv A outer s H vs Q E hr h => ?_)
  · obtain ⟨ns, hl, rfl, _⟩ := h
    rw [List.length_map, hl]; rfl
  obtain ⟨ns, hl, rfl, hp, k⟩ := h
  obtain ⟨n, rfl⟩ := len1 hl
  refine ⟨_, (pss_cons (ps_ifP (pw_orP (ptn_lt (pn_var 0) pn_int) (pw_or1P (ptn_gt (pn_var 0) (pn_glob (by rfl) T.g_LARGEST_PRIME)))).pt
 (pss_one (ps_ret pe_bl))
 pss_nil)
 (pss_cons (ps_setN (i := 1) sc_is_prime.nd rfl (Or.inl rfl) pn_int)
 (pss_cons (ps_whileP PassesOwn.never (ptn_le (pn_mul (pn_var 1) (pn_var 1)) (pn_var 0))
 (pss_cons (ps_ifP (ptn_eq (pn_mod (pn_var 0) (pn_var 1)) pn_int)
 (pss_one (ps_ret pe_bl))
 pss_nil)
 (pss_one (ps_augN (i := 1) sc_is_prime.nd rfl (Or.inl rfl) pn_int iop_addT))))
 (pss_one (ps_ret pe_bl))))), ?_⟩
  have k : Q (.bl (isP n)) H := k
  refine ⟨by walk_at "pn", fun h => ?_, fun h => ?_⟩
  · have h : n < 2 ∨ 9973 < n := h
    rw [isP_false (fun q => by have := q.1; have := q.2.1; omega)] at k
    exact k
  have h : ¬ (n < 2 ∨ 9973 < n) := h
  refine ⟨by walk_at "pn", fun d0 e0 => ?_⟩
  have e0 : d0 = 2 := e0
  subst e0
  refine ⟨fun σ H' => ∃ d, σ = [some (.int n), some (.int d)] ∧ H' = H ∧ 2 ≤ d ∧ d ≤ 10000 ∧ Clean n d, fun σ _ => (10001 - gI σ 1).toNat, ⟨2, rfl, rfl, by omega, by omega, fun e h1 h2 => by omega⟩, ?_⟩
  rintro σ H' ⟨d, rfl, rfl, h2, h3, cl⟩
  refine ⟨⟨⟨rfl, rfl, mul_okR ⟨?_, ?_⟩⟩, rfl⟩, fun c => ?_, fun c => ?_⟩
  · show -(2 : Int) ^ 64 < d
    omega
  · show d < (2 : Int) ^ 64
    omega
  · have c : d * d ≤ n := c
    have := sq_ge h2
    refine ⟨⟨⟨rfl, rfl, by show (0 : Int) < d; omega⟩, True.intro⟩, fun hit => ?_, fun hit => ?_⟩
    · have hit : n % d = 0 := hit
      rw [isP_false (fun q => q.2.2 d h2 c hit)] at k
      exact k
    · have hit : ¬ n % d = 0 := hit
      refine ⟨rfl, True.intro, True.intro, fun m e => ?_⟩
      have e : m = d + 1 := e
      subst e
      exact ⟨⟨d + 1, rfl, rfl, by omega, by omega, cl.next hit⟩, by show (10001 - (d + 1)).toNat < (10001 - d).toNat; omega⟩
  · have c : ¬ d * d ≤ n := c
    rw [isP_true (.out cl h2 (by omega) (by omega) c)] at k
    exact k

/-! ### two kinds: wholes, and rests by a prime -/
noncomputable def spRefuse : Sp := fun vs H Q _ => ∃ n : Int, vs = [.int n] ∧ IsP n ∧ Q .non H
theorem ok_refuse_no_prime (T : Top K mg cNO cNP cK cW cR) : Ok P w K mg base 2 "refuse_no_prime" ["number"] spRefuse := by
  refine Def.ok T.d_refuse_no_prime sc_refuse_no_prime (fun vs H Q E h => ?_) (fun f cdv A outer s H vs Q E hr h => ?_)
  · obtain ⟨c, rfl, _⟩ := h
    rfl
  obtain ⟨n, rfl, hn, k⟩ := h
  refine ⟨_, (pss_one (ps_ifP (pt_notP (pt_V (pv_call (ok_is_prime T) hr (pns_cons (pn_var 0) pns_nil))))
 (pss_one ps_never)
 pss_nil)), ?_⟩
  refine ⟨⟨⟨rfl, True.intro⟩, True.intro⟩, fun q => ?_, fun q => ?_⟩
  · have q : ¬ isP n = true := q
    exact (q (isP_true hn)).elim
  · exact k
noncomputable def spKInit (K : PySem.W.Frag) : Sp := fun vs H Q _ => ∃ (p C dx : Addr) (z : Int), vs = [.ref p, .int z] ∧ H p = some (.ins C dx []) ∧ Cls K C ∧ NoAttr K C "size" ∧ Q .non (upd H p (.ins C dx [("size", .int z)]))
theorem oc_Kind_init (T : Top K mg cNO cNP cK cW cR) : OkC P w K mg base CX0 1 "Kind" cK "__init__" ["self", "size"] (spKInit K) := by
  obtain ⟨f, fd, F, b, c⟩ := T.f_Kind_init
  refine ⟨f, fd, F.ok sc_Kind_init (fun vs H Q E h => ?_) (fun cdv A outer s H vs Q E hr h => ?_), b, c, T.m_Kind⟩
  · obtain ⟨p, C, dx, z, rfl, _⟩ := h
    rfl
  obtain ⟨p, C, dx, z, rfl, hp, cl, na, k⟩ := h
  refine ⟨_, (pss_one (ps_fld (pv 0) (pn_var 1) rfl)), ?_⟩
  exact ⟨rfl, _, rfl, p, C, dx, [], rfl, hp, cl, na, by decide, k⟩
theorem oi_Wholes (T : Top K mg cNO cNP cK cW cR) : OkI P w K mg base CX0 2 "Wholes" cW ["self"] (spNewW cW) := by
  obtain ⟨f, fd, F, b, c⟩ := T.f_Wholes_init
  refine ⟨f, fd, F.ok sc_Wholes_init (fun vs H Q E h => ?_) (fun cdv A outer s H vs Q E hr h => ?_), b, c, T.m_Wholes⟩
  · obtain ⟨p, dx, rfl, _⟩ := h
    rfl
  obtain ⟨p, dx, rfl, hp, k⟩ := h
  refine ⟨_, (pss_one (ps_expr (pe_clsO (oc_Kind_init T) hr pass0 (pa_cons (pv 0) (pa_cons pn_int pa_nil))))), ?_⟩
  exact ⟨_, rfl, True.intro, p, cW, dx, 0, rfl, hp, T.cl_Wholes, T.na_Wholes_size, k⟩
theorem oi_Rests (T : Top K mg cNO cNP cK cW cR) : OkI P w K mg base CX0 3 "Rests" cR ["self", "prime"] (spNewR cR) := by
  obtain ⟨f, fd, F, b, c⟩ := T.f_Rests_init
  refine ⟨f, fd, F.ok sc_Rests_init (fun vs H Q E h => ?_) (fun cdv A outer s H vs Q E hr h => ?_), b, c, T.m_Rests⟩
  · obtain ⟨x, dx, p, rfl, _⟩ := h
    rfl
  obtain ⟨x, dx, p, rfl, hp, hx, k⟩ := h
  refine ⟨_, (pss_cons (ps_expr (pe_callO (ok_refuse_no_prime T) hr (pa_cons (pn_var 1) pa_nil)))
 (pss_one (ps_expr (pe_clsO (oc_Kind_init T) hr pass0 (pa_cons (pv 0) (pa_cons (pn_var 1) pa_nil)))))), ?_⟩
  exact ⟨rfl, p, rfl, hp, _, rfl, rfl, x, cR, dx, p, rfl, hx, T.cl_Rests, T.na_Rests_size, k⟩
noncomputable def F_plain : Int → List Int → Int := fun z ns => match ns with
  | [n] => pl z n
  | _ => 0
noncomputable abbrev anyK : Int → List Int → Prop := fun _ _ => True
theorem km_plain (T : Top K mg cNO cNP cK cW cR) : KM P w K mg base 1 (KWR cW cR) "plain" 1 anyK F_plain := by
  refine ⟨fun H a z ka => ?_⟩
  rcases ka with ka | ka
  · obtain ⟨q0, dx, fs, e, hz, hm⟩ := ka
    subst q0
    refine ⟨cW, dx, fs, ["self", "number"], e, hm "plain" (by decide +kernel), ?_⟩
    obtain ⟨f, fd, F, b, m1⟩ := T.f_Wholes_plain
    refine ⟨f, fd, F.ok sc_Wholes_plain (fun vs H Q E h => ?_) (fun cdv A outer s H vs Q E hr h => ?_), b, m1, T.cl_Wholes⟩
    · obtain ⟨ns, hl, rfl, _⟩ := h
      show (ns.map V.int).length + 1 = 2
      rw [List.length_map, hl]
    · obtain ⟨ns, hl, rfl, _, _, k⟩ := h
      obtain ⟨n, rfl⟩ := len1 hl
      refine ⟨_, (pss_one (ps_ret (pn_var 1))), ?_⟩
      exact ⟨rfl, k⟩
  obtain ⟨q0, dx, fs, e, hz, hm⟩ := ka
  refine ⟨cR, dx, fs, ["self", "number"], e, hm "plain" (by decide +kernel), ?_⟩
  obtain ⟨f, fd, F, b, m1⟩ := T.f_Kind_plain
  refine ⟨f, fd, F.ok sc_Kind_plain (fun vs H Q E h => ?_) (fun cdv A outer s H vs Q E hr h => ?_), b, m1, T.cl_Rests⟩
  · obtain ⟨ns, hl, rfl, _⟩ := h
    show (ns.map V.int).length + 1 = 2
    rw [List.length_map, hl]
  · obtain ⟨ns, hl, rfl, kb, _, k⟩ := h
    rcases kb with ⟨z0, _⟩ | ⟨_, dx', fs', e', hz', _⟩
    · omega
    obtain ⟨n, rfl⟩ := len1 hl
    have k : Q (.int (pl z n)) H := k
    rw [pl_pos q0] at k
    refine ⟨_, (pss_one (ps_ret (pe_op op_mod (pn_var 1) (pe_fld (pv 0) rfl)))), ?_⟩
    exact ⟨rfl, _, rfl, a, cR, dx', fs', _, rfl, e', T.cl_Rests, T.na_Rests_size, hz', _, _, rfl, rfl, q0, k⟩

noncomputable def preCell : List Int → List Int → Prop := fun _ is => match is with
  | [k] => 0 ≤ k
  | _ => False
noncomputable def F_cell : List Int → List Int → Int := fun xs is => match is with
  | [k] => xs.getD k.toNat 0
  | _ => 0
theorem ok_cell_at (T : Top K mg cNO cNP cK cW cR) : Ok P w K mg base 1 "_law_cell_at" ["_law_script", "_law_k"] (spS K 1 preCell F_cell) := by
  refine Def.ok T.d_cell_at sc_cell_at (fun vs H Q E h => ?_) (fun f cdv A outer s H vs Q E hr h => ?_)
  · obtain ⟨a, xs, is, hl, rfl, _⟩ := h
    show (is.map V.int).length + 1 = 2
    rw [List.length_map, hl]
  obtain ⟨sa, ns, is, hl, rfl, hS, hp, k⟩ := h
  obtain ⟨i, rfl⟩ := len1 hl
  have hp : 0 ≤ i := hp
  have k : Q (.int (ns.getD i.toNat 0)) H := k
  refine ⟨_, (pss_cons (ps_ifP (ptn_lt (pn_var 1) (pn_len 0 sa (ns.map V.int) T.b_len))
 (pss_one (ps_ret (pn_item 0 sa ns (pn_var 1) (fun _ _ => rfl))))
 pss_nil)
 (pss_one (ps_ret pn_int))), ?_⟩
  have el : (ns.map V.int).length = ns.length := List.length_map _
  refine ⟨⟨rfl, ⟨rfl, hS⟩⟩, fun q => ?_, fun q => ?_⟩
  · have q : i < ((ns.map V.int).length : Int) := q
    refine ⟨⟨rfl, rfl, hS, ?_, ?_⟩, ?_⟩
    · show -(ns.length : Int) ≤ i
      omega
    · show i < (ns.length : Int)
      omega
    · show Q (.int (ns.getD (if 0 ≤ i then i else i + ns.length).toNat 0)) H
      rw [if_pos hp]
      exact k
  · have q : ¬ i < ((ns.map V.int).length : Int) := q
    have e : ns.getD i.toNat 0 = 0 := by
      rw [List.getD_eq_getElem?_getD, List.getElem?_eq_none (by omega)]; rfl
    rw [e] at k
    exact ⟨True.intro, k⟩
theorem kx_cell_at (T : Top K mg cNO cNP cK cW cR) : Ok P w K mg base 1 "_law_cell_at" ["_law_script", "_law_k"] (spFI K (GkT cW cR) (L3.preS 1 preCell) fun as => F_cell (scrI as) (allI as.tail)) := liftS (ok_cell_at T)

theorem kx_whole (T : Top K mg cNO cNP cK cW cR) : Ok P w K mg base 1 "_law_whole" ["_law_found"] (spFB K (GkT cW cR) (fun as => ∃ n, as = [.int n]) fun _ => true) := by
  refine okF T.d_whole sc_whole (fun as ⟨c, h⟩ => by rw [h]; rfl) (fun f cdv A outer s H E hr => ⟨_, (xss_one (xst_ret (xe_and (xe_isinst T.b_isinstance (xv 0) (xv_bltn (by rfl) T.b_int bt_int)) (pe_one (xe_not (xe_isinst T.b_isinstance (xv 0) (xv_bltn (by rfl) T.b_bool bt_bool))))))), fun as hp => ?_⟩)
  obtain ⟨n, rfl⟩ := hp
  have h1 : instP K (.int n) (.ty "int") = true := instP_of rfl rfl T.i_int_int
  have h2 : instP K (.int n) (.ty "bool") = false := instP_of rfl rfl T.i_int_bool
  refine ⟨⟨⟨rfl, True.intro, _, _, _, rfl, rfl, T.i_int_int⟩, fun _ => ⟨rfl, True.intro, _, _, _, rfl, rfl, T.i_int_bool⟩⟩, ?_⟩
  show PV.bl (decide (instP K (.int n) (.ty "int") = true ∧ ¬ instP K (.int n) (.ty "bool") = true)) = PV.bl true
  rw [h1, h2]
  rfl

/-! ### noughts at the end are cut -/
theorem trimZ_step {ns : List Int} (h : ns ≠ []) (h0 : ns.getD (ns.length - 1) 0 = 0) : trimZ ns.dropLast = trimZ ns := by
  have e : ns = ns.dropLast ++ [0] := by
    have e1 := List.dropLast_concat_getLast h
    have e2 : ns.getLast h = 0 := by
      rw [List.getLast_eq_getElem]
      rw [List.getD_eq_getElem?_getD, List.getElem?_eq_getElem (by have := List.length_pos_iff.mpr h; omega)] at h0
      exact h0
    rw [e2] at e1
    exact e1.symm
  rw [e, trimZ_zero, List.dropLast_concat]
theorem trimZ_done {ns : List Int} (h : ¬ (ns ≠ [] ∧ ns.getD (ns.length - 1) 0 = 0)) : trimZ ns = ns := by
  by_cases c : ns = []
  · rw [c]; rfl
  · have h0 : ¬ ns.getD (ns.length - 1) 0 = 0 := fun z => h ⟨c, z⟩
    have e1 := List.dropLast_concat_getLast c
    have e2 : ns.getLast c ≠ 0 := by
      rw [List.getLast_eq_getElem]
      rw [List.getD_eq_getElem?_getD, List.getElem?_eq_getElem (by have := List.length_pos_iff.mpr c; omega)] at h0
      exact h0
    rw [← e1, trimZ_ne _ e2]
theorem last_at (ns : List Int) (h : ns ≠ []) : ixO ns.length (-1) = ns.length - 1 := by
  have := List.length_pos_iff.mpr h
  unfold ixO
  rw [if_neg (by omega)]
  omega

/-! ### polynomials: trimmed, value, slope -/
theorem kx_cut_noughts (T : Top K mg cNO cNP cK cW cR) : Ok P w K mg base 1 "cut_noughts" ["numbers"] (spM (fun _ => True) trimZ) := by
  refine Def.ok T.d_cut_noughts sc_cut_noughts (fun vs H Q E h => ?_) (fun f cdv A outer s H vs Q E hr h => ?_)
  · obtain ⟨a, ns, rfl, _⟩ := h
    rfl
  obtain ⟨a, ns, rfl, hH, _, q⟩ := h
  refine ⟨_, (pss_one (ps_while PassesOwn.never (pw_and (pt_truth (pv 0) (fun _ => rfl)) (pw_and1 (pt_cmpR op_eq (pe_item 0 (pn_neg pn_int) (fun _ _ => rfl)) pn_int (nomark _)))).pt
 (pss_one (ps_expr (pe_bm0 PySem.F.plainAttrs_list PySem.F.slot_list_pop PySem.F.type_list_pop mt_pop (pv 0)))))), ?_⟩
  refine ⟨fun m σ H' => σ = [some (.ref a)] ∧ ∃ ms, m = ms.length ∧ H' = upd H a (.lst (ms.map V.int)) ∧ trimZ ms = trimZ ns, ⟨ns.length, rfl, ns, rfl, ?_, rfl⟩, ?_⟩
  · funext b
    by_cases c : b = a
    · rw [c, upd_same, hH]
    · rw [upd_ne c]
  rintro m σ H' ⟨rfl, ms, rfl, rfl, hm⟩
  refine ⟨_, rfl, _, .inl ⟨_, SqL.of upd_same, rfl⟩, ?_⟩
  by_cases c : ms = []
  · subst c
    refine iteF ?_
    refine iteF ?_
    refine q _ (fun b o hb e => ?_) ?_
    · rw [upd_ne hb]; exact e
    · rw [upd_same, ← hm]; rfl
  · have hlen := List.length_pos_iff.mpr c
    have e1 : (!(ms.map V.int).isEmpty) = true := by cases ms <;> simp at c ⊢
    rw [e1]
    refine iteT ?_
    refine ⟨True.intro, a, ms, ms.getD (ms.length - 1) 0, rfl, SqL.of upd_same, ?_, ?_⟩
    · have z := getD_at (ns := ms) (i := -1) (by omega) (by omega)
      show atI (ms.map V.int) (-1) = _
      rw [z, if_neg (by omega)]
      have : (-1 + (ms.length : Int)).toNat = ms.length - 1 := by omega
      rw [this]
    refine ⟨True.intro, rfl, _, rfl, ?_⟩
    by_cases d : ms.getD (ms.length - 1) 0 = 0
    · have e2 : decide (V.int (ms.getD (ms.length - 1) 0) = V.int 0) = true := decide_eq_true (by rw [d])
      rw [e2]
      refine iteT ?_
      refine ⟨fun σ H' => σ = [some (.ref a)] ∧ H' = upd H a (.lst (ms.dropLast.map V.int)), ?_, ?_⟩
      · rintro σ' H' ⟨rfl, rfl⟩
        refine ⟨ms.dropLast.length, by rw [List.length_dropLast]; omega, rfl, _, rfl, rfl, ?_⟩
        rw [← hm]; exact trimZ_step c d
      · refine ⟨_, rfl, .inl ⟨rfl, _, SqL.of upd_same⟩, a, _, V.int (ms[ms.length - 1]'(by omega)), rfl, rfl, upd_same, ?_, rfl, ?_⟩
        · rw [List.length_map, List.getElem?_map, List.getElem?_eq_getElem (by omega)]
          rfl
        · rw [upd_upd, List.map_dropLast]
    · have e2 : decide (V.int (ms.getD (ms.length - 1) 0) = V.int 0) = false := decide_eq_false (by intro z; exact d (by injection z))
      rw [e2]
      refine iteF ?_
      refine q _ (fun b o hb e => ?_) ?_
      · rw [upd_ne hb]; exact e
      · rw [upd_same, ← hm, trimZ_done fun z => d z.2]
theorem kx_trimmed (T : Top K mg cNO cNP cK cW cR) : Ok P w K mg base 2 "trimmed" ["kind", "f"] (spL K (GkT cW cR) (fun as => ∃ z f, as = [.ob 0 z, .ints f] ∧ f.length ≤ 1000) fun as => match as with
    | [.ob 0 z, .ints f] => trimZ (f.map (pl z))
    | _ => []) := by
  refine okL T.d_trimmed sc_trimmed (fun as ⟨a, b, h, _⟩ => by rw [h]; rfl) (fun f cdv A outer s H E hr => ⟨_, (xss_cons (xst_lcL (i := 2) sc_trimmed.nd rfl rfl (N' := ["number", "kind"]) (cap := [some 0]) (lc_ok rfl rfl rfl rfl ⟨⟨rfl, Or.inr (Or.inl rfl), (fun z => nomatch (show (some NameKind.cell : Option NameKind) = some NameKind.local from z)), Or.inl rfl, _, rfl, rfl⟩, True.intro⟩ ⟨rfl, True.intro⟩ rfl) rfl (xl 1) (fun _ _ _ => (pg_name (i := 0) (show (["number", "kind"] : List Str).Nodup by decide +kernel) rfl (Or.inl rfl) (.inr rfl))) (fun _ _ _ => (xn_kmeth 1 (km_plain T) hr (xa_cons (xn 0) xa_nil))) rfl)
 (xss_cons (xst_mut 2 (kx_cut_noughts T) hr)
 (xss_one (xst_retO 2)))), fun as hp => ?_⟩)
  obtain ⟨z, f, rfl, hf⟩ := hp
  refine ⟨⟨rfl, hf, fun n _ => ⟨rfl, ⟨rfl, True.intro⟩, True.intro, True.intro⟩⟩, fun ns e => ?_⟩
  have e : ns = f.map (pl z) := e
  refine ⟨rfl, True.intro, rfl, ?_⟩
  show trimZ ns = trimZ (f.map (pl z))
  rw [e]

theorem kx_scaled (T : Top K mg cNO cNP cK cW cR) : Ok P w K mg base 3 "scaled" ["kind", "f", "number"] (spL K (GkT cW cR) (fun as => ∃ z f n, as = [.ob 0 z, .ints f, .int n] ∧ f.length ≤ 1000 ∧ n.natAbs < 2 ^ 9000 ∧ ∀ m ∈ f, m.natAbs < 2 ^ 9000) fun as => match as with
    | [.ob 0 z, .ints f, .int n] => Tz z (f.map fun m => n * m)
    | _ => []) := by
  refine okL T.d_scaled sc_scaled (fun as ⟨a, b, c, h, _⟩ => by rw [h]; rfl) (fun f cdv A outer s H E hr => ⟨_, (xss_one (xst_retl (xcl (kx_trimmed T) hr (xa_cons (xv 0) (xa_cons (newL (xl_lcL (N' := ["one", "number"]) (cap := [some 2]) (lc_ok rfl rfl rfl rfl ⟨⟨rfl, Or.inr (Or.inl rfl), (fun z => nomatch (show (some NameKind.cell : Option NameKind) = some NameKind.local from z)), Or.inl rfl, _, rfl, rfl⟩, True.intro⟩ ⟨rfl, True.intro⟩ rfl) rfl (xl 1) (fun _ _ _ => (pg_name (i := 0) (show (["one", "number"] : List Str).Nodup by decide +kernel) rfl (Or.inl rfl) (.inr rfl))) (fun _ _ _ => (xn_mul (xn 1) (xn 0))))) xa_nil))))), fun as hp => ?_⟩)
  obtain ⟨z, f, n, rfl, hf, hn, hm⟩ := hp
  refine ⟨⟨⟨rfl, ⟨rfl, hf, fun m hm' => ⟨rfl, rfl, mul_ok (n := 9000) (m := 9000) hn (hm m hm')⟩⟩, True.intro⟩, z, _, rfl, ?_⟩, rfl⟩
  show (f.map fun m => n * m).length ≤ 1000
  rw [List.length_map]
  exact hf

theorem kx_slope (T : Top K mg cNO cNP cK cW cR) : Ok P w K mg base 3 "slope" ["kind", "f"] (spL K (GkT cW cR) (fun as => ∃ z f, as = [.ob 0 z, .ints f] ∧ f.length ≤ 1000) fun as => match as with
    | [.ob 0 z, .ints f] => trimZ (((f.mapIdx fun k n => (k : Int) * n).drop 1).map (pl z))
    | _ => []) := by
  refine okL T.d_slope sc_slope (fun as ⟨a, b, h, _⟩ => by rw [h]; rfl) (fun f cdv A outer s H E hr => ⟨_, (xss_one (xst_retl (xcl (kx_trimmed T) hr (xa_cons (xv 0) (xa_cons (newL (xl_slice (newL (xl_lcE (N' := ["at", "number"]) (cap := []) (lc_ok rfl rfl rfl rfl True.intro True.intro rfl) rfl (by rfl) T.b_enumerate (xl 1) (fun _ _ _ => (pg_tup rfl (pgs_cons (pg_name (i := 0) (show (["at", "number"] : List Str).Nodup by decide +kernel) rfl (Or.inl rfl) (.inr rfl)) (pgs_cons (pg_name (i := 1) (show (["at", "number"] : List Str).Nodup by decide +kernel) rfl (Or.inl rfl) (.inr rfl)) pgs_nil)))) (fun _ _ _ => (xn_mul (xn 0) (xn 1))))) (xo_some xn_int) xo_none (fun _ _ => .inl rfl))) xa_nil))))), fun as hp => ?_⟩)
  obtain ⟨z, f, rfl, hf⟩ := hp
  refine ⟨⟨⟨rfl, ⟨⟨⟨rfl, hf, fun k n e => ⟨rfl, rfl, ?_⟩⟩, True.intro, True.intro⟩, True.intro⟩⟩, z, _, rfl, ?_⟩, ?_⟩
  · have hk : k < f.length := (List.getElem?_eq_some_iff.mp e).1
    exact mul_okL ⟨by show -(2 : Int) ^ 64 < (k : Int); omega, by show (k : Int) < (2 : Int) ^ 64; omega⟩
  · refine Nat.le_trans (cutI_len _ _ _) ?_
    rw [List.length_mapIdx]
    exact hf
  · show trimZ ((cutI (f.mapIdx fun k n => (k : Int) * n) (some ((1 : Nat) : Int)) none).map (pl z)) = _
    rw [cutI_from]
    rfl

open Classical in
noncomputable def tu (n z : Int) : Int := if h : ∃ x : Int, 0 ≤ x ∧ x < z ∧ x * n % z = 1 then Classical.choose h else 0
theorem tu_one {n z x : Int} (hz : 2 ≤ z) (h0 : 0 ≤ x) (h1 : x < z) (h2 : x * n % z = 1) : tu n z = x := by
  have ex : ∃ x : Int, 0 ≤ x ∧ x < z ∧ x * n % z = 1 := ⟨x, h0, h1, h2⟩
  have e : tu n z = Classical.choose ex := by unfold tu; rw [dif_pos ex]
  obtain ⟨y0, y1, y2⟩ := Classical.choose_spec ex
  rw [e]
  generalize Classical.choose ex = y at y0 y1 y2
  have a1 : (y * (x * n)) % z = y := by
    rw [Int.mul_emod, h2, Int.mul_one, Int.emod_emod, Int.emod_eq_of_lt y0 y1]
  have a2 : (x * (y * n)) % z = x := by
    rw [Int.mul_emod, y2, Int.mul_one, Int.emod_emod, Int.emod_eq_of_lt h0 h1]
  exact (a1.symm.trans (by rw [Int.mul_left_comm y x n])).trans a2
theorem tu_spec {n z : Int} (hz : 2 ≤ z) (h : ∃ x : Int, 0 ≤ x ∧ x < z ∧ x * n % z = 1) : 0 ≤ tu n z ∧ tu n z < z ∧ tu n z * n % z = 1 := by
  obtain ⟨x, h0, h1, h2⟩ := h
  rw [tu_one hz h0 h1 h2]
  exact ⟨h0, h1, h2⟩
theorem tu_ex {n z : Int} (hz : 2 ≤ z) (h : Int.gcd n z = 1) : ∃ x : Int, 0 ≤ x ∧ x < z ∧ x * n % z = 1 := by
  have run : ∀ (m : Nat) (b r sb s : Int), r.toNat ≤ m → Eu n z b r sb s → ∃ x : Int, 0 ≤ x ∧ x < z ∧ x * n % z = 1 := by
    intro m
    induction m with
    | zero =>
      intro b r sb s hm I
      have := I.r0
      have e : r = 0 := by omega
      subst e
      have gc := I.end
      exact ⟨sb % z, Int.emod_nonneg _ (by omega), Int.emod_lt_of_pos _ (by omega), I.one hz (by omega)⟩
    | succ m ih =>
      intro b r sb s hm I
      by_cases c : r = 0
      · subst c
        have gc := I.end
        exact ⟨sb % z, Int.emod_nonneg _ (by omega), Int.emod_lt_of_pos _ (by omega), I.one hz (by omega)⟩
      · have I2 := I.step c
        have := I2.rb
        have := I2.r0
        have := I.r0
        exact ih _ _ _ _ (by omega) I2
  exact run _ _ _ _ _ (Nat.le_refl _) (Eu.start hz)
noncomputable def F_tu (C : Addr) : List PV → Rs := fun as => match as with
  | [.int n, .int z] => if Int.gcd n z = 1 then .val (.int (tu n z)) else .err C
  | _ => .err C
theorem small9 {x z : Int} (h : (x.natAbs : Int) ≤ z) (hz : z.natAbs < 2 ^ 9000) : x.natAbs < 2 ^ 9000 := by
  generalize 2 ^ 9000 = B at *
  omega
theorem kx_turned (T : Top K mg cNO cNP cK cW cR) : OkE P w K mg base 1 "turned" ["number", "size"] (spE K (GkT cW cR) (fun as => ∃ n z, as = [.int n, .int z] ∧ 2 ≤ z ∧ z.natAbs < 2 ^ 9000) (F_tu cNO)) := by
  refine okE T.d_turned sc_turned (fun as ⟨n, z, h, _⟩ => by rw [h]; rfl) (fun f cdv A outer s H E hr => ⟨_, (xss_cons (xst_setI (i := 2) sc_turned.nd rfl (Or.inl rfl) (xn 1))
 (xss_cons (xst_setI (i := 3) sc_turned.nd rfl (Or.inl rfl) (xn_mod (xn 0) (xn 1)))
 (xss_cons (xst_setI (i := 4) sc_turned.nd rfl (Or.inl rfl) xn_int)
 (xss_cons (xst_setI (i := 5) sc_turned.nd rfl (Or.inl rfl) xn_int)
 (xss_cons (xst_while PassesOwn.leaving (xt_ne (xn 3) xn_int)
 (xss_cons (xst_setI (i := 6) sc_turned.nd rfl (Or.inl rfl) (xn_div (xn 2) (xn 3)))
 (xss_cons (xst_setI (i := 7) sc_turned.nd rfl (Or.inl rfl) (xn_sub (xn 2) (xn_mul (xn 6) (xn 3))))
 (xss_cons (xst_setI (i := 8) sc_turned.nd rfl (Or.inl rfl) (xn_sub (xn 4) (xn_mul (xn 6) (xn 5))))
 (xss_cons (xst_setI (i := 2) sc_turned.nd rfl (Or.inl rfl) (xn 3))
 (xss_cons (xst_setI (i := 3) sc_turned.nd rfl (Or.inl rfl) (xn 7))
 (xss_cons (xst_setI (i := 4) sc_turned.nd rfl (Or.inl rfl) (xn 5))
 (xss_one (xst_setI (i := 5) sc_turned.nd rfl (Or.inl rfl) (xn 8))))))))))
 (xss_cons (xst_if (xt_ne (xn 2) xn_int)
 (xss_one (xst_raise newE rfl T.x_NoOver (by rfl) T.m_NoOver (xa_cons xs_str xa_nil)))
 xss_nil)
 (xss_one (xst_ret (xn_mod (xn 4) (xn 1)))))))))), fun as hp => ?_⟩)
  obtain ⟨n, z, rfl, hz, hz9⟩ := hp
  refine ⟨rfl, fun b0 e0 => ?_⟩
  have e0 : b0 = z := e0
  subst e0
  refine ⟨⟨rfl, rfl, by show 0 < b0; omega⟩, fun r0 er => ?_⟩
  have er : r0 = n % b0 := er
  refine ⟨True.intro, fun z0 ez => ?_⟩
  have ez : z0 = 0 := ez
  subst ez
  refine ⟨True.intro, fun o0 eo => ?_⟩
  have eo : o0 = 1 := eo
  subst eo
  refine ⟨fun ρ => ∃ b r sb s o rb sbh, ρ = [.fr (.int n), .fr (.int b0), .fr (.int b), .fr (.int r), .fr (.int sb), .fr (.int s), o, rb, sbh] ∧ Eu n b0 b r sb s, fun ρ => (getI ρ 3).toNat, ⟨b0, r0, 0, 1, .un, .un, .un, rfl, by rw [er]; exact Eu.start hz⟩, ?_⟩
  rintro ρ ⟨b, r, sb, s, o, rb, sbh, rfl, I⟩
  have sm := I.id
  have sbz := I.bz
  have rlt := I.rb
  have rnn := I.r0
  have s9 : s.natAbs < 2 ^ 9000 := small9 (z := b0) (by
    have h1 : (s.natAbs : Int) * 1 ≤ (s.natAbs : Int) * b := Int.mul_le_mul_of_nonneg_left (by omega) (by omega)
    have h2 : 0 ≤ (sb.natAbs : Int) * r := Int.mul_nonneg (by omega) rnn
    omega) hz9
  have r9 : r.natAbs < 2 ^ 9000 := small9 (z := b0) (by omega) hz9
  refine ⟨⟨rfl, True.intro⟩, fun c => ?_, fun c => ?_⟩
  · have c : ¬ r = 0 := c
    have q0 : 0 ≤ b / r := Int.ediv_nonneg (by omega) (by omega)
    have q1 : b / r ≤ b := Int.ediv_le_self _ (by omega)
    have q9 : (b / r).natAbs < 2 ^ 9000 := small9 (z := b0) (by omega) hz9
    refine ⟨⟨rfl, rfl, by show 0 < r; omega, (Nat.log2_lt (by show r.natAbs ≠ 0; omega)).mpr r9⟩, fun q eq => ?_⟩
    have eq : q = b / r := eq
    subst eq
    refine ⟨⟨rfl, rfl, rfl, mul_ok q9 r9⟩, fun r1 e1 => ?_⟩
    refine ⟨⟨rfl, rfl, rfl, mul_ok q9 s9⟩, fun s1 e2 => ?_⟩
    have f1 : r1 = b - b / r * r := e1
    have f2 : s1 = sb - b / r * s := e2
    clear e1 e2
    refine ⟨rfl, fun b' eb => ?_⟩
    have eb : b' = r := eb
    subst eb
    refine ⟨rfl, fun r2 e3 => ?_⟩
    have e3 : r2 = r1 := e3
    subst e3
    refine ⟨rfl, fun s2 e4 => ?_⟩
    have e4 : s2 = s := e4
    subst e4
    refine ⟨rfl, fun s3 e5 => ?_⟩
    have e5 : s3 = s1 := e5
    subst e5
    have I2 := I.step c
    rw [← f1, ← f2] at I2
    refine ⟨⟨_, _, _, _, _, _, _, rfl, I2⟩, ?_⟩
    show r2.toNat < b'.toNat
    have := I2.rb
    have := I2.r0
    omega
  · have c : ¬ ¬ r = 0 := c
    have c : r = 0 := by omega
    subst c
    have gc := I.end
    refine ⟨⟨rfl, True.intro⟩, fun hb => ?_, fun hb => ?_⟩
    · have hb : ¬ b = 1 := hb
      refine ⟨⟨True.intro, True.intro⟩, ?_⟩
      show F_tu cNO [.int n, .int b0] = .err cNO
      show (if Int.gcd n b0 = 1 then _ else _) = _
      rw [if_neg (by omega)]
    · have hb : ¬ ¬ b = 1 := hb
      have hb : b = 1 := by omega
      refine ⟨⟨rfl, rfl, by show 0 < b0; omega⟩, ?_⟩
      show F_tu cNO [.int n, .int b0] = .val (.int (sb % b0))
      show (if Int.gcd n b0 = 1 then _ else _) = _
      rw [if_pos (by omega), tu_one hz (Int.emod_nonneg _ (by omega)) (Int.emod_lt_of_pos _ (by omega)) (I.one hz hb)]


/-! ### sums -/
noncomputable def addL (f g : List Int) : List Int := (List.range (max f.length g.length)).map fun n => f.getD n 0 + g.getD n 0
theorem addL_get (f g : List Int) (n : Nat) : (addL f g).getD n 0 = f.getD n 0 + g.getD n 0 := by
  unfold addL
  by_cases h : n < max f.length g.length
  · rw [getD_lt (by rw [List.length_map, List.length_range]; exact h), List.getElem_map, List.getElem_range]
  · rw [getD_ge (by rw [List.length_map, List.length_range]; omega), getD_ge (by omega), getD_ge (by omega)]
    rfl
theorem app_zero (f : List Int) (k n : Nat) : (f ++ List.replicate k 0).getD n 0 = f.getD n 0 := by
  by_cases h : n < f.length
  · rw [getD_lt (by rw [List.length_append]; omega), List.getElem_append_left h, getD_lt h]
  · rw [getD_ge (xs := f) (by omega)]
    by_cases h2 : n < f.length + k
    · rw [getD_lt (by rw [List.length_append, List.length_replicate]; exact h2), List.getElem_append_right (by omega), List.getElem_replicate]
    · rw [getD_ge (by rw [List.length_append, List.length_replicate]; omega)]

/-! ### division of polynomials: what the steps keep, and that there is but one quotient and rest -/
theorem pl_iff (z a b : Int) : pl z a = pl z b ↔ z ∣ a - b := by
  unfold pl
  split
  · rename_i h
    subst h
    rw [Int.zero_dvd]
    omega
  · rw [Int.emod_eq_emod_iff_emod_sub_eq_zero, Int.dvd_iff_emod_eq_zero]
theorem pl_same {z a b : Int} (ha : pl z a = a) (hb : pl z b = b) (h : z ∣ a - b) : a = b := by rw [← ha, ← hb]; exact (pl_iff z a b).mpr h
theorem pl_dvd (z a : Int) : z ∣ pl z a - a := (pl_iff z _ _).mp (pl_pl z a)
noncomputable def lastI (xs : List Int) : Int := xs.getD (xs.length - 1) 0
theorem sm_dvd {z : Int} {f : Nat → Int} : ∀ {N : Nat}, (∀ j, j < N → z ∣ f j) → z ∣ sm N f
  | 0, _ => Int.dvd_zero z
  | N + 1, h => Int.dvd_add (sm_dvd fun j hj => h j (by omega)) (h N (by omega))
theorem sm_one {z : Int} {f : Nat → Int} {i : Nat} : ∀ {N : Nat}, i < N → (∀ j, j < N → j ≠ i → z ∣ f j) → z ∣ sm N f - f i
  | 0, h, _ => by omega
  | N + 1, h, k => by
    show z ∣ sm N f + f N - f i
    by_cases c : i = N
    · subst c
      have e : sm i f + f i - f i = sm i f := by omega
      rw [e]
      exact sm_dvd fun j hj => k j (by omega) (by omega)
    · have e : sm N f + f N - f i = (sm N f - f i) + f N := by omega
      rw [e]
      exact Int.dvd_add (sm_one (by omega) fun j hj hne => k j (by omega) hne) (k N (by omega) (by omega))
theorem sm_upd {f g : Nat → Int} {k : Nat} : ∀ {N : Nat}, (∀ i, i < N → i ≠ k → f i = g i) → sm N f = sm N g + if k < N then f k - g k else 0
  | 0, _ => by show (0 : Int) = 0 + _; rw [if_neg (by omega)]; rfl
  | N + 1, h => by
    show sm N f + f N = sm N g + g N + _
    rw [sm_upd (f := f) (g := g) (k := k) fun i hi hne => h i (by omega) hne]
    by_cases c : k = N
    · subst c
      rw [if_neg (by omega), if_pos (by omega)]
      omega
    · rw [h N (by omega) (by omega)]
      by_cases d : k < N
      · rw [if_pos d, if_pos (by omega)]; omega
      · rw [if_neg d, if_neg (by omega)]; omega
theorem cm_top {z : Int} {E d : List Int} {i : Nat} (hd : 0 < d.length) (up : ∀ j, i < j → z ∣ E.getD j 0) : z ∣ cm E d (i + (d.length - 1)) - E.getD i 0 * lastI d := by
  have h := sm_one (z := z) (f := fun j => E.getD j 0 * d.getD (i + (d.length - 1) - j) 0) (i := i) (N := i + (d.length - 1) + 1) (by omega) fun j hj hne => by
    rcases Nat.lt_or_gt_of_ne hne with c | c
    · show z ∣ E.getD j 0 * d.getD (i + (d.length - 1) - j) 0
      rw [getD_ge (show d.length ≤ i + (d.length - 1) - j by omega), Int.mul_zero]
      exact Int.dvd_zero z
    · exact Int.dvd_mul_of_dvd_left (up j c)
  have e : i + (d.length - 1) - i = d.length - 1 := by omega
  rw [e] at h
  exact h
theorem topE {z : Int} {E d : List Int} {S : Nat} (hd : 0 < d.length) (nz : ∀ x, z ∣ x * lastI d → z ∣ x) (h : ∀ n, S + (d.length - 1) ≤ n → z ∣ cm E d n) : ∀ i, S ≤ i → z ∣ E.getD i 0 := by
  have key : ∀ k i, S ≤ i → E.length ≤ i + k → z ∣ E.getD i 0 := by
    intro k
    induction k with
    | zero => intro i _ hk; rw [getD_ge (by omega)]; exact Int.dvd_zero z
    | succ k ih =>
      intro i hi hk
      have one := cm_top (z := z) (E := E) hd (i := i) fun j hj => ih j (by omega) (by omega)
      refine nz _ ?_
      have := Int.dvd_sub (h (i + (d.length - 1)) (by omega)) one
      rw [Int.sub_sub_self] at this
      exact this
  exact fun i hi => key E.length i hi (by omega)
theorem cm_set {q d : List Int} {g : Nat} {c : Int} (hg : g < q.length) (h0 : q.getD g 0 = 0) (n : Nat) : cm (q.set g c) d n = cm q d n + if g ≤ n then c * d.getD (n - g) 0 else 0 := by
  unfold cm
  rw [sm_upd (f := fun i => (q.set g c).getD i 0 * d.getD (n - i) 0) (g := fun i => q.getD i 0 * d.getD (n - i) 0) (k := g) fun i hi hne => by
    show (q.set g c).getD i 0 * d.getD (n - i) 0 = _
    rw [set_get _ _ _ _ hg, if_neg hne]]
  congr 1
  by_cases k : g < n + 1
  · rw [if_pos k, if_pos (by omega)]
    show (q.set g c).getD g 0 * d.getD (n - g) 0 - q.getD g 0 * d.getD (n - g) 0 = _
    rw [set_get _ _ _ _ hg, if_pos rfl, h0]
    omega
  · rw [if_neg k, if_neg (by omega)]
/-- the difference of two lists -/
noncomputable def subL (a b : List Int) : List Int := (List.range (max a.length b.length)).map fun i => a.getD i 0 - b.getD i 0
theorem subL_get (a b : List Int) (n : Nat) : (subL a b).getD n 0 = a.getD n 0 - b.getD n 0 := by
  unfold subL
  by_cases h : n < max a.length b.length
  · rw [getD_lt (by rw [List.length_map, List.length_range]; exact h), List.getElem_map, List.getElem_range]
  · rw [getD_ge (by rw [List.length_map, List.length_range]; omega), getD_ge (xs := a) (by omega), getD_ge (xs := b) (by omega)]; rfl
theorem sm_sub (f g : Nat → Int) : ∀ N, sm N (fun i => f i - g i) = sm N f - sm N g
  | 0 => rfl
  | N + 1 => by
    show sm N (fun i => f i - g i) + (f N - g N) = sm N f + f N - (sm N g + g N)
    rw [sm_sub f g N]
    omega
theorem cm_sub (a b d : List Int) (n : Nat) : cm (subL a b) d n = cm a d n - cm b d n := by
  unfold cm
  rw [← sm_sub]
  exact sm_congr fun i _ => by rw [subL_get, Int.sub_mul]
theorem form_len {xs : List Int} {L : Nat} (hf : InForm xs) (h : ∀ n, L ≤ n → xs.getD n 0 = 0) : xs.length ≤ L := by
  by_cases c : xs.length ≤ L
  · exact c
  · exact absurd (h (xs.length - 1) (by omega)) (hf fun e => by rw [e] at c; exact c (Nat.zero_le _))
/-- one step: c times the divisor is taken off -/
noncomputable def nextR (z : Int) (d r : List Int) (c : Int) : List Int := trimZ ((List.range r.length).map fun n => if r.length - d.length ≤ n then pl z (r.getD n 0 - c * d.getD (n - (r.length - d.length)) 0) else r.getD n 0)
theorem nextR_get {z : Int} {d r : List Int} {c : Int} (hd : d.length ≤ r.length) (n : Nat) : (nextR z d r c).getD n 0 = if r.length - d.length ≤ n then pl z (r.getD n 0 - c * d.getD (n - (r.length - d.length)) 0) else r.getD n 0 := by
  unfold nextR
  rw [trim_get]
  by_cases h : n < r.length
  · rw [getD_lt (by rw [List.length_map, List.length_range]; exact h), List.getElem_map, List.getElem_range]
  · rw [getD_ge (by rw [List.length_map, List.length_range]; omega), if_pos (by omega), getD_ge (xs := r) (by omega), getD_ge (xs := d) (by omega), Int.mul_zero, Int.sub_zero, pl_0]
noncomputable def dvN (z : Int) (ov : Int → Int → Option Int) (d : List Int) : Nat → List Int → List Int → Option (List Int × List Int)
  | 0, q, r => some (q, r)
  | n + 1, q, r => if r.length < d.length then some (q, r) else match ov (lastI r) (lastI d) with
    | none => none
    | some c => dvN z ov d n (q.set (r.length - d.length) c) (nextR z d r c)
structure DInv (z : Int) (f d q r : List Int) : Prop where
  eq : ∀ n, z ∣ cm q d n + r.getD n 0 - f.getD n 0
  rr : ∀ n, pl z (r.getD n 0) = r.getD n 0
  rf : InForm r
  qr : ∀ n, pl z (q.getD n 0) = q.getD n 0
  ql : q.length = f.length + 1 - d.length
  rl : r.length ≤ f.length
  q0 : ∀ n, n + d.length ≤ r.length → q.getD n 0 = 0
  qt : r.length < f.length → q.getD (f.length - d.length) 0 ≠ 0
theorem DInv.start {z : Int} {f d : List Int} (hf : InForm f) (hr : ∀ n, pl z (f.getD n 0) = f.getD n 0) : DInv z f d (List.replicate (f.length + 1 - d.length) 0) f := by
  have g0 : ∀ n, (List.replicate (f.length + 1 - d.length) (0 : Int)).getD n 0 = 0 := fun n => by
    by_cases h : n < f.length + 1 - d.length
    · rw [getD_lt (by rw [List.length_replicate]; exact h), List.getElem_replicate]
    · rw [getD_ge (by rw [List.length_replicate]; omega)]
  refine ⟨fun n => ?_, hr, hf, fun n => ?_, List.length_replicate, Nat.le_refl _, fun n _ => g0 n, fun h => absurd h (Nat.lt_irrefl _)⟩
  · have e : cm (List.replicate (f.length + 1 - d.length) 0) d n = 0 := sm_zero fun i _ => by rw [g0, Int.zero_mul]
    rw [e]
    have : (0 : Int) + f.getD n 0 - f.getD n 0 = 0 := by omega
    rw [this]
    exact Int.dvd_zero z
  · rw [g0, pl_0]
theorem DInv.step {z : Int} {f d q r : List Int} {c : Int} (I : DInv z f d q r) (hd : 0 < d.length) (hl : d.length ≤ r.length) (hc : pl z (c * lastI d) = lastI r) (hp : pl z c = c) : DInv z f d (q.set (r.length - d.length) c) (nextR z d r c) ∧ (nextR z d r c).length < r.length := by
  have hg : r.length - d.length < q.length := by rw [I.ql]; have := I.rl; omega
  have h0 : q.getD (r.length - d.length) 0 = 0 := I.q0 _ (by omega)
  have rne : r ≠ [] := fun e => by rw [e] at hl; exact absurd hl (by show ¬ d.length ≤ 0; omega)
  have l0 : lastI r ≠ 0 := I.rf rne
  have hc2 : c ≠ 0 := fun e => by
    rw [e, Int.zero_mul, pl_0] at hc
    exact l0 hc.symm
  have hlen : (nextR z d r c).length < r.length := by
    have : (nextR z d r c).length ≤ r.length - 1 := by
      refine form_len (trim_form _) fun n hn => ?_
      rw [nextR_get hl, if_pos (by omega)]
      by_cases k : n = r.length - 1
      · subst k
        have e1 : r.length - 1 - (r.length - d.length) = d.length - 1 := by omega
        rw [e1]
        show pl z (lastI r - c * lastI d) = 0
        rw [← pl_0 z]
        refine (pl_iff z _ _).mpr ?_
        have h1 := pl_dvd z (c * lastI d)
        rw [hc] at h1
        rw [Int.sub_zero]
        exact h1
      · rw [getD_ge (xs := r) (by omega), getD_ge (xs := d) (by omega), Int.mul_zero, Int.sub_zero, pl_0]
    omega
  refine ⟨⟨fun n => ?_, fun n => ?_, trim_form _, fun n => ?_, by rw [List.length_set]; exact I.ql, by have := I.rl; omega, fun n hn => ?_, fun _ => ?_⟩, hlen⟩
  · rw [cm_set hg h0, nextR_get hl]
    have e := I.eq n
    by_cases k : r.length - d.length ≤ n
    · rw [if_pos k, if_pos k]
      have p := pl_dvd z (r.getD n 0 - c * d.getD (n - (r.length - d.length)) 0)
      have s := Int.dvd_add e p
      generalize pl z (r.getD n 0 - c * d.getD (n - (r.length - d.length)) 0) = u at s ⊢
      generalize c * d.getD (n - (r.length - d.length)) 0 = v at s ⊢
      have q : cm q d n + v + u - f.getD n 0 = cm q d n + r.getD n 0 - f.getD n 0 + (u - (r.getD n 0 - v)) := by omega
      rw [q]
      exact s
    · rw [if_neg k, if_neg k, Int.add_zero]
      exact e
  · rw [nextR_get hl]
    split
    · exact pl_pl z _
    · exact I.rr n
  · rw [set_get _ _ _ _ hg]
    split
    · exact hp
    · exact I.qr n
  · rw [set_get _ _ _ _ hg, if_neg (by omega)]
    exact I.q0 n (by omega)
  · rw [set_get _ _ _ _ hg]
    split
    · exact hc2
    · have := I.rl
      exact I.qt (by omega)
theorem dvN_ok {z : Int} {ov : Int → Int → Option Int} {f d : List Int} (hd : 0 < d.length) (hov : ∀ a c, pl z a = a → ov a (lastI d) = some c → pl z (c * lastI d) = a ∧ pl z c = c) : ∀ (fuel : Nat) (q r : List Int), DInv z f d q r → r.length < fuel →
    (∀ Q R, dvN z ov d fuel q r = some (Q, R) → DInv z f d Q R ∧ R.length < d.length) ∧ (dvN z ov d fuel q r = none → ∃ q' r', DInv z f d q' r' ∧ d.length ≤ r'.length ∧ ov (lastI r') (lastI d) = none)
  | 0, _, _, _, h => by omega
  | n + 1, q, r, I, h => by
    unfold dvN
    by_cases c : r.length < d.length
    · rw [if_pos c]
      refine ⟨fun Q R e => ?_, fun e => by cases e⟩
      cases e
      exact ⟨I, c⟩
    · rw [if_neg c]
      cases o : ov (lastI r) (lastI d) with
      | none => exact ⟨(fun Q R e => by cases e), fun _ => ⟨q, r, I, by omega, o⟩⟩
      | some x =>
        obtain ⟨h1, h2⟩ := hov (lastI r) x (I.rr _) o
        obtain ⟨J, hl⟩ := I.step hd (by omega) h1 h2
        exact dvN_ok hd hov n _ _ J (by omega)
/-- the rest while the divisor is taken off: i places done -/
noncomputable def TakeAt (z : Int) (d r : List Int) (c : Int) (i : Nat) (row : List Int) : Prop := row.length = r.length ∧ ∀ n, row.getD n 0 = if r.length - d.length ≤ n ∧ n - (r.length - d.length) < i then pl z (r.getD n 0 - c * d.getD (n - (r.length - d.length)) 0) else r.getD n 0
theorem take_start (z : Int) (d r : List Int) (c : Int) : TakeAt z d r c 0 r := ⟨rfl, fun n => by rw [if_neg (by omega)]⟩
theorem take_step {z : Int} {d r row : List Int} {c : Int} {i : Nat} (h : TakeAt z d r c i row) (hl : d.length ≤ r.length) (hi : i < d.length) : TakeAt z d r c (i + 1) (row.set (r.length - d.length + i) (pl z (row.getD (r.length - d.length + i) 0 - c * d.getD i 0))) := by
  obtain ⟨h1, h2⟩ := h
  refine ⟨by rw [List.length_set]; exact h1, fun n => ?_⟩
  rw [set_get _ _ _ _ (by omega)]
  by_cases k : n = r.length - d.length + i
  · subst k
    rw [if_pos rfl, if_pos (by omega), h2, if_neg (by omega), show r.length - d.length + i - (r.length - d.length) = i by omega]
  · rw [if_neg k, h2]
    by_cases q : r.length - d.length ≤ n ∧ n - (r.length - d.length) < i
    · rw [if_pos q, if_pos (by omega)]
    · rw [if_neg q, if_neg (by omega)]
theorem take_end {z : Int} {d r row : List Int} {c : Int} (h : TakeAt z d r c d.length row) (hl : d.length ≤ r.length) : trimZ row = nextR z d r c := by
  unfold nextR
  refine trim_ext fun n => ?_
  rw [h.2 n]
  by_cases k : n < r.length
  · rw [getD_lt (xs := (List.range r.length).map _) (by rw [List.length_map, List.length_range]; exact k), List.getElem_map, List.getElem_range]
    by_cases q : r.length - d.length ≤ n
    · rw [if_pos ⟨q, by omega⟩, if_pos q]
    · rw [if_neg (by omega), if_neg q]
  · rw [getD_ge (xs := (List.range r.length).map _) (by rw [List.length_map, List.length_range]; omega), if_neg (by omega), getD_ge (by omega)]
theorem Tz_form (z : Int) (f : List Int) : InForm (Tz z f) := trim_form _
theorem Tz_red (z : Int) (f : List Int) (n : Nat) : pl z ((Tz z f).getD n 0) = (Tz z f).getD n 0 := by rw [Tz_get, pl_pl]
theorem last_ix (ns : List Int) (h : 0 < ns.length) : ns.getD (ixO ns.length (-1)) 0 = lastI ns := by
  have e : ixO ns.length (-1) = ns.length - 1 := by
    unfold ixO
    rw [if_neg (by omega)]
    omega
  rw [e]
  rfl

/-! ### products behind one another -/
theorem sm_add (f g : Nat → Int) : ∀ N, sm N (fun i => f i + g i) = sm N f + sm N g
  | 0 => rfl
  | N + 1 => by
    show sm N (fun i => f i + g i) + (f N + g N) = sm N f + f N + (sm N g + g N)
    rw [sm_add f g N]
    omega
theorem sm_mulL (l : Int) (f : Nat → Int) : ∀ n, sm n (fun i => l * f i) = l * sm n f
  | 0 => (Int.mul_zero l).symm
  | n + 1 => by
    show sm n (fun i => l * f i) + l * f n = l * (sm n f + f n)
    rw [sm_mulL l f n, Int.mul_add]
theorem cm_consL (o : Int) (q d : List Int) (i : Nat) : cm (o :: q) d i = o * d.getD i 0 + if i = 0 then 0 else cm q d (i - 1) := by
  unfold cm
  rw [sm_head]
  have e1 : ((o :: q).getD 0 0 : Int) = o := rfl
  rw [e1, Nat.sub_zero]
  congr 1
  by_cases c : i = 0
  · subst c; rfl
  · rw [if_neg c]
    obtain ⟨k, rfl⟩ : ∃ k, i = k + 1 := ⟨i - 1, by omega⟩
    refine sm_congr fun j hj => ?_
    have e2 : ((o :: q).getD (j + 1) 0 : Int) = q.getD j 0 := rfl
    have e3 : k + 1 - (j + 1) = k - j := by omega
    have e4 : k + 1 - 1 - j = k - j := by omega
    show (o :: q).getD (j + 1) 0 * d.getD (k + 1 - (j + 1)) 0 = q.getD j 0 * d.getD (k + 1 - 1 - j) 0
    rw [e2, e3, e4]
theorem cm_nil (d : List Int) (n : Nat) : cm [] d n = 0 := sm_zero fun i _ => by
  show ([] : List Int).getD i 0 * _ = 0
  rw [getD_ge (Nat.zero_le _), Int.zero_mul]
theorem cm_zero {f g : List Int} (h : ∀ n, f.getD n 0 = 0) (n : Nat) : cm f g n = 0 := sm_zero fun i _ => by rw [h i, Int.zero_mul]
theorem cm_same {f f' g g' : List Int} (h : ∀ n, f.getD n 0 = f'.getD n 0) (k : ∀ n, g.getD n 0 = g'.getD n 0) (n : Nat) : cm f g n = cm f' g' n := sm_congr fun i _ => by rw [h, k]
/-- a product taken again: from its first number on -/
theorem cm_step {a u g h : List Int} {o : Int} (ha : ∀ i, a.getD i 0 = o * g.getD i 0 + if i = 0 then 0 else u.getD (i - 1) 0) (n : Nat) : cm a h n = o * cm g h n + if n = 0 then 0 else cm u h (n - 1) := by
  unfold cm
  have e : sm (n + 1) (fun i => a.getD i 0 * h.getD (n - i) 0) = sm (n + 1) fun i => o * (g.getD i 0 * h.getD (n - i) 0) + (if i = 0 then 0 else u.getD (i - 1) 0) * h.getD (n - i) 0 := sm_congr fun i _ => by rw [ha, Int.add_mul, Int.mul_assoc]
  rw [e, sm_add, sm_mulL]
  congr 1
  rw [sm_head]
  have e0 : (if (0 : Nat) = 0 then (0 : Int) else u.getD (0 - 1) 0) * h.getD (n - 0) 0 = 0 := by rw [if_pos rfl, Int.zero_mul]
  rw [e0, Int.zero_add]
  by_cases c : n = 0
  · subst c; rfl
  · rw [if_neg c]
    obtain ⟨k, rfl⟩ : ∃ k, n = k + 1 := ⟨n - 1, by omega⟩
    refine sm_congr fun j _ => ?_
    have e3 : k + 1 - (j + 1) = k + 1 - 1 - j := by omega
    show (if j + 1 = 0 then 0 else u.getD (j + 1 - 1) 0) * h.getD (k + 1 - (j + 1)) 0 = _
    rw [if_neg (by omega), e3]
    rfl
theorem cm_assoc (g h : List Int) : ∀ (f : List Int) (n : Nat), cm (convL f g) h n = cm f (convL g h) n
  | [], n => by
    rw [cm_nil, cm_zero]
    intro i
    rw [convL_get, cm_nil]
  | o :: q, n => by
    rw [cm_consL, cm_step (u := convL q g) (g := g) (o := o) (fun i => by
      rw [convL_get, cm_consL]
      congr 1
      by_cases c : i = 0
      · rw [if_pos c, if_pos c]
      · rw [if_neg c, if_neg c, convL_get])]
    rw [convL_get]
    congr 1
    by_cases c : n = 0
    · rw [if_pos c, if_pos c]
    · rw [if_neg c, if_neg c, cm_assoc g h q]
/-- the product of two, with no nought behind -/
noncomputable def mu (f g : List Int) : List Int := trimZ (convL f g)
theorem mu_get (f g : List Int) (n : Nat) : (mu f g).getD n 0 = cm f g n := by unfold mu; rw [trim_get, convL_get]
theorem mu_comm (f g : List Int) : mu f g = mu g f := trim_ext fun n => by rw [convL_get, convL_get, cm_comm]
theorem mu_assoc (f g h : List Int) : mu (mu f g) h = mu f (mu g h) := trim_ext fun n => by
  rw [convL_get, convL_get, cm_same (f' := convL f g) (g' := h) (fun i => by rw [mu_get, convL_get]) (fun _ => rfl), cm_assoc]
  exact cm_same (fun _ => rfl) (fun i => by rw [mu_get, convL_get]) n
theorem mu_swap (a b c : List Int) : mu (mu a b) c = mu (mu a c) b := by rw [mu_assoc, mu_comm b c, ← mu_assoc]
/-- several, one behind the other -/
noncomputable def mus (a : List Int) (l : List (List Int)) : List Int := l.foldl mu a
theorem mus_mu (a b : List Int) : ∀ l, mus (mu a b) l = mu (mus a l) b
  | [] => rfl
  | x :: l => by
    show mus (mu (mu a b) x) l = mu (mus (mu a x) l) b
    rw [mu_swap, mus_mu]
/-! ### polynomials by a prime and by a polynomial -/
noncomputable def EqM (p : Int) (d a b : List Int) : Prop := ∃ Q : List Int, ∀ n, p ∣ a.getD n 0 - b.getD n 0 - cm Q d n
theorem EqM.refl (p : Int) (d a : List Int) : EqM p d a a := ⟨[], fun n => by rw [cm_nil, Int.sub_self]; exact Int.dvd_zero p⟩
theorem EqM.of {p : Int} {d a b : List Int} (h : ∀ n, p ∣ a.getD n 0 - b.getD n 0) : EqM p d a b := ⟨[], fun n => by rw [cm_nil, Int.sub_zero]; exact h n⟩
theorem cm_addL (a b d : List Int) (n : Nat) : cm (addL a b) d n = cm a d n + cm b d n := by
  unfold cm
  rw [← sm_add]
  exact sm_congr fun i _ => by rw [addL_get, Int.add_mul]
theorem cm_neg (a d : List Int) (n : Nat) : cm (a.map fun x => -x) d n = -cm a d n := by
  have h := sm_mulL (-1) (fun i => a.getD i 0 * d.getD (n - i) 0) (n + 1)
  unfold cm
  rw [Int.neg_one_mul] at h
  rw [← h]
  exact sm_congr fun i _ => by rw [getD_map _ (by decide), Int.neg_one_mul, Int.neg_mul]
theorem EqM.symm {p : Int} {d a b : List Int} (h : EqM p d a b) : EqM p d b a := by
  obtain ⟨Q, h⟩ := h
  refine ⟨Q.map fun x => -x, fun n => ?_⟩
  rw [cm_neg]
  have e : b.getD n 0 - a.getD n 0 - -cm Q d n = -(a.getD n 0 - b.getD n 0 - cm Q d n) := by omega
  rw [e]
  exact Int.dvd_neg.mpr (h n)
theorem EqM.trans {p : Int} {d a b c : List Int} (h : EqM p d a b) (k : EqM p d b c) : EqM p d a c := by
  obtain ⟨Q, h⟩ := h
  obtain ⟨S, k⟩ := k
  refine ⟨addL Q S, fun n => ?_⟩
  rw [cm_addL]
  have e : a.getD n 0 - c.getD n 0 - (cm Q d n + cm S d n) = (a.getD n 0 - b.getD n 0 - cm Q d n) + (b.getD n 0 - c.getD n 0 - cm S d n) := by omega
  rw [e]
  exact Int.dvd_add (h n) (k n)
/-- a product's numbers, where one side is known up to what p divides -/
theorem cm_left {p : Int} {a b c : List Int} (h : ∀ n, p ∣ a.getD n 0 - b.getD n 0) (n : Nat) : p ∣ cm a c n - cm b c n := by
  rw [← cm_sub]
  exact sm_dvd fun i _ => by
    show p ∣ (subL a b).getD i 0 * c.getD (n - i) 0
    rw [subL_get]
    exact Int.dvd_mul_of_dvd_left (h i)
theorem EqM.mul {p : Int} {d a b : List Int} (h : EqM p d a b) (c : List Int) : EqM p d (convL a c) (convL b c) := by
  obtain ⟨Q, h⟩ := h
  refine ⟨convL Q c, fun n => ?_⟩
  have k := cm_left (p := p) (a := subL a b) (b := convL Q d) (c := c) (fun i => by rw [subL_get, convL_get]; exact h i) n
  rw [cm_sub] at k
  have e : cm (convL Q c) d n = cm (convL Q d) c n := by
    rw [cm_assoc, cm_assoc]
    exact cm_same (fun _ => rfl) (fun i => by rw [convL_get, convL_get, cm_comm]) n
  rw [convL_get, convL_get, e]
  exact k
theorem EqM.comm (p : Int) (d a b : List Int) : EqM p d (convL a b) (convL b a) := .of fun n => by
  rw [convL_get, convL_get, cm_comm, Int.sub_self]
  exact Int.dvd_zero p
theorem EqM.Tz (p : Int) (d a : List Int) : EqM p d a (FM.Tz p a) := .of fun n => by
  rw [Tz_get]
  have := pl_dvd p (a.getD n 0)
  have e : a.getD n 0 - pl p (a.getD n 0) = -(pl p (a.getD n 0) - a.getD n 0) := by omega
  rw [e]
  exact Int.dvd_neg.mpr this
theorem EqM.one (p : Int) (d a : List Int) : EqM p d (convL a [1]) a := .of fun n => by
  rw [convL_get, cm_comm, cm_consL]
  by_cases c : n = 0
  · rw [if_pos c, Int.one_mul, Int.add_zero, Int.sub_self]; exact Int.dvd_zero p
  · rw [if_neg c, cm_nil, Int.one_mul, Int.add_zero, Int.sub_self]; exact Int.dvd_zero p
/-- the divisor known up to a factor -/
theorem EqM.by {p l : Int} {d e a b : List Int} (hd : ∀ n, p ∣ d.getD n 0 - l * e.getD n 0) (h : EqM p d a b) : EqM p e a b := by
  obtain ⟨Q, h⟩ := h
  refine ⟨Q.map fun x => l * x, fun n => ?_⟩
  have k := cm_left (p := p) (a := d) (b := e.map fun x => l * x) (c := Q) (fun i => by rw [getD_map _ (Int.mul_zero l)]; exact hd i) n
  have e1 : cm (Q.map fun x => l * x) e n = cm (e.map fun x => l * x) Q n := by
    have f1 : ∀ u v : List Int, cm (u.map fun x => l * x) v n = l * cm u v n := fun u v => by
      unfold cm
      rw [← sm_mulL]
      exact sm_congr fun i _ => by rw [getD_map _ (Int.mul_zero l), Int.mul_assoc]
    rw [f1, f1, cm_comm]
  rw [e1]
  have e2 : a.getD n 0 - b.getD n 0 - cm (e.map fun x => l * x) Q n = (a.getD n 0 - b.getD n 0 - cm Q d n) + (cm d Q n - cm (e.map fun x => l * x) Q n) := by
    rw [cm_comm Q d]
    omega
  rw [e2]
  exact Int.dvd_add (h n) k
/-- a rest: in form, by p, shorter than the divisor -/
structure IsR (p : Int) (d r : List Int) : Prop where
  form : InForm r
  red : ∀ n, pl p (r.getD n 0) = r.getD n 0
  len : r.length < d.length
theorem rest_one {p : Int} {d r s : List Int} (nz : ∀ x, p ∣ x * lastI d → p ∣ x) (hr : IsR p d r) (hs : IsR p d s) (h : EqM p d r s) : r = s := by
  obtain ⟨Q, h⟩ := h
  have hd : 0 < d.length := Nat.lt_of_le_of_lt (Nat.zero_le _) hr.len
  have l1 := hr.len
  have l2 := hs.len
  have top := topE (z := p) (E := Q) (S := 0) hd nz fun n hn => by
    have := h n
    rw [getD_ge (xs := r) (by omega), getD_ge (xs := s) (by omega)] at this
    have e : (0 : Int) - 0 - cm Q d n = -cm Q d n := by omega
    rw [e] at this
    exact Int.dvd_neg.mp this
  refine form_ext hr.form hs.form fun n => pl_same (hr.red n) (hs.red n) ?_
  have k := h n
  have c : p ∣ cm Q d n := sm_dvd fun i _ => Int.dvd_mul_of_dvd_left (top i (Nat.zero_le _))
  have e : r.getD n 0 - s.getD n 0 = (r.getD n 0 - s.getD n 0 - cm Q d n) + cm Q d n := by omega
  rw [e]
  exact Int.dvd_add k c
open Classical in
noncomputable def rm (p : Int) (d a : List Int) : List Int := if h : ∃ r, IsR p d r ∧ EqM p d a r then Classical.choose h else []
theorem rm_eq {p : Int} {d a r : List Int} (nz : ∀ x, p ∣ x * lastI d → p ∣ x) (hr : IsR p d r) (h : EqM p d a r) : rm p d a = r := by
  have ex : ∃ r, IsR p d r ∧ EqM p d a r := ⟨r, hr, h⟩
  have e : rm p d a = Classical.choose ex := by unfold rm; rw [dif_pos ex]
  obtain ⟨h1, h2⟩ := Classical.choose_spec ex
  rw [e]
  exact rest_one nz h1 hr (h2.symm.trans h)
/-! ### divided, by a prime -/
noncomputable def preO : Int → List Int → Prop := fun z ns => match ns with
  | [a, b] => 2 ≤ z ∧ z.natAbs < 2 ^ 9000 ∧ a.natAbs < 2 ^ 9000
  | _ => False
noncomputable def F_O (C : Addr) : Int → List Int → Int ⊕ Addr := fun z ns => match ns with
  | [a, b] => if Int.gcd b z = 1 then .inl (pl z (a * tu b z)) else .inr C
  | _ => .inr C
theorem FO_r {C : Addr} {z x y : Int} (g : Int.gcd y z = 1) : F_O C z [x, y] = .inl (pl z (x * tu y z)) := if_pos g
theorem FO_e {C : Addr} {z x y : Int} (g : ¬ Int.gcd y z = 1) : F_O C z [x, y] = .inr C := if_neg g
theorem kme_over (T : Top K mg cNO cNP cK cW cR) : KME P w K mg base 2 (KWR cW cR) "over" 2 preO (F_O cNO) := by
  refine ⟨fun H a z ka => ?_⟩
  rcases id ka with ⟨q0, dx, fs, e, hz, hm⟩ | ⟨q0, dx, fs, e, hz, hm⟩
  · obtain ⟨f, fd, Fu, b, m1⟩ := T.f_Wholes_over
    refine ⟨cW, dx, fs, ["self", "a", "b"], e, hm "over" (by decide +kernel), f, fd, ?_, b, m1, T.cl_Wholes⟩
    obtain ⟨oc, od, kV, doc, pm, an, cdv, ct, osl, rfl, lk, hcd⟩ := Fu.ex
    refine fn_of lk hcd sc_Wholes_over (fun vs H Q E h => ?_) fun A outer s H vs Q E hr h => ?_
    · obtain ⟨ns, hl, rfl, _⟩ := h
      show (ns.map V.int).length + 1 = 3
      rw [List.length_map, hl]
    obtain ⟨ns, hl, rfl, ka2, hp, k, ke⟩ := h
    obtain ⟨x, y, rfl⟩ := len2 hl
    obtain ⟨hz2, h9, hx⟩ := hp
    omega
  obtain ⟨f, fd, Fu, b, m1⟩ := T.f_Kind_over
  refine ⟨cR, dx, fs, ["self", "a", "b"], e, hm "over" (by decide +kernel), f, fd, ?_, b, m1, T.cl_Rests⟩
  obtain ⟨oc, od, kV, doc, pm, an, cdv, ct, osl, rfl, lk, hcd⟩ := Fu.ex
  refine fn_of lk hcd sc_Kind_over (fun vs H Q E h => ?_) fun A outer s H vs Q E hr h => ?_
  · obtain ⟨ns, hl, rfl, _⟩ := h
    show (ns.map V.int).length + 1 = 3
    rw [List.length_map, hl]
  obtain ⟨ns, hl, rfl, ka2, hp, k, ke⟩ := h
  obtain ⟨x, y, rfl⟩ := len2 hl
  obtain ⟨hz2, h9, hx⟩ := hp
  rcases id ka2 with ⟨z0, _⟩ | ⟨_, dx2, fs2, e2, hz', _⟩
  · omega
  obtain ⟨C3, dx3, fs3, ps3, e3, l3, M3⟩ := (km_plain (P := P) (w := w) (base := base) T).ex H a z ka2
  obtain ⟨f3, fd3, F3, b3, mm3, c3⟩ := M3.ex
  refine ⟨_, (pss_one (ps_ret (pe_meth (pv 0) c3 mm3 F3 hr b3 .nil pass0 (pa_cons (pe_op op_mulB (pn_var 1) (pe_callE (kx_turned T) passE hr (pa_cons (pn_var 2) (pa_cons (pe_fld (pv 0) rfl) pa_nil)))) pa_nil)))), ?_⟩
  refine ⟨_, rfl, a, dx3, fs3, rfl, e3, l3, rfl, rfl, _, rfl, a, cR, dx2, fs2, _, rfl, e2, T.cl_Rests, T.na_Rests_size, hz', [.int y, .int z], fun _ => false, (fun _ z => by cases z), ⟨_, _, rfl, rfl, _, _, rfl, rfl, rfl⟩, ⟨y, z, rfl, hz2, h9⟩, fun p hp v H1 s1 a1 => ?_, fun er her H1 s1 => ?_⟩
  · have hp : F_tu cNO [.int y, .int z] = .val p := hp
    by_cases g : Int.gcd y z = 1
    · rw [show F_tu cNO [.int y, .int z] = .val (.int (tu y z)) from if_pos g] at hp
      cases hp
      have a1 : v = .int (tu y z) := a1
      subst a1
      obtain ⟨t0, t1, _⟩ := tu_spec hz2 (tu_ex hz2 g)
      have tb : (tu y z).natAbs < 2 ^ 9000 := by
        generalize 2 ^ 9000 = B at *
        omega
      refine ⟨x, tu y z, rfl, rfl, mul_ok (n := 9000) (m := 9000) hx tb, [x * tu y z], rfl, rfl, ka2.same s1, True.intro, ?_⟩
      exact k _ (FO_r g) H1 s1
    · rw [show F_tu cNO [.int y, .int z] = .err cNO from if_neg g] at hp
      cases hp
  · have her : F_tu cNO [.int y, .int z] = .err er := her
    by_cases g : Int.gcd y z = 1
    · rw [show F_tu cNO [.int y, .int z] = .val (.int (tu y z)) from if_pos g] at her
      cases her
    · rw [show F_tu cNO [.int y, .int z] = .err cNO from if_neg g] at her
      cases her
      exact ke cNO (FO_e g) H1 s1

noncomputable def ovp (z a b : Int) : Option Int := some (pl z (a * tu b z))
theorem hov {z b : Int} (z2 : 2 ≤ z) (g : Int.gcd b z = 1) (a c : Int) (ha : pl z a = a) (h : ovp z a b = some c) : pl z (c * b) = a ∧ pl z c = c := by
  have e := Option.some.inj h
  subst e
  obtain ⟨_, _, t⟩ := tu_spec z2 (tu_ex z2 g)
  refine ⟨?_, pl_pl _ _⟩
  rw [pl_mul]
  have e1 : pl z (a * tu b z * b) = pl z (a * pl z (tu b z * b)) := by rw [pl_mul', Int.mul_assoc]
  rw [e1, pl_pos (n := tu b z * b) (by omega), t, Int.mul_one, ha]
noncomputable def dvT (z : Int) (fo d : List Int) : Option (List Int × List Int) := dvN z (ovp z) d (fo.length + 1) (List.replicate (fo.length + 1 - d.length) 0) fo
noncomputable def dvF (z : Int) (fo d : List Int) : PV := match dvT z fo d with
  | none => .non
  | some p => .tup [.ints p.1, .ints p.2]
/-- what one may divide by -/
structure DOk (p : Int) (g : List Int) : Prop where
  pr : IsP p
  len : g.length ≤ 200
  ne : Tz p g ≠ []
  gcd : Int.gcd (lastI (Tz p g)) p = 1
theorem DOk.nz {p : Int} {g : List Int} (h : DOk p g) (x : Int) (hx : p ∣ x * lastI (Tz p g)) : p ∣ x := by
  obtain ⟨t, _, _, ht⟩ := tu_ex h.pr.1 h.gcd
  have h1 := Int.dvd_sub_self_of_emod_eq ht
  have h2 : p ∣ x * lastI (Tz p g) * t := Int.dvd_mul_of_dvd_left hx
  have h3 : p ∣ x * (1 - t * lastI (Tz p g)) := Int.dvd_mul_of_dvd_right h1
  have e1 : x = x * lastI (Tz p g) * t + x * (1 - t * lastI (Tz p g)) := by
    rw [Int.mul_sub, Int.mul_one, Int.mul_comm t, ← Int.mul_assoc]
    omega
  rw [e1]
  exact Int.dvd_add h2 h3
theorem dv_rest {p : Int} {g : List Int} (h : DOk p g) (f : List Int) : ∃ q, dvT p (Tz p f) (Tz p g) = some (q, rm p (Tz p g) f) ∧ IsR p (Tz p g) (rm p (Tz p g) f) ∧ EqM p (Tz p g) f (rm p (Tz p g) f) := by
  have hd := List.length_pos_iff.mpr h.ne
  have p2 : 2 ≤ p := h.pr.1
  obtain ⟨h1, h2⟩ := dvN_ok (z := p) (ov := ovp p) (f := Tz p f) (d := Tz p g) hd (fun a c ha hc => hov p2 h.gcd a c ha hc) ((Tz p f).length + 1) _ _ (DInv.start (Tz_form p f) (Tz_red p f)) (Nat.lt_succ_self _)
  cases o : dvN p (ovp p) (Tz p g) ((Tz p f).length + 1) (List.replicate ((Tz p f).length + 1 - (Tz p g).length) 0) (Tz p f) with
  | none =>
    obtain ⟨_, _, _, _, z⟩ := h2 o
    cases z
  | some x =>
    obtain ⟨q, r⟩ := x
    obtain ⟨I, hl⟩ := h1 q r o
    have ir : IsR p (Tz p g) r := ⟨I.rf, I.rr, hl⟩
    have er : EqM p (Tz p g) f r := (EqM.Tz p (Tz p g) f).trans ⟨q, fun n => by
      have k := I.eq n
      have e : (Tz p f).getD n 0 - r.getD n 0 - cm q (Tz p g) n = -(cm q (Tz p g) n + r.getD n 0 - (Tz p f).getD n 0) := by omega
      rw [e]
      exact Int.dvd_neg.mpr k⟩
    have em := rm_eq h.nz ir er
    rw [em]
    exact ⟨q, o, ir, er⟩
theorem dv_more {z : Int} {d q r : List Int} {n : Nat} (hl : d.length ≤ r.length) : dvN z (ovp z) d (n + 1) q r = dvN z (ovp z) d n (q.set (r.length - d.length) (pl z (lastI r * tu (lastI d) z))) (nextR z d r (pl z (lastI r * tu (lastI d) z))) := by
  conv => lhs; unfold dvN
  rw [if_neg (by omega)]
  rfl
theorem dv_done {z : Int} {d q r : List Int} {n : Nat} (hl : r.length < d.length) : dvN z (ovp z) d (n + 1) q r = some (q, r) := by
  unfold dvN
  rw [if_pos hl]
theorem red_s {p m : Int} (hp : IsP p) (h : pl p m = m) : 0 ≤ m ∧ m < 9973 := by
  have := pl_lt (z := p) (n := m) (by have := hp.1; omega)
  have := hp.2.1
  omega
theorem kx_divided (T : Top K mg cNO cNP cK cW cR) : Ok P w K mg base 3 "divided" ["kind", "f", "g"] (spF K (GkT cW cR) (fun as => ∃ p f g, as = [.ob 0 p, .ints f, .ints g] ∧ DOk p g ∧ f.length ≤ 200) fun as => match as with
    | [.ob 0 p, .ints f, .ints g] => dvF p (Tz p f) (Tz p g)
    | _ => .non) := by
  refine okF T.d_divided sc_divided (fun as ⟨a, b, c, h, _⟩ => by rw [h]; rfl) (fun f cdv A outer s H E hr => ⟨_, (xss_cons (xst_own (i := 3) sc_divided.nd rfl (Or.inl rfl) (xcl (kx_trimmed T) hr (xa_cons (xv 0) (xa_cons (xl 1) xa_nil))))
 (xss_cons (xst_setL (i := 4) sc_divided.nd rfl (Or.inl rfl) (newL (xcl (kx_trimmed T) hr (xa_cons (xv 0) (xa_cons (xl 2) xa_nil)))))
 (xss_cons (xst_if (xt_not (xt_list 4))
 (xss_one xst_never)
 xss_nil)
 (xss_cons (xst_own (i := 5) sc_divided.nd rfl (Or.inl rfl) (xl_rep (xl_lst (xa_cons xn_int xa_nil)) (xn_add (xn_sub (xn_len 3 T.b_len) (xn_len 4 T.b_len)) xn_int) (fun _ => rfl)))
 (xss_cons (xst_while PassesOwn.never (xt_ge (xn_len 3 T.b_len) (xn_len 4 T.b_len))
 (xss_cons (xst_setI (i := 6) sc_divided.nd rfl (Or.inl rfl) (xn_sub (xn_len 3 T.b_len) (xn_len 4 T.b_len)))
 (xss_cons (xst_setI (i := 7) sc_divided.nd rfl (Or.inl rfl) (xn_of (xR_V (xR_meth 0 (kme_over T) hr (xa_cons (xn_item 3 (xn_neg xn_int) (fun _ _ => rfl)) (xa_cons (xn_item 4 (xn_neg xn_int) (fun _ _ => rfl)) xa_nil))))))
 (xss_cons (xst_setit 5 (xn 6) (xn 7))
 (xss_cons (xst_forE (k := 8) (j := 9) PassesOwn.never rfl (by rfl) T.b_enumerate (xl 4) (pg_tup rfl (pgs_cons (pg_name (i := 8) sc_divided.nd rfl (Or.inl rfl)) (pgs_cons (pg_name (i := 9) sc_divided.nd rfl (Or.inl rfl)) pgs_nil)))
 (xss_one (xst_setit 3 (xn_add (xn 6) (xn 8)) (xn_kmeth 0 (km_plain T) hr (xa_cons (xn_sub (xn_item 3 (xn_add (xn 6) (xn 8)) (fun _ _ => rfl)) (xn_mul (xn 7) (xn 9))) xa_nil)))))
 (xss_one (xst_mut 3 (kx_cut_noughts T) hr)))))))
 (xss_freeze 3 (xss_freeze 5 (xss_one (xst_ret (xp_tup (xa_cons (xl 5) (xa_cons (xl 3) xa_nil)))))))))))), fun as hp => ?_⟩)
  obtain ⟨z, f, g, rfl, ok, hfl⟩ := hp
  have hgl := ok.len
  have p2 : 2 ≤ z := ok.pr.1
  have h9 : z.natAbs < 2 ^ 9000 := by
    have : z.natAbs ≤ 2 ^ 14 := by have := ok.pr.2.1; omega
    exact Nat.lt_of_le_of_lt this (Nat.pow_lt_pow_right (by decide) (by decide))
  refine ⟨⟨⟨rfl, rfl, True.intro⟩, z, f, rfl, by omega⟩, fun fo efo => ?_⟩
  have efo : fo = Tz z f := efo
  refine ⟨⟨⟨rfl, rfl, True.intro⟩, z, g, rfl, by omega⟩, fun d ed => ?_⟩
  have ed : d = Tz z g := ed
  have lf : fo.length ≤ 200 := by rw [efo]; exact Nat.le_trans (Tz_len _ _) hfl
  have lg : d.length ≤ 200 := by rw [ed]; exact Nat.le_trans (Tz_len _ _) hgl
  have ff : InForm fo := by rw [efo]; exact Tz_form z f
  have fr : ∀ n, pl z (fo.getD n 0) = fo.getD n 0 := by rw [efo]; exact Tz_red z f
  have dr : ∀ n, pl z (d.getD n 0) = d.getD n 0 := by rw [ed]; exact Tz_red z g
  have dne : ¬ d = [] := by rw [ed]; exact ok.ne
  have gc : Int.gcd (lastI d) z = 1 := by rw [ed]; exact ok.gcd
  have hd := List.length_pos_iff.mpr dne
  have goal : ∀ q r, dvT z fo d = some (q, r) → PV.tup [.ints q, .ints r] = dvF z (Tz z f) (Tz z g) := fun q r h => by
    rw [← efo, ← ed]
    unfold dvF
    rw [h]
  have pr := ok.pr
  clear efo ed ok
  refine to_lit (ρ' := [.fr (.ob 0 z), .fr (.ints f), .fr (.ints g), .ow (.ints fo), .fr (.ints d), .un, .un, .un, .un, .un]) rfl ?_
  refine ⟨.inl rfl, fun q => ?_, fun _ => ?_⟩
  · have q : ¬ ¬ d = [] := q
    exact q dne
  refine ⟨⟨⟨⟨True.intro, True.intro⟩, True.intro⟩, ⟨⟨.inr (.inl rfl), .inl rfl⟩, True.intro⟩, ?_, ?_⟩, fun q0 eq0 => ?_⟩
  · show -(2 : Int) ^ 63 ≤ (fo.length : Int) - (d.length : Int) + 1
    omega
  · show ((fo.length : Int) - (d.length : Int) + 1).toNat ≤ 1000
    omega
  have eq0 : q0 = List.replicate ((fo.length : Int) - (d.length : Int) + 1).toNat 0 := eq0
  have en : ((fo.length : Int) - (d.length : Int) + 1).toNat = fo.length + 1 - d.length := by omega
  rw [en] at eq0
  refine ⟨fun ρ => ∃ q r v6 v7 v8 v9 fuel, ρ = [.fr (.ob 0 z), .fr (.ints f), .fr (.ints g), .ow (.ints r), .fr (.ints d), .ow (.ints q), v6, v7, v8, v9] ∧ DInv z fo d q r ∧ r.length < fuel ∧ dvN z (ovp z) d fuel q r = dvT z fo d, fun ρ => (getL ρ 3).length, ⟨q0, fo, .un, .un, .un, .un, fo.length + 1, rfl, by rw [eq0]; exact DInv.start ff fr, Nat.lt_succ_self _, by rw [eq0]; rfl⟩, ?_⟩
  rintro ρ ⟨q, r, v6, v7, v8, v9, fuel, rfl, I, hfu, hdv⟩
  refine ⟨⟨.inr (.inl rfl), .inl rfl⟩, fun k => ?_, fun k => ?_⟩
  · have k : (d.length : Int) ≤ (r.length : Int) := k
    have hl : d.length ≤ r.length := by omega
    have rl := I.rl
    obtain ⟨fuel, rfl⟩ : ∃ n, fuel = n + 1 := ⟨fuel - 1, by omega⟩
    rw [dv_more hl] at hdv
    refine ⟨⟨.inr (.inl rfl), .inl rfl⟩, fun gap egap => ?_⟩
    have egap : gap = (r.length : Int) - (d.length : Int) := egap
    have egap : gap = ((r.length - d.length : Nat) : Int) := by omega
    subst egap
    have lr : r.getD (ixO r.length (-1)) 0 = lastI r := last_ix r (by omega)
    have ld : d.getD (ixO d.length (-1)) 0 = lastI d := last_ix d hd
    have fo_r := FO_r (C := cNO) (z := z) (x := lastI r) gc
    have rs := red_s pr (I.rr (r.length - 1))
    have r9 : (lastI r).natAbs < 2 ^ 9000 := by
      have : (lastI r).natAbs ≤ 2 ^ 14 := by unfold lastI; omega
      exact Nat.lt_of_le_of_lt this (Nat.pow_lt_pow_right (by decide) (by decide))
    have eF : F_O cNO z [r.getD (ixO r.length (-1)) 0, d.getD (ixO d.length (-1)) 0] = .inl (pl z (lastI r * tu (lastI d) z)) := by rw [lr, ld]; exact fo_r
    obtain ⟨c, hc⟩ : ∃ c, c = pl z (lastI r * tu (lastI d) z) := ⟨_, rfl⟩
    rw [← hc] at eF hdv
    refine ⟨⟨⟨⟨rfl, ⟨⟨.inr (.inl rfl), True.intro, by show -(r.length : Int) ≤ -1; omega, by show (-1 : Int) < (r.length : Int); omega⟩, ⟨.inl rfl, True.intro, by show -(d.length : Int) ≤ -1; omega, by show (-1 : Int) < (d.length : Int); omega⟩, True.intro⟩, True.intro, ?_⟩, ?_⟩, ?_⟩, fun c' ec' => ?_⟩
    · show preO z [r.getD (ixO r.length (-1)) 0, d.getD (ixO d.length (-1)) 0]
      rw [lr]
      exact ⟨p2, h9, r9⟩
    · show (toRs (F_O cNO z [r.getD (ixO r.length (-1)) 0, d.getD (ixO d.length (-1)) 0])).isV
      rw [eF]
      exact True.intro
    · show (toRs (F_O cNO z [r.getD (ixO r.length (-1)) 0, d.getD (ixO d.length (-1)) 0])).get = .int (pvI (toRs (F_O cNO z [r.getD (ixO r.length (-1)) 0, d.getD (ixO d.length (-1)) 0])).get)
      rw [eF]
      rfl
    have ec' : c' = pvI (toRs (F_O cNO z [r.getD (ixO r.length (-1)) 0, d.getD (ixO d.length (-1)) 0])).get := ec'
    rw [eF] at ec'
    have ec' : c' = c := ec'
    subst ec'
    obtain ⟨h1, h2⟩ := hov p2 gc _ _ (I.rr (r.length - 1)) (show ovp z (lastI r) (lastI d) = some c' by rw [hc]; rfl)
    obtain ⟨J, hlt⟩ := I.step hd hl h1 h2
    have cs := red_s pr h2
    have ql := I.ql
    refine to_lit (ρ' := [.fr (.ob 0 z), .fr (.ints f), .fr (.ints g), .ow (.ints r), .fr (.ints d), .ow (.ints q), .fr (.int ((r.length - d.length : Nat) : Int)), .fr (.int c'), v8, v9]) rfl ?_
    have ix5 : ixO q.length ((r.length - d.length : Nat) : Int) = r.length - d.length := by unfold ixO; rw [if_pos (by omega)]; omega
    refine ⟨rfl, rfl, rfl, ⟨by show -(q.length : Int) ≤ ((r.length - d.length : Nat) : Int); omega, by show ((r.length - d.length : Nat) : Int) < (q.length : Int); omega⟩, ?_⟩
    refine to_lit (ρ' := [.fr (.ob 0 z), .fr (.ints f), .fr (.ints g), .ow (.ints r), .fr (.ints d), .ow (.ints (q.set (r.length - d.length) c')), .fr (.int ((r.length - d.length : Nat) : Int)), .fr (.int c'), v8, v9]) (by rw [← ix5]; rfl) ?_
    refine ⟨rfl, fun i ρ => ∃ row v8 v9, ρ = [.fr (.ob 0 z), .fr (.ints f), .fr (.ints g), .ow (.ints row), .fr (.ints d), .ow (.ints (q.set (r.length - d.length) c')), .fr (.int ((r.length - d.length : Nat) : Int)), .fr (.int c'), v8, v9] ∧ TakeAt z d r c' i row, ⟨r, v8, v9, rfl, take_start z d r c'⟩, ?_, ?_⟩
    · rintro i n ρ hn ⟨row, v8, v9, rfl, ht⟩
      have hn : d[i]? = some n := hn
      have hi := (List.getElem?_eq_some_iff.mp hn).1
      have en : d.getD i 0 = n := getD_at' hn
      have l1 : -(row.length : Int) ≤ ((r.length - d.length : Nat) : Int) + (i : Int) := by omega
      have l2 : ((r.length - d.length : Nat) : Int) + (i : Int) < (row.length : Int) := by rw [ht.1]; omega
      have ix : ixO row.length (((r.length - d.length : Nat) : Int) + (i : Int)) = r.length - d.length + i := by unfold ixO; rw [if_pos (by omega)]; omega
      have ns := red_s pr (dr i)
      rw [en] at ns
      refine ⟨⟨rfl, ⟨⟨⟨.inr (.inl rfl), ⟨rfl, rfl⟩, l1, l2⟩, rfl, rfl, mul_okR ⟨by show -(2 : Int) ^ 64 < n; omega, by show n < (2 : Int) ^ 64; omega⟩⟩, True.intro⟩, True.intro, True.intro⟩, rfl, ⟨rfl, rfl⟩, ⟨l1, l2⟩, row.set (r.length - d.length + i) (pl z (row.getD (r.length - d.length + i) 0 - c' * n)), .fr (.int i), .fr (.int n), ?_, ?_⟩
      · rw [← ix]; rfl
      · have := take_step ht hl hi
        rw [en] at this
        exact this
    · rintro ρ ⟨row, v8, v9, rfl, ht⟩
      have ht : TakeAt z d r c' d.length row := ht
      have et := take_end ht hl
      refine ⟨rfl, True.intro, ⟨q.set (r.length - d.length) c', nextR z d r c', .fr (.int ((r.length - d.length : Nat) : Int)), .fr (.int c'), v8, v9, fuel, ?_, J, by omega, hdv⟩, ?_⟩
      · rw [← et]; rfl
      · show (trimZ row).length < r.length
        rw [et]
        exact hlt
  · have k : ¬ (d.length : Int) ≤ (r.length : Int) := k
    obtain ⟨fuel, rfl⟩ : ∃ n, fuel = n + 1 := ⟨fuel - 1, by omega⟩
    rw [dv_done (by omega)] at hdv
    exact ⟨⟨rfl, rfl, True.intro⟩, goal q r hdv.symm⟩

/-! ### products and powers by a polynomial -/
noncomputable def Bd (r : List Int) : Prop := ∀ m ∈ r, m.natAbs < 2 ^ 9000
theorem small_bd {m : Int} (h : 0 ≤ m ∧ m < 9973) : m.natAbs < 2 ^ 9000 := by
  have : m.natAbs ≤ 2 ^ 14 := by omega
  exact Nat.lt_of_le_of_lt this (Nat.pow_lt_pow_right (by decide) (by decide))
theorem IsR.tz {p : Int} {d r : List Int} (h : IsR p d r) : Tz p r = r := form_ext (Tz_form p r) h.form fun n => by rw [Tz_get, h.red n]
theorem dvF_eq {p : Int} {g : List Int} (h : DOk p g) (f : List Int) : ∃ q, dvF p (Tz p f) (Tz p g) = .tup [.ints q, .ints (rm p (Tz p g) f)] := by
  obtain ⟨q, e, _⟩ := dv_rest h f
  exact ⟨q, by unfold dvF; rw [e]⟩
theorem isP_dvd {p : Int} (h : IsP p) {d : Nat} (hd : (d : Int) ∣ p) : d = 1 ∨ (d : Int) = p := by
  obtain ⟨h2, _, hn⟩ := h
  obtain ⟨c, hc⟩ := hd
  by_cases d1 : d = 1
  · exact .inl d1
  have d0 : d ≠ 0 := fun z => by rw [z] at hc; simp at hc; omega
  have c0 : 0 < c := by
    rcases Int.lt_or_le 0 c with h | h
    · exact h
    · have := Int.mul_nonpos_of_nonneg_of_nonpos (show (0 : Int) ≤ d by omega) h
      omega
  by_cases c1 : c = 1
  · right; rw [hc, c1, Int.mul_one]
  exfalso
  by_cases le : (d : Int) ≤ c
  · have sq : (d : Int) * d ≤ p := by rw [hc]; exact Int.mul_le_mul_of_nonneg_left le (by omega)
    exact hn d (by omega) sq (by rw [hc]; exact Int.mul_emod_right _ _)
  · have sq : c * c ≤ p := by rw [hc]; exact Int.mul_le_mul_of_nonneg_right (by omega) (by omega)
    exact hn c (by omega) sq (by rw [hc]; exact Int.mul_emod_left _ _)
theorem gcd_pow {p b : Int} (h : IsP p) (hb : ¬ b % p = 0) (m : Nat) : Int.gcd b (p ^ m) = 1 := by
  have g1 : Int.gcd b p = 1 := by
    rcases isP_dvd h (d := Int.gcd b p) (Int.gcd_dvd_right ..) with g | g
    · exact g
    · exfalso
      have := Int.gcd_dvd_left b p
      rw [g] at this
      exact hb (Int.emod_eq_zero_of_dvd this)
  unfold Int.gcd at g1 ⊢
  rw [Int.natAbs_pow]
  exact Nat.Coprime.pow_right m g1
theorem cm_one (f : List Int) (n : Nat) : cm f [1] n = f.getD n 0 := by
  rw [cm_comm, cm_consL]
  by_cases c : n = 0
  · rw [if_pos c, Int.one_mul, Int.add_zero]
  · rw [if_neg c, cm_nil, Int.one_mul, Int.add_zero]
/-- the same numbers, as lists that may differ in noughts behind -/
noncomputable def Sm (a b : List Int) : Prop := ∀ n, a.getD n 0 = b.getD n 0
theorem Sm.eqm {p : Int} {d a b : List Int} (h : Sm a b) : EqM p d a b := .of fun n => by rw [h n, Int.sub_self]; exact Int.dvd_zero p
noncomputable def scl (c : Int) (a : List Int) : List Int := a.map fun x => c * x
theorem scl_get (c : Int) (a : List Int) (n : Nat) : (scl c a).getD n 0 = c * a.getD n 0 := getD_map _ (Int.mul_zero c) a n
theorem EqM.add {p : Int} {d a b c e : List Int} (h : EqM p d a b) (k : EqM p d c e) : EqM p d (addL a c) (addL b e) := by
  obtain ⟨Q, h⟩ := h
  obtain ⟨S, k⟩ := k
  refine ⟨addL Q S, fun n => ?_⟩
  rw [cm_addL, addL_get, addL_get]
  have e : a.getD n 0 + c.getD n 0 - (b.getD n 0 + e.getD n 0) - (cm Q d n + cm S d n) = (a.getD n 0 - b.getD n 0 - cm Q d n) + (c.getD n 0 - e.getD n 0 - cm S d n) := by omega
  rw [e]
  exact Int.dvd_add (h n) (k n)
theorem EqM.sclE {p : Int} {d a b : List Int} (c : Int) (h : EqM p d a b) : EqM p d (scl c a) (scl c b) := by
  obtain ⟨Q, h⟩ := h
  refine ⟨scl c Q, fun n => ?_⟩
  have e1 : cm (scl c Q) d n = c * cm Q d n := by
    unfold cm
    rw [← sm_mulL]
    exact sm_congr fun i _ => by rw [scl_get, Int.mul_assoc]
  rw [e1, scl_get, scl_get, ← Int.mul_sub, ← Int.mul_sub]
  exact Int.dvd_mul_of_dvd_right (h n)

/-! ### the greatest common divisor by a prime: what it is, that there is one and only one -/
noncomputable def Dv (p : Int) (d a : List Int) : Prop := EqM p d a []
noncomputable def Lc (p : Int) (f g r : List Int) : Prop := ∃ s t : List Int, ∀ n, p ∣ r.getD n 0 - (cm s f n + cm t g n)
theorem cm_1 (f : List Int) (n : Nat) : cm [1] f n = f.getD n 0 := by rw [cm_comm, cm_one]
theorem cm_c (c : Int) (f : List Int) (n : Nat) : cm [c] f n = c * f.getD n 0 := by
  rw [cm_consL]
  by_cases h : n = 0
  · rw [if_pos h, Int.add_zero]
  · rw [if_neg h, cm_nil, Int.add_zero]
theorem Lc.left (p : Int) (f g : List Int) : Lc p f g f := ⟨[1], [], fun n => by rw [cm_1, cm_nil, Int.add_zero, Int.sub_self]; exact Int.dvd_zero p⟩
theorem Lc.right (p : Int) (f g : List Int) : Lc p f g g := ⟨[], [1], fun n => by rw [cm_1, cm_nil, Int.zero_add, Int.sub_self]; exact Int.dvd_zero p⟩
theorem Lc.add {p : Int} {f g r s : List Int} (h : Lc p f g r) (k : Lc p f g s) : Lc p f g (addL r s) := by
  obtain ⟨a, b, h⟩ := h
  obtain ⟨c, d, k⟩ := k
  refine ⟨addL a c, addL b d, fun n => ?_⟩
  rw [cm_addL, cm_addL, addL_get]
  have e : r.getD n 0 + s.getD n 0 - (cm a f n + cm c f n + (cm b g n + cm d g n)) = (r.getD n 0 - (cm a f n + cm b g n)) + (s.getD n 0 - (cm c f n + cm d g n)) := by omega
  rw [e]
  exact Int.dvd_add (h n) (k n)
theorem Lc.congr {p : Int} {f g r s : List Int} (h : Lc p f g r) (k : ∀ n, p ∣ s.getD n 0 - r.getD n 0) : Lc p f g s := by
  obtain ⟨a, b, h⟩ := h
  refine ⟨a, b, fun n => ?_⟩
  have e : s.getD n 0 - (cm a f n + cm b g n) = (s.getD n 0 - r.getD n 0) + (r.getD n 0 - (cm a f n + cm b g n)) := by omega
  rw [e]
  exact Int.dvd_add (k n) (h n)
theorem Lc.mul {p : Int} {f g r : List Int} (q : List Int) (h : Lc p f g r) : Lc p f g (convL q r) := by
  obtain ⟨a, b, h⟩ := h
  refine ⟨convL q a, convL q b, fun n => ?_⟩
  have k := cm_left (p := p) (a := r) (b := addL (convL a f) (convL b g)) (c := q) (fun i => by rw [addL_get, convL_get, convL_get]; exact h i) n
  rw [cm_addL, cm_comm r q, cm_comm (convL a f) q, cm_comm (convL b g) q] at k
  rw [convL_get, cm_assoc, cm_assoc]
  exact k
theorem Lc.trans {p : Int} {f g b r x : List Int} (hb : Lc p f g b) (hr : Lc p f g r) (hx : Lc p b r x) : Lc p f g x := by
  obtain ⟨s, t, hx⟩ := hx
  refine ((hb.mul s).add (hr.mul t)).congr fun n => ?_
  rw [addL_get, convL_get, convL_get]
  exact hx n
theorem Dv.of_lc {p : Int} {d f g r : List Int} (hf : Dv p d f) (hg : Dv p d g) (h : Lc p f g r) : Dv p d r := by
  obtain ⟨s, t, h⟩ := h
  have z : ∀ s : List Int, EqM p d (convL [] s) [] := fun s => Sm.eqm fun n => by rw [convL_get, cm_nil]; rfl
  have k : ∀ {f : List Int}, Dv p d f → ∀ s, EqM p d (convL s f) [] := fun {f} hf s => (EqM.comm p d s f).trans ((EqM.mul hf s).trans (z s))
  have e : EqM p d r (addL (convL s f) (convL t g)) := .of fun n => by rw [addL_get, convL_get, convL_get]; exact h n
  exact e.trans (((k hf s).add (k hg t)).trans (.refl p d _))
theorem Lc.dv {p : Int} {b f : List Int} (h : Lc p b [] f) : Dv p b f := by
  obtain ⟨s, t, h⟩ := h
  refine ⟨s, fun n => ?_⟩
  have k := h n
  rw [cm_comm t [], cm_nil, Int.add_zero] at k
  show p ∣ f.getD n 0 - 0 - cm s b n
  rw [Int.sub_zero]
  exact k
theorem Dv.self (p : Int) (d : List Int) : Dv p d d := (Lc.left p d []).dv
theorem form_nil : InForm [] := fun h => absurd rfl h
theorem last_ne {r : List Int} (h : lastI r = 1) : r ≠ [] := fun e => by
  rw [e] at h
  exact absurd h (by decide)
theorem monic_eq {p : Int} {r s : List Int} (fr : InForm r) (rr : ∀ n, pl p (r.getD n 0) = r.getD n 0) (r1 : r = [] ∨ lastI r = 1) (fs : InForm s) (rs : ∀ n, pl p (s.getD n 0) = s.getD n 0) (s1 : s = [] ∨ lastI s = 1) (h : Dv p r s) (k : Dv p s r) : r = s := by
  have nilE : ∀ {s : List Int}, InForm s → (∀ n, pl p (s.getD n 0) = s.getD n 0) → Dv p [] s → s = [] := fun {s} fs rs h => by
    obtain ⟨Q, h⟩ := h
    refine form_ext fs form_nil fun n => pl_same (rs n) (by show pl p 0 = 0; exact pl_0 p) ?_
    have := h n
    rw [cm_comm, cm_nil, Int.sub_zero] at this
    exact this
  rcases r1 with r1 | r1
  · subst r1
    exact (nilE fs rs h).symm
  rcases s1 with s1 | s1
  · subst s1
    exact nilE fr rr k
  have shorter : ∀ {r s : List Int}, InForm r → (∀ n, pl p (r.getD n 0) = r.getD n 0) → lastI r = 1 → lastI s = 1 → Dv p s r → s.length ≤ r.length := fun {r s} fr rr r1 s1 k => by
    by_cases c : s.length ≤ r.length
    · exact c
    · have nz : ∀ x, p ∣ x * lastI s → p ∣ x := fun x h => by rw [s1, Int.mul_one] at h; exact h
      exact absurd (rest_one nz ⟨fr, rr, by omega⟩ ⟨form_nil, fun n => by show pl p 0 = 0; exact pl_0 p, by show 0 < s.length; omega⟩ k) (last_ne r1)
  have l1 := shorter fr rr r1 s1 k
  have l2 := shorter fs rs s1 r1 h
  have l0 := List.length_pos_iff.mpr (last_ne r1)
  have nz : ∀ x, p ∣ x * lastI s → p ∣ x := fun x h => by rw [s1, Int.mul_one] at h; exact h
  have e0 : r.getD (r.length - 1) 0 = 1 := r1
  have e1 : s.getD (s.length - 1) 0 = 1 := s1
  have le : r.length = s.length := by omega
  have tl : (Tz p (subL r s)).length ≤ r.length - 1 := form_len (Tz_form p _) fun n hn => by
    rw [Tz_get, subL_get]
    by_cases c : n = r.length - 1
    · rw [c, e0, le, e1]
      exact pl_0 p
    · rw [getD_ge (xs := r) (by omega), getD_ge (xs := s) (by omega)]
      exact pl_0 p
  have d : EqM p s (subL r s) [] := by
    have a : Sm (subL r s) (addL r (scl (-1) s)) := fun n => by rw [subL_get, addL_get, scl_get]; omega
    exact a.eqm.trans ((EqM.add k ((Dv.self p s).sclE (-1))).trans (.refl p s _))
  have z := rest_one nz ⟨Tz_form p (subL r s), Tz_red p _, by omega⟩ ⟨form_nil, fun n => by show pl p 0 = 0; exact pl_0 p, by show 0 < s.length; omega⟩ ((EqM.Tz p s _).symm.trans d)
  refine form_ext fr fs fun n => pl_same (rr n) (rs n) ?_
  have e2 : (Tz p (subL r s)).getD n 0 = 0 := by rw [z]; rfl
  rw [Tz_get, subL_get] at e2
  have := pl_dvd p (r.getD n 0 - s.getD n 0)
  rw [e2, Int.zero_sub] at this
  exact Int.dvd_neg.mp this
structure GC (p : Int) (f g r : List Int) : Prop where
  form : InForm r
  red : ∀ n, pl p (r.getD n 0) = r.getD n 0
  one : r = [] ∨ lastI r = 1
  lc : Lc p f g r
  d1 : Dv p r f
  d2 : Dv p r g
theorem GC.uniq {p : Int} {f g r s : List Int} (h : GC p f g r) (k : GC p f g s) : r = s :=
  monic_eq h.form h.red h.one k.form k.red k.one (Dv.of_lc h.d1 h.d2 k.lc) (Dv.of_lc k.d1 k.d2 h.lc)
open Classical in
noncomputable def pick (A : List Int → Prop) : List Int := if h : ∃ r, A r then Classical.choose h else []
noncomputable def gc (p : Int) (f g : List Int) : List Int := pick (GC p f g)
theorem gc_eq {p : Int} {f g r : List Int} (h : GC p f g r) : gc p f g = r := by
  have ex : ∃ r, GC p f g r := ⟨r, h⟩
  have e : gc p f g = Classical.choose ex := by unfold gc pick; rw [dif_pos ex]
  rw [e]
  exact (Classical.choose_spec ex).uniq h
structure Idl (p : Int) (f g b r : List Int) : Prop where
  i1 : Lc p f g b
  i2 : Lc p f g r
  i3 : Lc p b r f
  i4 : Lc p b r g
theorem Idl.symm {p : Int} {f g b r : List Int} (h : Idl p f g b r) : Idl p b r f g := ⟨h.i3, h.i4, h.i1, h.i2⟩
theorem Idl.gc {p : Int} {f g b r x : List Int} (h : Idl p f g b r) (k : GC p b r x) : GC p f g x := ⟨k.form, k.red, k.one, Lc.trans h.i1 h.i2 k.lc, Dv.of_lc k.d1 k.d2 h.i3, Dv.of_lc k.d1 k.d2 h.i4⟩
theorem gc_move {p : Int} {f g b r : List Int} (h : Idl p f g b r) : gc p f g = gc p b r := by
  have e : GC p f g = GC p b r := funext fun x => propext ⟨h.symm.gc, h.gc⟩
  show pick (GC p f g) = pick (GC p b r)
  rw [e]
theorem Idl.step {p : Int} {b r c : List Int} (h : EqM p r b c) : Idl p b r r c := by
  obtain ⟨Q, h⟩ := h
  refine ⟨.right p b r, ⟨[1], scl (-1) Q, fun n => ?_⟩, ⟨Q, [1], fun n => ?_⟩, .left p r c⟩
  · have e : cm (scl (-1) Q) r n = -cm Q r n := by
      have k := sm_mulL (-1) (fun i => Q.getD i 0 * r.getD (n - i) 0) (n + 1)
      unfold cm
      rw [Int.neg_one_mul] at k
      rw [← k]
      exact sm_congr fun i _ => by rw [scl_get, Int.mul_assoc]
    rw [cm_1, e]
    have e2 : c.getD n 0 - (b.getD n 0 + -cm Q r n) = -(b.getD n 0 - c.getD n 0 - cm Q r n) := by omega
    rw [e2]
    exact Int.dvd_neg.mpr (h n)
  · rw [cm_1]
    have e2 : b.getD n 0 - (cm Q r n + c.getD n 0) = b.getD n 0 - c.getD n 0 - cm Q r n := by omega
    rw [e2]
    exact h n
theorem Lc.swap {p : Int} {f g r : List Int} (h : Lc p f g r) : Lc p g f r := by
  obtain ⟨s, t, h⟩ := h
  exact ⟨t, s, fun n => by rw [Int.add_comm]; exact h n⟩
theorem Idl.swap {p : Int} {f g b r : List Int} (h : Idl p f g b r) : Idl p f g r b := ⟨h.i2, h.i1, h.i3.swap, h.i4.swap⟩
theorem Idl.cong {p : Int} {f g b r : List Int} (h : ∀ n, p ∣ f.getD n 0 - b.getD n 0) (k : ∀ n, p ∣ g.getD n 0 - r.getD n 0) : Idl p f g b r := by
  have neg : ∀ {x y : Int}, p ∣ x - y → p ∣ y - x := fun {x y} h => by
    have e : y - x = -(x - y) := by omega
    rw [e]
    exact Int.dvd_neg.mpr h
  exact ⟨(Lc.left p f g).congr fun n => neg (h n), (Lc.right p f g).congr fun n => neg (k n), (Lc.left p b r).congr h, (Lc.right p b r).congr k⟩
/-- with the lead one -/
noncomputable def tlF (p : Int) (b : List Int) : Int := if b = [] then 1 else pl p (1 * tu (lastI b) p)
noncomputable def nrm (p : Int) (b : List Int) : List Int := Tz p (b.map fun m => tlF p b * m)
theorem lead_gcd {p : Int} {b : List Int} (hp : IsP p) (fb : InForm b) (rb : ∀ n, pl p (b.getD n 0) = b.getD n 0) (hb : b ≠ []) : Int.gcd (lastI b) p = 1 := by
  have h1 := fb hb
  have h2 := rb (b.length - 1)
  have p2 : 2 ≤ p := hp.1
  rw [pl_pos (by omega)] at h2
  have h3 : ¬ lastI b % p = 0 := by
    show ¬ b.getD (b.length - 1) 0 % p = 0
    rw [h2]
    exact h1
  have := gcd_pow hp h3 1
  rw [Int.pow_one] at this
  exact this
theorem form_tz {p : Int} {b : List Int} (fb : InForm b) (rb : ∀ n, pl p (b.getD n 0) = b.getD n 0) : Tz p b = b := form_ext (Tz_form p b) fb fun n => by rw [Tz_get, rb n]
theorem nrm_gc {p : Int} {b : List Int} (hp : IsP p) (fb : InForm b) (rb : ∀ n, pl p (b.getD n 0) = b.getD n 0) : GC p b [] (nrm p b) := by
  by_cases hb : b = []
  · subst hb
    have e : nrm p [] = [] := rfl
    rw [e]
    exact ⟨form_nil, rb, .inl rfl, .left p [] [], .self p [], .self p []⟩
  have p2 : 2 ≤ p := hp.1
  have g := lead_gcd hp fb rb hb
  have one : pl p 1 = 1 := by rw [pl_pos (by omega)]; exact Int.emod_eq_of_lt (by decide) (by omega)
  have e0 : tlF p b = pl p (1 * tu (lastI b) p) := if_neg hb
  obtain ⟨h1, _⟩ := hov p2 g 1 (tlF p b) one (by rw [e0]; rfl)
  have ng : ∀ n, (nrm p b).getD n 0 = pl p (tlF p b * b.getD n 0) := fun n => by
    unfold nrm
    rw [Tz_get, getD_map _ (Int.mul_zero _)]
  have l0 := List.length_pos_iff.mpr hb
  have k1 : (nrm p b).getD (b.length - 1) 0 = 1 := (ng _).trans h1
  have l1 : (nrm p b).length ≤ b.length := by
    unfold nrm
    refine Nat.le_trans (Tz_len _ _) ?_
    rw [List.length_map]
    exact Nat.le_refl _
  have l2 : b.length ≤ (nrm p b).length := by
    by_cases c : b.length ≤ (nrm p b).length
    · exact c
    · rw [getD_ge (by omega)] at k1
      exact absurd k1 (by decide)
  have le : (nrm p b).length = b.length := by omega
  generalize tlF p b = t at *
  have ht : p ∣ t * lastI b - 1 := by
    have := pl_dvd p (t * lastI b)
    rw [h1] at this
    have e : t * lastI b - 1 = -(1 - t * lastI b) := by omega
    rw [e]
    exact Int.dvd_neg.mpr this
  refine ⟨Tz_form p _, Tz_red p _, .inr ?_, ⟨[t], [], fun n => ?_⟩, ⟨[lastI b], fun n => ?_⟩, .refl p _ _⟩
  · show (nrm p b).getD ((nrm p b).length - 1) 0 = 1
    rw [le]
    exact k1
  · rw [cm_c, cm_nil, Int.add_zero, ng]
    exact pl_dvd p _
  · rw [cm_c, ng]
    show p ∣ b.getD n 0 - 0 - lastI b * pl p (t * b.getD n 0)
    have h2 := pl_dvd p (t * b.getD n 0)
    generalize pl p (t * b.getD n 0) = u at *
    generalize b.getD n 0 = x at *
    generalize lastI b = l at *
    have e : x - 0 - l * u = -((t * l - 1) * x + l * (u - t * x)) := by
      rw [Int.sub_mul, Int.mul_sub, Int.one_mul, Int.mul_comm t l, Int.mul_assoc]
      omega
    rw [e]
    exact Int.dvd_neg.mpr (Int.dvd_add (Int.dvd_mul_of_dvd_left ht) (Int.dvd_mul_of_dvd_right h2))
theorem dok_form {p : Int} {r : List Int} (hp : IsP p) (fr : InForm r) (rr : ∀ n, pl p (r.getD n 0) = r.getD n 0) (hr : r ≠ []) (hl : r.length ≤ 200) : DOk p r := by
  have e := form_tz fr rr
  exact ⟨hp, hl, by rw [e]; exact hr, by rw [e]; exact lead_gcd hp fr rr hr⟩
theorem gc_ex {p : Int} (hp : IsP p) : ∀ (k : Nat) (b r : List Int), r.length ≤ k → InForm b → (∀ n, pl p (b.getD n 0) = b.getD n 0) → InForm r → (∀ n, pl p (r.getD n 0) = r.getD n 0) → r.length ≤ 200 → GC p b r (gc p b r)
  | k, b, [], _, fb, rb, _, _, _ => by
    have h := nrm_gc hp fb rb
    rw [gc_eq h]
    exact h
  | k + 1, b, y :: r, hk, fb, rb, fr, rr, hl => by
    have ok := dok_form hp fr rr (fun z => by cases z) hl
    have e := form_tz fr rr
    obtain ⟨_, _, ir, er⟩ := dv_rest ok b
    rw [e] at ir er
    have il := ir.len
    have ih := gc_ex hp k (y :: r) (rm p (y :: r) b) (by omega) fr rr ir.form ir.red (by omega)
    have h := (Idl.step er).gc ih
    rw [gc_eq h]
    exact h
theorem Idl.tz (p : Int) (f g : List Int) : Idl p f g (Tz p f) (Tz p g) := by
  have k : ∀ (f : List Int) n, p ∣ f.getD n 0 - (Tz p f).getD n 0 := fun f n => by
    rw [Tz_get]
    have := pl_dvd p (f.getD n 0)
    have e : f.getD n 0 - pl p (f.getD n 0) = -(pl p (f.getD n 0) - f.getD n 0) := by omega
    rw [e]
    exact Int.dvd_neg.mpr this
  exact Idl.cong (k f) (k g)
theorem gc_all {p : Int} (hp : IsP p) {f g : List Int} (hg : g.length ≤ 200) : GC p f g (gc p f g) := by
  have tl := Tz_len p g
  have h := gc_ex hp _ (Tz p f) (Tz p g) (Nat.le_refl _) (Tz_form p f) (Tz_red p f) (Tz_form p g) (Tz_red p g) (by omega)
  have h := (Idl.tz p f g).gc h
  rw [gc_eq h]
  exact h

/-! ### turned_lead, with_lead_one, common -/
theorem kx_turned_lead (T : Top K mg cNO cNP cK cW cR) : Ok P w K mg base 3 "turned_lead" ["kind", "f"] (spFI K (GkT cW cR) (fun as => ∃ p b, as = [.ob 0 p, .ints b] ∧ IsP p ∧ InForm b ∧ ∀ n, pl p (b.getD n 0) = b.getD n 0) fun as => match as with
    | [.ob 0 p, .ints b] => tlF p b
    | _ => 0) := by
  refine okF T.d_turned_lead sc_turned_lead (fun as ⟨a, b, h, _⟩ => by rw [h]; rfl) (fun f cdv A outer s H E hr => ⟨_, (xss_one (xst_ret (xv_if (xt_list 1) (xn_of (xR_V (xR_meth 0 (kme_over T) hr (xa_cons xn_int (xa_cons (xn_item 1 (xn_neg xn_int) (fun _ _ => rfl)) xa_nil))))) xn_int))), fun as hp => ?_⟩)
  obtain ⟨p, b, rfl, hp, fb, rb⟩ := hp
  have p2 : 2 ≤ p := hp.1
  have h9 : p.natAbs < 2 ^ 9000 := by
    have : p.natAbs ≤ 2 ^ 14 := by have := hp.2.1; omega
    exact Nat.lt_of_le_of_lt this (Nat.pow_lt_pow_right (by decide) (by decide))
  have o9 : (1 : Int).natAbs < 2 ^ 9000 := Nat.lt_of_le_of_lt (show (1 : Int).natAbs ≤ 2 ^ 14 by decide) (Nat.pow_lt_pow_right (by decide) (by decide))
  have eF : ¬ b = [] → F_O cNO p [1, b.getD (ixO b.length (-1)) 0] = .inl (tlF p b) := fun c => by
    have l0 := List.length_pos_iff.mpr c
    have ld : b.getD (ixO b.length (-1)) 0 = lastI b := last_ix b l0
    have e : tlF p b = pl p (1 * tu (lastI b) p) := if_neg c
    rw [ld, e]
    exact FO_r (lead_gcd hp fb rb c)
  refine ⟨⟨.inl rfl, fun c => ⟨⟨⟨rfl, ⟨True.intro, ⟨.inl rfl, True.intro, ?_, ?_⟩, True.intro⟩, True.intro, ?_⟩, ?_⟩, ?_⟩, fun _ => True.intro⟩, ?_⟩
  · have c : ¬ b = [] := c
    have l0 := List.length_pos_iff.mpr c
    show -(b.length : Int) ≤ -1
    omega
  · have c : ¬ b = [] := c
    have l0 := List.length_pos_iff.mpr c
    show (-1 : Int) < (b.length : Int)
    omega
  · show preO p [1, b.getD (ixO b.length (-1)) 0]
    exact ⟨p2, h9, o9⟩
  · have c : ¬ b = [] := c
    show (toRs (F_O cNO p [1, b.getD (ixO b.length (-1)) 0])).isV
    rw [eF c]
    exact True.intro
  · have c : ¬ b = [] := c
    show (toRs (F_O cNO p [1, b.getD (ixO b.length (-1)) 0])).get = .int (pvI (toRs (F_O cNO p [1, b.getD (ixO b.length (-1)) 0])).get)
    rw [eF c]
    rfl
  · show (if ¬ b = [] then PV.int (pvI (toRs (F_O cNO p [1, b.getD (ixO b.length (-1)) 0])).get) else .int 1) = .int (tlF p b)
    by_cases c : b = []
    · rw [if_neg (fun z => z c)]
      subst c
      rfl
    · rw [if_pos c, eF c]
      rfl
theorem tl_bd {p : Int} {b : List Int} (hp : IsP p) : (tlF p b).natAbs < 2 ^ 9000 := by
  have h : (tlF p b).natAbs ≤ 2 ^ 14 := by
    unfold tlF
    split
    · decide
    · have := red_s hp (pl_pl p (1 * tu (lastI b) p))
      omega
  exact Nat.lt_of_le_of_lt h (Nat.pow_lt_pow_right (by decide) (by decide))

/-! ### with_lead_one, common -/
theorem kx_with_lead_one (T : Top K mg cNO cNP cK cW cR) : Ok P w K mg base 4 "with_lead_one" ["kind", "f"] (spL K (GkT cW cR) (fun as => ∃ p b, as = [.ob 0 p, .ints b] ∧ IsP p ∧ b.length ≤ 1000 ∧ InForm b ∧ ∀ n, pl p (b.getD n 0) = b.getD n 0) fun as => match as with
    | [.ob 0 p, .ints b] => nrm p b
    | _ => []) := by
  refine okL T.d_with_lead_one sc_with_lead_one (fun as ⟨a, b, h, _⟩ => by rw [h]; rfl) (fun f cdv A outer s H E hr => ⟨_, (xss_one (xst_retl (xcl (kx_scaled T) hr (xa_cons (xv 0) (xa_cons (xl 1) (xa_cons (xci (kx_turned_lead T) hr (xa_cons (xv 0) (xa_cons (xl 1) xa_nil))) xa_nil)))))), fun as hp => ?_⟩)
  obtain ⟨p, b, rfl, hp, hl, fb, rb⟩ := hp
  refine ⟨⟨⟨rfl, rfl, ⟨⟨rfl, rfl, True.intro⟩, p, b, rfl, hp, fb, rb⟩, True.intro⟩, p, b, tlF p b, rfl, hl, tl_bd hp, fun m hm => ?_⟩, rfl⟩
  obtain ⟨n, _, e⟩ := FM.mem_getD hm
  have := red_s hp (rb n)
  rw [e] at this
  exact small_bd this
theorem kx_common (T : Top K mg cNO cNP cK cW cR) : Ok P w K mg base 5 "common" ["kind", "f", "g"] (spL K (GkT cW cR) (fun as => ∃ p f g, as = [.ob 0 p, .ints f, .ints g] ∧ IsP p ∧ f.length ≤ 200 ∧ g.length ≤ 200) fun as => match as with
    | [.ob 0 p, .ints f, .ints g] => gc p f g
    | _ => []) := by
  refine okL T.d_common sc_common (fun as ⟨a, b, c, h, _⟩ => by rw [h]; rfl) (fun f cdv A outer s H E hr => ⟨_, (xss_cons (xst_setL (i := 3) sc_common.nd rfl (Or.inl rfl) (newL (xcl (kx_trimmed T) hr (xa_cons (xv 0) (xa_cons (xl 1) xa_nil)))))
 (xss_cons (xst_setL (i := 4) sc_common.nd rfl (Or.inl rfl) (newL (xcl (kx_trimmed T) hr (xa_cons (xv 0) (xa_cons (xl 2) xa_nil)))))
 (xss_cons (xst_while PassesOwn.never (xt_list 4)
 (xss_cons (xst_setL (i := 5) sc_common.nd rfl (Or.inl rfl) (xl_of (xp_item (xc (kx_divided T) hr (xa_cons (xv 0) (xa_cons (xl 3) (xa_cons (xl 4) xa_nil)))) xn_int (fun _ _ => rfl))))
 (xss_cons (xst_setL (i := 3) sc_common.nd rfl (Or.inl rfl) (xl 4))
 (xss_one (xst_setL (i := 4) sc_common.nd rfl (Or.inl rfl) (xl 5))))))
 (xss_one (xst_retl (xcl (kx_with_lead_one T) hr (xa_cons (xv 0) (xa_cons (xl 3) xa_nil)))))))), fun as hp => ?_⟩)
  obtain ⟨p, f, g, rfl, hp, hf, hg⟩ := hp
  refine ⟨⟨⟨rfl, rfl, True.intro⟩, p, f, rfl, by omega⟩, fun b0 eb0 => ?_⟩
  have eb0 : b0 = Tz p f := eb0
  refine ⟨⟨⟨rfl, rfl, True.intro⟩, p, g, rfl, by omega⟩, fun r0 er0 => ?_⟩
  have er0 : r0 = Tz p g := er0
  have l1 := Tz_len p f
  have l2 := Tz_len p g
  have i0 : gc p b0 r0 = gc p f g := by
    rw [eb0, er0]
    exact (gc_move (Idl.tz p f g)).symm
  refine to_lit (ρ' := [.fr (.ob 0 p), .fr (.ints f), .fr (.ints g), .fr (.ints b0), .fr (.ints r0), .un]) rfl ?_
  refine ⟨fun ρ => ∃ b r v5, ρ = [.fr (.ob 0 p), .fr (.ints f), .fr (.ints g), .fr (.ints b), .fr (.ints r), v5] ∧ InForm b ∧ (∀ n, pl p (b.getD n 0) = b.getD n 0) ∧ b.length ≤ 200 ∧ InForm r ∧ (∀ n, pl p (r.getD n 0) = r.getD n 0) ∧ r.length ≤ 200 ∧ gc p b r = gc p f g, fun ρ => (getL ρ 4).length, ⟨b0, r0, .un, rfl, by rw [eb0]; exact Tz_form p f, by rw [eb0]; exact Tz_red p f, by rw [eb0]; omega, by rw [er0]; exact Tz_form p g, by rw [er0]; exact Tz_red p g, by rw [er0]; omega, i0⟩, ?_⟩
  rintro ρ ⟨b, r, v5, rfl, fb, rb, bl, fr, rr, rl, eg⟩
  refine ⟨.inl rfl, fun k => ?_, fun k => ?_⟩
  · have k : ¬ r = [] := k
    have ok := dok_form hp fr rr k rl
    have et := form_tz fr rr
    obtain ⟨q, e⟩ := dvF_eq ok b
    obtain ⟨_, _, ir, er⟩ := dv_rest ok b
    rw [et] at ir er e
    have il := ir.len
    have e : dvF p (Tz p b) (Tz p r) = .tup [.ints q, .ints (rm p r b)] := by rw [et]; exact e
    refine ⟨⟨⟨⟨⟨rfl, rfl, rfl, True.intro⟩, p, b, r, rfl, ok, bl⟩, True.intro, ?_⟩, ?_⟩, fun c ec => ?_⟩
    · show hasIt (dvF p (Tz p b) (Tz p r)) 1
      rw [e]
      exact ⟨by show (-2 : Int) ≤ 1; decide, by show (1 : Int) < 2; decide⟩
    · show itP (dvF p (Tz p b) (Tz p r)) 1 = .ints (pvL (itP (dvF p (Tz p b) (Tz p r)) 1))
      rw [e]
      rfl
    have ec : c = pvL (itP (dvF p (Tz p b) (Tz p r)) 1) := ec
    rw [e] at ec
    have ec : c = rm p r b := ec
    rw [← ec] at ir er il
    refine ⟨rfl, fun b1 eb1 => ⟨rfl, fun r1 er1 => ⟨⟨r, c, .fr (.ints c), ?_, fr, rr, rl, ir.form, ir.red, by omega, ?_⟩, ?_⟩⟩⟩
    · have eb1 : b1 = r := eb1
      have er1 : r1 = c := er1
      rw [eb1, er1]
      rfl
    · rw [← eg]
      exact (gc_move (Idl.step er)).symm
    · have er1 : r1 = c := er1
      show r1.length < r.length
      rw [er1]
      exact il
  · have k : ¬ ¬ r = [] := k
    have k : r = [] := Classical.not_not.mp k
    subst k
    refine ⟨⟨⟨rfl, rfl, True.intro⟩, p, b, rfl, hp, by omega, fb, rb⟩, ?_⟩
    show nrm p b = gc p f g
    rw [← eg]
    exact (gc_eq (nrm_gc hp fb rb)).symm

/-- a polynomial in form, by p -/
structure Fo (p : Int) (f : List Int) : Prop where
  form : InForm f
  red : ∀ n, pl p (f.getD n 0) = f.getD n 0
theorem Fo.tz (p : Int) (f : List Int) : Fo p (Tz p f) := ⟨Tz_form p f, Tz_red p f⟩
theorem Fo.at {p : Int} {f : List Int} (hp : IsP p) (h : Fo p f) : ∀ m ∈ f, 0 ≤ m ∧ m < p := fun m hm => by
  obtain ⟨n, _, e⟩ := FM.mem_getD hm
  have p2 : 2 ≤ p := hp.1
  have := h.red n
  rw [e, pl_pos (by omega)] at this
  have h1 := Int.emod_nonneg m (show p ≠ 0 by omega)
  have h2 := Int.emod_lt_of_pos m (show 0 < p by omega)
  omega
theorem dvd_add (p c : Int) (f : List Int) (n : Nat) : p ∣ (f.map fun x => x + p * c).getD n 0 - f.getD n 0 := by
  by_cases h : n < f.length
  · rw [getD_lt (by rw [List.length_map]; exact h), List.getElem_map, getD_lt h]
    have e : f[n] + p * c - f[n] = p * c := by omega
    rw [e]
    exact Int.dvd_mul_right p c
  · rw [getD_ge (by rw [List.length_map]; omega), getD_ge (by omega)]
    exact Int.dvd_zero p
theorem dvd_sub (p c : Int) (f : List Int) (n : Nat) : p ∣ (f.map fun x => x - p * c).getD n 0 - f.getD n 0 := by
  by_cases h : n < f.length
  · rw [getD_lt (by rw [List.length_map]; exact h), List.getElem_map, getD_lt h]
    have e : f[n] - p * c - f[n] = -(p * c) := by omega
    rw [e]
    exact Int.dvd_neg.mpr (Int.dvd_mul_right p c)
  · rw [getD_ge (by rw [List.length_map]; omega), getD_ge (by omega)]
    exact Int.dvd_zero p
/-! ### keeps_free_of_squares, good_prime -/
noncomputable def slF (z : Int) (f : List Int) : List Int := trimZ (((f.mapIdx fun k n => (k : Int) * n).drop 1).map (pl z))
noncomputable def keF (p : Int) (g : List Int) : Prop := ¬ pl p (lastI (trimZ g)) = 0 ∧ gc p g (slF p g) = [1]
theorem kx_keeps_free_of_squares (T : Top K mg cNO cNP cK cW cR) : Ok P w K mg base 6 "keeps_free_of_squares" ["prime", "g"] (spFB K (GkT cW cR) (fun as => ∃ p g, as = [.int p, .ints g] ∧ IsP p ∧ g.length ≤ 100 ∧ trimZ g ≠ []) fun as => match as with
    | [.int p, .ints g] => @decide (keF p g) (Classical.propDecidable _)
    | _ => false) := by
  refine okF T.d_keeps_free_of_squares sc_keeps_free_of_squares (fun as ⟨a, b, h, _⟩ => by rw [h]; rfl) (fun f cdv A outer s H E hr => ⟨_, (xss_cons (xst_setP (i := 2) sc_keeps_free_of_squares.nd rfl (Or.inl rfl) (xk_R (oi_Rests T) hr gkTR (xn 0)))
 (xss_cons (xst_setI (i := 3) sc_keeps_free_of_squares.nd rfl (Or.inl rfl) (xn_of (xp_item (newL (xcl (kx_trimmed T) hr (xa_cons (xk_W (oi_Wholes T) hr gkTW) (xa_cons (xl 1) xa_nil)))) (xn_neg xn_int) (fun _ _ => rfl))))
 (xss_one (xst_ret (xe_and (xe_ne (xn_kmeth 2 (km_plain T) hr (xa_cons (xn 3) xa_nil)) xn_int) (pe_one (xe_eqL hr.units (rdX (newL (xcl (kx_common T) hr (xa_cons (xv 2) (xa_cons (xl 1) (xa_cons (newL (xcl (kx_slope T) hr (xa_cons (xv 2) (xa_cons (xl 1) xa_nil)))) xa_nil)))))) (rdX (newL (xl_lst (xa_cons xn_int xa_nil))))))))))), fun as hp => ?_⟩)
  obtain ⟨p, g, rfl, hp, hl, hg⟩ := hp
  refine ⟨⟨rfl, hp⟩, fun kd ekd => ?_⟩
  have ekd : kd = .ob 0 p := ekd
  subst ekd
  clear ekd
  have e0 : g.map (pl 0) = g := (List.map_congr_left fun n _ => rfl).trans (List.map_id g)
  have hlen : 0 < (trimZ g).length := List.length_pos_iff.mpr hg
  refine to_lit (ρ' := [.fr (.int p), .fr (.ints g), .fr (.ob 0 p), .un]) rfl ?_
  have hi : hasIt (.ints (trimZ (g.map (pl 0)))) (-1) := by
    rw [e0]
    show -((trimZ g).length : Int) ≤ -1 ∧ (-1 : Int) < ((trimZ g).length : Int)
    omega
  refine ⟨⟨⟨⟨⟨True.intro, rfl, True.intro⟩, 0, g, rfl, by omega⟩, True.intro, hi⟩, rfl⟩, fun l el => ?_⟩
  have el : l = (trimZ (g.map (pl 0))).getD (ixO (trimZ (g.map (pl 0))).length (-1)) 0 := el
  rw [e0, last_ix _ hlen] at el
  refine to_lit (ρ' := [.fr (.int p), .fr (.ints g), .fr (.ob 0 p), .fr (.int l)]) rfl ?_
  have sl : (slF p g).length ≤ 200 := by
    unfold slF
    refine Nat.le_trans (trimZ_len _) ?_
    rw [List.length_map, List.length_drop, List.length_mapIdx]
    omega
  refine ⟨⟨⟨⟨rfl, ⟨rfl, True.intro⟩, True.intro, True.intro⟩, True.intro⟩, fun _ => ⟨⟨⟨rfl, rfl, ⟨⟨rfl, rfl, True.intro⟩, p, g, rfl, by omega⟩, True.intro⟩, p, g, slF p g, rfl, hp, by omega, sl⟩, ⟨True.intro, True.intro⟩, True.intro⟩⟩, ?_⟩
  show PV.bl (decide (¬ pl p l = 0 ∧ gc p g (slF p g) = [1])) = PV.bl (@decide (keF p g) (Classical.propDecidable _))
  rw [el]
  unfold keF
  congr 1
  exact decide_eq_decide.mpr Iff.rfl
theorem kx_is_prime (T : Top K mg cNO cNP cK cW cR) : Ok P w K mg base 1 "is_prime" ["number"] (spFB K (GkT cW cR) (fun as => areI as ∧ as.length = 1 ∧ yes (allI as)) fun as => F_P (allI as)) := liftB (ok_is_prime T)
/-- the first number from k on, n of them, at which q holds -/
noncomputable def fnd (q : Int → Bool) : Nat → Int → Int
  | 0, _ => 0
  | n + 1, k => if q k = true then k else fnd q n (k + 1)
theorem fnd_hit {q : Int → Bool} : ∀ {n i : Nat} {k : Int}, i < n → (∀ j : Nat, j < i → q (k + j) = false) → q (k + i) = true → fnd q n k = k + i
  | 0, _, _, h, _, _ => absurd h (Nat.not_lt_zero _)
  | n + 1, 0, k, _, _, e => by
    have e : q k = true := by simpa using e
    show (if q k = true then k else fnd q n (k + 1)) = _
    rw [if_pos e]
    simp
  | n + 1, i + 1, k, h, l, e => by
    have l0 : q k = false := by simpa using l 0 (by omega)
    show (if q k = true then k else fnd q n (k + 1)) = _
    rw [if_neg (by rw [l0]; decide), fnd_hit (n := n) (i := i) (k := k + 1) (by omega) (fun j hj => by have := l (j + 1) (by omega); rw [show k + 1 + (j : Int) = k + ((j + 1 : Nat) : Int) by omega]; exact this) (by rw [show k + 1 + (i : Int) = k + ((i + 1 : Nat) : Int) by omega]; exact e)]
    omega
noncomputable def gpQ (g : List Int) (n : Int) : Bool := isP n && @decide (keF n g) (Classical.propDecidable _)
theorem gpQ_iff {g : List Int} {n : Int} : gpQ g n = true ↔ IsP n ∧ keF n g := by
  unfold gpQ
  rw [Bool.and_eq_true, isP_iff]
  exact and_congr Iff.rfl (@decide_eq_true_iff _ (Classical.propDecidable _))
theorem kx_good_prime (T : Top K mg cNO cNP cK cW cR) : Ok P w K mg base 7 "good_prime" ["g"] (spFI K (GkT cW cR) (fun as => ∃ g, as = [.ints g] ∧ g.length ≤ 100 ∧ trimZ g ≠ [] ∧ ∃ p, IsP p ∧ keF p g) fun as => match as with
    | [.ints g] => fnd (gpQ g) 9972 2
    | _ => 0) := by
  refine okF T.d_good_prime sc_good_prime (fun as ⟨a, h, _⟩ => by rw [h]; rfl) (fun f cdv A outer s H E hr => ⟨_, (xss_cons (xst_forR2 (k := 1) PassesOwn.never rfl (by rfl) T.b_range xn_int (xn_add (xn_glob (by rfl) T.g_LARGEST_PRIME) xn_int) sc_good_prime.nd rfl (Or.inl rfl)
 (xss_one (xst_if (L2.PW.pt (xw_and (xt_V (xcb (kx_is_prime T) hr (xa_cons (xn 1) xa_nil))) (xw_and1 (xt_V (xcb (kx_keeps_free_of_squares T) hr (xa_cons (xn 1) (xa_cons (xl 0) xa_nil)))))))
 (xss_one (xst_ret (xn 1)))
 xss_nil)))
 (xss_one xst_never)), fun as hp => ?_⟩)
  obtain ⟨g, rfl, hl, hg, p, hp, kp⟩ := hp
  have q0 : ∀ m : Int, gpQ g m = true ↔ IsP m ∧ keF m g := fun m => gpQ_iff
  refine ⟨⟨True.intro, True.intro, True.intro⟩, ⟨by show -(2 : Int) ^ 62 ≤ 2; decide, by show (2 : Int) < 2 ^ 62; decide, by show -(2 : Int) ^ 62 ≤ 9973 + 1; decide, by show (9973 + 1 : Int) < 2 ^ 62; decide⟩, fun i ρ => (∃ v, ρ = [.fr (.ints g), v]) ∧ ∀ j : Nat, j < i → gpQ g (2 + j) = false, ⟨⟨_, rfl⟩, fun j hj => absurd hj (Nat.not_lt_zero _)⟩, ?_, ?_⟩
  · rintro i ρ hi ⟨⟨v, rfl⟩, hn⟩
    have hi : i < 9972 := hi
    refine ⟨⟨⟨⟨rfl, True.intro⟩, True.intro, rfl, True.intro⟩, fun h => ⟨⟨rfl, rfl, True.intro⟩, 2 + (i : Int), g, rfl, isP_iff.mp h, hl, hg⟩⟩, fun q => ?_, fun q => ?_⟩
    · have q : isP (2 + (i : Int)) = true ∧ @decide (keF (2 + (i : Int)) g) (Classical.propDecidable _) = true := q
      have q1 : gpQ g (2 + (i : Int)) = true := by unfold gpQ; rw [q.1, q.2]; rfl
      refine ⟨rfl, ?_⟩
      show PV.int (2 + (i : Int)) = PV.int (fnd (gpQ g) 9972 2)
      rw [fnd_hit hi hn q1]
    · have q : ¬ (isP (2 + (i : Int)) = true ∧ @decide (keF (2 + (i : Int)) g) (Classical.propDecidable _) = true) := q
      refine ⟨⟨_, rfl⟩, fun j hj => ?_⟩
      by_cases c : j = i
      · rw [c]
        refine Bool.eq_false_iff.mpr fun z => q ?_
        unfold gpQ at z
        exact Bool.and_eq_true_iff.mp z
      · exact hn j (by omega)
  · rintro ρ ⟨⟨v, rfl⟩, hn⟩
    have hn : ∀ j : Nat, j < 9972 → gpQ g (2 + j) = false := hn
    have p1 := hp.1
    have p2 := hp.2.1
    have := hn (p - 2).toNat (by omega)
    rw [show 2 + ((p - 2).toNat : Int) = p by omega, (q0 p).mpr ⟨hp, kp⟩] at this
    cases this

/-! ### free of squares by a prime (for k67): 1 is a sum of multiples of f and its slope -/
noncomputable def dl (f : List Int) : List Int := (List.range f.length).map fun (n : Nat) => ((n : Int) + 1) * f.getD (n + 1) 0
theorem dl_get (f : List Int) (n : Nat) : (dl f).getD n 0 = ((n : Int) + 1) * f.getD (n + 1) 0 := by
  unfold dl
  by_cases h : n < f.length
  · rw [getD_lt (by rw [List.length_map, List.length_range]; exact h), List.getElem_map, List.getElem_range]
  · rw [getD_ge (by rw [List.length_map, List.length_range]; omega), getD_ge (by omega), Int.mul_zero]
theorem dl_cm (u v : List Int) (n : Nat) : ((n : Int) + 1) * cm u v (n + 1) = cm (dl u) v n + cm u (dl v) n := by
  have e1 : cm (dl u) v n = sm (n + 1 + 1) fun i => (i : Int) * (u.getD i 0 * v.getD (n + 1 - i) 0) := by
    rw [sm_head]
    unfold cm
    rw [show ((0 : Nat) : Int) * (u.getD 0 0 * v.getD (n + 1 - 0) 0) = 0 by rw [Int.natCast_zero, Int.zero_mul], Int.zero_add]
    refine sm_congr fun i _ => ?_
    rw [dl_get, show n + 1 - (i + 1) = n - i by omega, Int.mul_assoc]
    rfl
  have e2 : cm u (dl v) n = sm (n + 1 + 1) fun i => ((n : Int) + 1 - (i : Int)) * (u.getD i 0 * v.getD (n + 1 - i) 0) := by
    show sm (n + 1) _ = sm (n + 1) _ + ((n : Int) + 1 - ((n + 1 : Nat) : Int)) * _
    rw [show (n : Int) + 1 - ((n + 1 : Nat) : Int) = 0 by omega, Int.zero_mul, Int.add_zero]
    refine sm_congr fun i hi => ?_
    rw [dl_get, show n - i + 1 = n + 1 - i by omega, show ((n - i : Nat) : Int) + 1 = (n : Int) + 1 - (i : Int) by omega, Int.mul_left_comm]
  rw [e1, e2, ← sm_add]
  unfold cm
  rw [← sm_mulL]
  refine sm_congr fun i _ => ?_
  rw [← Int.add_mul]
  congr 1
  omega
theorem dl_mul (u v : List Int) (n : Nat) : (dl (convL u v)).getD n 0 = cm (dl u) v n + cm u (dl v) n := by rw [dl_get, convL_get, dl_cm]
noncomputable def Co (p : Int) (f g : List Int) : Prop := Lc p f g [1]
noncomputable def Sq (p : Int) (f : List Int) : Prop := Co p f (dl f)
theorem Co.symm {p : Int} {f g : List Int} (h : Co p f g) : Co p g f := Lc.swap h
theorem Lc.zero (p : Int) (f g : List Int) {r : List Int} (h : ∀ n, p ∣ r.getD n 0) : Lc p f g r := ⟨[], [], fun n => by rw [cm_nil, cm_nil, Int.add_zero, Int.sub_zero]; exact h n⟩
/-- in an ideal that holds f and g, so does every combination -/
theorem Co.mul {p : Int} {u v w : List Int} (h : Co p u v) (k : Co p u w) : Co p u (convL v w) := by
  obtain ⟨s, t, h⟩ := h
  -- w = w * 1 = w (s u + t v) is a combination of u and v w
  have hw : Lc p u (convL v w) w := by
    refine ⟨convL w s, t, fun n => ?_⟩
    have k1 := cm_left (p := p) (a := [1]) (b := addL (convL s u) (convL t v)) (c := w) (fun i => by rw [addL_get, convL_get, convL_get]; exact h i) n
    rw [cm_1, cm_addL, cm_comm (convL s u) w, cm_assoc v w t] at k1
    have e : cm (convL w s) u n = cm w (convL s u) n := cm_assoc s u w n
    rw [e]
    exact k1
  exact Lc.trans (Lc.left p u _) hw k
theorem Co.congr {p : Int} {f g b r : List Int} (h : ∀ n, p ∣ f.getD n 0 - b.getD n 0) (k : ∀ n, p ∣ g.getD n 0 - r.getD n 0) (c : Co p f g) : Co p b r := by
  have i := Idl.cong h k
  exact Lc.trans i.i3 i.i4 c
theorem Sq.mul {p : Int} {u v : List Int} (hu : Sq p u) (hv : Sq p v) (h : Co p u v) : Sq p (convL u v) := by
  have F : Lc p (convL u v) (dl (convL u v)) (convL u v) := Lc.left p _ _
  have D : Lc p (convL u v) (dl (convL u v)) (dl (convL u v)) := Lc.right p _ _
  have key : ∀ {u v : List Int}, Sq p u → (∀ n, p ∣ (dl (convL u v)).getD n 0 - (cm (dl u) v n + cm u (dl v) n)) → ∀ {f g : List Int}, Lc p f g (convL u v) → Lc p f g (dl (convL u v)) → Lc p f g (convL v v) := fun {u v} hu hd {f g} F D => by
    -- v u' v = v (u v)' - v' (u v)
    have a1 : Lc p f g (convL (dl u) (convL v v)) := ((D.mul v).add (F.mul ((dl v).map fun x => -x))).congr fun n => by
      rw [addL_get, convL_get, convL_get, convL_get, cm_neg]
      have b1 := cm_left (p := p) (a := dl (convL u v)) (b := addL (convL (dl u) v) (convL u (dl v))) (c := v) (fun i => by rw [addL_get, convL_get, convL_get]; exact hd i) n
      rw [cm_addL, cm_comm (dl (convL u v)) v, cm_assoc v v (dl u)] at b1
      have b2 : cm (convL u (dl v)) v n = cm (dl v) (convL u v) n := by
        rw [cm_comm (dl v), cm_assoc, cm_assoc]
        exact cm_same (fun _ => rfl) (fun i => by rw [convL_get, convL_get, cm_comm]) n
      rw [b2] at b1
      have e : cm (dl u) (convL v v) n - (cm v (dl (convL u v)) n + -cm (dl v) (convL u v) n) = -(cm v (dl (convL u v)) n - (cm (dl u) (convL v v) n + cm (dl v) (convL u v) n)) := by omega
      rw [e]
      exact Int.dvd_neg.mpr b1
    have a2 : Lc p f g (convL u (convL v v)) := (F.mul v).congr fun n => by
      rw [convL_get, convL_get]
      have e : cm v (convL u v) n = cm u (convL v v) n := by
        rw [cm_comm v, cm_assoc]
      rw [e, Int.sub_self]
      exact Int.dvd_zero p
    obtain ⟨s, t, hst⟩ := hu
    refine ((a2.mul s).add (a1.mul t)).congr fun n => ?_
    rw [addL_get, convL_get, convL_get, convL_get]
    have b1 := cm_left (p := p) (a := [1]) (b := addL (convL s u) (convL t (dl u))) (c := convL v v) (fun i => by rw [addL_get, convL_get, convL_get]; exact hst i) n
    rw [cm_1, convL_get, cm_addL, cm_assoc, cm_assoc] at b1
    exact b1
  have vv := key (u := u) (v := v) hu (fun n => by rw [dl_mul, Int.sub_self]; exact Int.dvd_zero p) F D
  have sw : ∀ n, p ∣ (convL v u).getD n 0 - (convL u v).getD n 0 := fun n => by rw [convL_get, convL_get, cm_comm, Int.sub_self]; exact Int.dvd_zero p
  have sd : ∀ n, p ∣ (dl (convL v u)).getD n 0 - (dl (convL u v)).getD n 0 := fun n => by rw [dl_get, dl_get, convL_get, convL_get, cm_comm, Int.sub_self]; exact Int.dvd_zero p
  have uu := key (u := v) (v := u) hv (fun n => by rw [dl_mul, Int.sub_self]; exact Int.dvd_zero p) (F.congr sw) (D.congr sd)
  have c2 : Co p (convL u u) (convL v v) := (Co.mul (Co.mul h h).symm (Co.mul h h).symm).symm
  exact Lc.trans uu vv c2
/-- pieces -/
theorem Lc.unit {p c t : Int} {f g : List Int} (ht : p ∣ t * c - 1) (h : Lc p f g [c]) : Lc p f g [1] := (h.mul [t]).congr fun n => by
  rw [convL_get, cm_c]
  cases n with
  | zero =>
    show p ∣ 1 - t * c
    have e : 1 - t * c = -(t * c - 1) := by omega
    rw [e]
    exact Int.dvd_neg.mpr ht
  | succ n =>
    show p ∣ 0 - t * 0
    rw [Int.mul_zero]
    exact Int.dvd_zero p
theorem cm_2 (b a : Int) (f : List Int) (n : Nat) : cm [b, a] f n = b * f.getD n 0 + if n = 0 then 0 else a * f.getD (n - 1) 0 := by
  rw [cm_consL]
  congr 1
  split
  · rfl
  · rw [cm_c]
theorem sq_lin {p a b t : Int} (ht : p ∣ t * a - 1) : Sq p [b, a] := by
  refine Lc.unit ht ((Lc.right p _ _).congr fun n => ?_)
  rw [dl_get]
  match n with
  | 0 => show p ∣ a - (((0 : Nat) : Int) + 1) * a; rw [show (((0 : Nat) : Int) + 1) * a = a by rw [Int.natCast_zero, Int.zero_add, Int.one_mul], Int.sub_self]; exact Int.dvd_zero p
  | n + 1 => show p ∣ 0 - _ * 0; rw [Int.mul_zero]; exact Int.dvd_zero p
theorem co_lin {p a b c d t : Int} (ht : p ∣ t * (b * c - d * a) - 1) : Co p [b, a] [d, c] := by
  refine Lc.unit ht ⟨[c], [-a], fun n => ?_⟩
  rw [cm_c, cm_c]
  match n with
  | 0 =>
    show p ∣ b * c - d * a - (c * b + -a * d)
    have e : b * c - d * a - (c * b + -a * d) = 0 := by rw [Int.neg_mul, Int.mul_comm c, Int.mul_comm a]; omega
    rw [e]; exact Int.dvd_zero p
  | 1 =>
    show p ∣ 0 - (c * a + -a * c)
    have e : 0 - (c * a + -a * c) = 0 := by rw [Int.neg_mul, Int.mul_comm c]; omega
    rw [e]; exact Int.dvd_zero p
  | n + 2 => show p ∣ 0 - (c * 0 + -a * 0); rw [Int.mul_zero, Int.mul_zero]; exact Int.dvd_zero p
theorem co_quad {p a b l t : Int} (ht : p ∣ t * (l * a * a + b * b) - 1) : Co p [b, a] [l, 0, 1] := by
  refine Lc.unit ht ⟨[b, -a], [a * a], fun n => ?_⟩
  rw [cm_2, cm_c]
  match n with
  | 0 =>
    show p ∣ l * a * a + b * b - (b * b + 0 + a * a * l)
    have e : l * a * a + b * b - (b * b + 0 + a * a * l) = 0 := by
      rw [Int.mul_comm (a * a) l, ← Int.mul_assoc]; omega
    rw [e]; exact Int.dvd_zero p
  | 1 =>
    show p ∣ 0 - (b * a + -a * b + a * a * 0)
    have e : 0 - (b * a + -a * b + a * a * 0) = 0 := by rw [Int.neg_mul, Int.mul_comm a b, Int.mul_zero]; omega
    rw [e]; exact Int.dvd_zero p
  | 2 =>
    show p ∣ 0 - (b * 0 + -a * a + a * a * 1)
    have e : 0 - (b * 0 + -a * a + a * a * 1) = 0 := by rw [Int.neg_mul, Int.mul_one, Int.mul_zero]; omega
    rw [e]; exact Int.dvd_zero p
  | n + 3 => show p ∣ 0 - (b * 0 + -a * 0 + a * a * 0); rw [Int.mul_zero, Int.mul_zero, Int.mul_zero]; exact Int.dvd_zero p
theorem sq_quad {p l t : Int} (ht : p ∣ t * (4 * l) - 1) : Sq p [l, 0, 1] := by
  refine Lc.unit ht ⟨[4], [0, -2], fun n => ?_⟩
  rw [cm_2, cm_c, dl_get]
  match n with
  | 0 =>
    show p ∣ 4 * l - (4 * l + (0 * ((((0 : Nat) : Int) + 1) * 0) + 0))
    have e : 4 * l - (4 * l + (0 * ((((0 : Nat) : Int) + 1) * 0) + 0)) = 0 := by omega
    rw [e]; exact Int.dvd_zero p
  | 1 =>
    rw [if_neg (by omega), dl_get]
    show p ∣ 0 - (4 * 0 + (0 * ((((1 : Nat) : Int) + 1) * 1) + -2 * ((((0 : Nat) : Int) + 1) * 0)))
    exact Int.dvd_zero p
  | 2 =>
    rw [if_neg (by omega), dl_get]
    show p ∣ 0 - (4 * 1 + (0 * ((((2 : Nat) : Int) + 1) * 0) + -2 * ((((1 : Nat) : Int) + 1) * 1)))
    exact Int.dvd_zero p
  | n + 3 =>
    rw [if_neg (by omega), dl_get]
    show p ∣ 0 - (4 * 0 + (0 * (_ * 0) + -2 * (_ * 0)))
    rw [Int.mul_zero, Int.mul_zero, Int.mul_zero, Int.mul_zero]
    exact Int.dvd_zero p
/-- a square in it: not free of squares -/
theorem no_sq {p a b t : Int} {g h : List Int} (hp : 2 ≤ p) (ht : p ∣ t * a - 1) (hg : ∀ n, p ∣ g.getD n 0 - cm [b, a] (convL [b, a] h) n) : ¬ Sq p g := fun S => by
  have d1 : Dv p [b, a] g := ⟨convL [b, a] h, fun n => by
    show p ∣ g.getD n 0 - 0 - cm (convL [b, a] h) [b, a] n
    rw [Int.sub_zero, cm_comm]
    exact hg n⟩
  have d2 : Dv p [b, a] (dl g) := by
    -- g' = d' (d h) + d (d h)'
    refine ⟨addL (convL (dl [b, a]) h) (dl (convL [b, a] h)), fun n => ?_⟩
    show p ∣ (dl g).getD n 0 - 0 - cm _ [b, a] n
    rw [Int.sub_zero, dl_get, cm_addL]
    have e := dl_cm [b, a] (convL [b, a] h) n
    have z : p ∣ ((n : Int) + 1) * (g.getD (n + 1) 0 - cm [b, a] (convL [b, a] h) (n + 1)) := Int.dvd_mul_of_dvd_right (hg (n + 1))
    rw [Int.mul_sub, e] at z
    have e1 : cm (dl [b, a]) (convL [b, a] h) n = cm (convL (dl [b, a]) h) [b, a] n := by
      rw [cm_assoc]
      exact cm_same (fun _ => rfl) (fun i => by rw [convL_get, convL_get, cm_comm]) n
    rw [e1, cm_comm [b, a] (dl (convL [b, a] h))] at z
    exact z
  have d3 := Dv.of_lc d1 d2 S
  have o1 : pl p 1 = 1 := by
    rw [pl_pos (by omega)]
    exact Int.emod_eq_of_lt (by omega) (by omega)
  have r1 : IsR p [b, a] [1] := ⟨fun _ => by show (1 : Int) ≠ 0; decide, fun n => by
    match n with
    | 0 => exact o1
    | n + 1 => exact pl_0 p, by show 1 < 2; decide⟩
  have r0 : IsR p [b, a] [] := ⟨form_nil, fun n => pl_0 p, by show 0 < 2; decide⟩
  have := rest_one (nz := fun x hx => by
    have hx : p ∣ x * a := hx
    have e : x = t * (x * a) - x * (t * a - 1) := by rw [Int.mul_sub, Int.mul_one, Int.mul_left_comm]; omega
    rw [e]
    exact Int.dvd_sub (Int.dvd_mul_of_dvd_right hx) (Int.dvd_mul_of_dvd_right ht)) r1 r0 d3
  cases this
/-- the greatest common divisor of f and its slope is 1 if and only if f is free of squares -/
theorem gc_one {p : Int} {f g r : List Int} (hp : 2 ≤ p) (h : GC p f g r) : r = [1] ↔ Co p f g := by
  refine ⟨fun e => by rw [e] at h; exact h.lc, fun c => ?_⟩
  have o1 : pl p 1 = 1 := by
    rw [pl_pos (by omega)]
    exact Int.emod_eq_of_lt (by omega) (by omega)
  have dv1 : ∀ a : List Int, Dv p [1] a := fun a => ⟨a, fun n => by
    show p ∣ a.getD n 0 - 0 - cm a [1] n
    rw [cm_one, Int.sub_zero, Int.sub_self]
    exact Int.dvd_zero p⟩
  refine h.uniq ⟨fun _ => by show (1 : Int) ≠ 0; decide, fun n => ?_, .inr rfl, c, dv1 f, dv1 g⟩
  match n with
  | 0 => exact o1
  | n + 1 => exact pl_0 p

/-! ### products of pieces a x + b and of x x + l: when they are free of squares (for k67) -/
theorem mus_at (s : List Int) (A : List (List Int)) (x : List Int) (R : List (List Int)) : mus s (A ++ x :: R) = mu (mus s (A ++ R)) x := by
  unfold mus
  rw [List.foldl_append, List.foldl_cons, List.foldl_append]
  exact mus_mu _ x R
theorem mus_s (s : List Int) (L : List (List Int)) : ∀ n, (mus s L).getD n 0 = cm s (mus [1] L) n := by
  induction L generalizing s with
  | nil =>
    intro n
    show s.getD n 0 = cm s [1] n
    rw [cm_one]
  | cons x R ih =>
    intro n
    have e1 : mus s (x :: R) = mu (mus s R) x := mus_at s [] x R
    have e2 : mus [1] (x :: R) = mu (mus [1] R) x := mus_at [1] [] x R
    rw [e1, mu_get]
    have e3 : cm (mus s R) x n = cm (convL s (mus [1] R)) x n := cm_same (fun i => by rw [ih, convL_get]) (fun _ => rfl) n
    rw [e3, cm_assoc]
    exact cm_same (fun _ => rfl) (fun i => by rw [e2, mu_get, convL_get]) n
theorem sq_cong {p : Int} {f g : List Int} (h : ∀ n, f.getD n 0 = g.getD n 0) (k : Sq p f) : Sq p g :=
  Co.congr (fun n => by rw [h, Int.sub_self]; exact Int.dvd_zero p) (fun n => by rw [dl_get, dl_get, h, Int.sub_self]; exact Int.dvd_zero p) k
theorem co_mu {p : Int} {u v w : List Int} (h : Co p u v) (k : Co p u w) : Co p u (mu v w) :=
  Co.congr (fun n => by rw [Int.sub_self]; exact Int.dvd_zero p) (fun n => by rw [mu_get, convL_get, Int.sub_self]; exact Int.dvd_zero p) (Co.mul h k)
theorem sq_mu {p : Int} {u v : List Int} (hu : Sq p u) (hv : Sq p v) (h : Co p u v) : Sq p (mu u v) := sq_cong (fun n => by rw [mu_get, convL_get]) (Sq.mul hu hv h)
theorem sq_mus {p : Int} : ∀ (L : List (List Int)) (s : List Int), Sq p s → (∀ x ∈ L, Sq p x) → (∀ x ∈ L, Co p s x) → L.Pairwise (fun x y => Co p x y) → Sq p (mus s L)
  | [], s, hs, _, _, _ => hs
  | x :: R, s, hs, h1, h2, h3 => by
    have c := List.pairwise_cons.mp h3
    exact sq_mus R (mu s x) (sq_mu hs (h1 x List.mem_cons_self) (h2 x List.mem_cons_self)) (fun y hy => h1 y (List.mem_cons_of_mem _ hy)) (fun y hy => (co_mu (h2 y (List.mem_cons_of_mem _ hy)).symm (c.1 y hy).symm).symm) c.2
/-- by a square in the product -/
theorem no_sq_mu {p a b t e : Int} {u y : List Int} (hp : 2 ≤ p) (ht : p ∣ t * a - 1) (hy : ∀ n, p ∣ y.getD n 0 - e * ([b, a] : List Int).getD n 0) : ¬ Sq p (mu (mu u y) [b, a]) := by
  refine no_sq (b := b) (h := scl e u) hp ht fun n => ?_
  rw [mu_get, cm_comm]
  -- [b, a] * (u y) and [b, a] * ([b, a] * (e u))
  have k : ∀ i, p ∣ (mu u y).getD i 0 - (convL [b, a] (scl e u)).getD i 0 := fun i => by
    rw [mu_get, convL_get, cm_comm]
    have c1 := cm_left (p := p) (a := y) (b := scl e [b, a]) (c := u) (fun j => by rw [scl_get]; exact hy j) i
    have c2 : cm (scl e [b, a]) u i = cm [b, a] (scl e u) i := sm_congr fun j _ => by rw [scl_get, scl_get, Int.mul_left_comm, Int.mul_assoc]
    rw [c2] at c1
    exact c1
  have := cm_left (p := p) (c := [b, a]) k n
  rw [cm_comm _ [b, a], cm_comm _ [b, a]] at this
  exact this
theorem lin_alike {p a b c d t : Int} (ht : p ∣ t * a - 1) (h : p ∣ b * c - d * a) (n : Nat) : p ∣ ([d, c] : List Int).getD n 0 - c * t * ([b, a] : List Int).getD n 0 := by
  match n with
  | 0 =>
    show p ∣ d - c * t * b
    have e : d - c * t * b = -(t * (b * c - d * a) + d * (t * a - 1)) := by
      rw [Int.mul_sub, Int.mul_sub, Int.mul_one, Int.mul_comm b c, ← Int.mul_assoc, Int.mul_comm t c, Int.mul_left_comm t d a]
      omega
    rw [e]
    exact Int.dvd_neg.mpr (Int.dvd_add (Int.dvd_mul_of_dvd_right h) (Int.dvd_mul_of_dvd_right ht))
  | 1 =>
    show p ∣ c - c * t * a
    have e : c - c * t * a = -(c * (t * a - 1)) := by rw [Int.mul_sub, Int.mul_one, Int.mul_assoc]; omega
    rw [e]
    exact Int.dvd_neg.mpr (Int.dvd_mul_of_dvd_right ht)
  | n + 2 =>
    show p ∣ 0 - c * t * 0
    rw [Int.mul_zero]
    exact Int.dvd_zero p
/-- x x + l has the root of a x + b -/
theorem quad_root {p a b l t : Int} (ht : p ∣ t * a - 1) (h : p ∣ l * a * a + b * b) (n : Nat) : p ∣ ([l, 0, 1] : List Int).getD n 0 - cm [b, a] [-(b * t * t), t] n := by
  rw [cm_2]
  match n with
  | 0 =>
    show p ∣ l - (b * -(b * t * t) + 0)
    have e : l - (b * -(b * t * t) + 0) = t * t * (l * a * a + b * b) - l * ((t * a - 1) * (t * a + 1)) := by
      have e1 : (t * a - 1) * (t * a + 1) = t * a * (t * a) - 1 := by rw [Int.mul_add, Int.mul_one, Int.sub_mul, Int.one_mul]; omega
      have e2 : t * t * (l * a * a) = l * (t * a * (t * a)) := by
        simp only [Int.mul_assoc, Int.mul_comm, Int.mul_left_comm]
      have e3 : b * -(b * t * t) = -(t * t * (b * b)) := by
        rw [Int.mul_neg]
        congr 1
        simp only [Int.mul_assoc, Int.mul_comm, Int.mul_left_comm]
      rw [e1, Int.mul_add, e2, e3, Int.mul_sub, Int.mul_one]
      omega
    rw [e]
    exact Int.dvd_sub (Int.dvd_mul_of_dvd_right h) (Int.dvd_mul_of_dvd_right (Int.dvd_mul_of_dvd_left ht))
  | 1 =>
    show p ∣ 0 - (b * t + a * -(b * t * t))
    have e : 0 - (b * t + a * -(b * t * t)) = b * t * (t * a - 1) := by
      have e1 : a * -(b * t * t) = -(b * t * (t * a)) := by
        rw [Int.mul_neg]
        congr 1
        simp only [Int.mul_assoc, Int.mul_comm, Int.mul_left_comm]
      rw [e1, Int.mul_sub, Int.mul_one]
      omega
    rw [e]
    exact Int.dvd_mul_of_dvd_right ht
  | 2 =>
    show p ∣ 1 - (b * 0 + a * t)
    have e : 1 - (b * 0 + a * t) = -(t * a - 1) := by rw [Int.mul_zero, Int.mul_comm a t]; omega
    rw [e]
    exact Int.dvd_neg.mpr ht
  | n + 3 =>
    show p ∣ 0 - (b * 0 + a * 0)
    rw [Int.mul_zero, Int.mul_zero]
    exact Int.dvd_zero p
theorem no_sq_quad {p a b l t : Int} {u : List Int} (hp : 2 ≤ p) (ht : p ∣ t * a - 1) (h : p ∣ l * a * a + b * b) : ¬ Sq p (mu (mu u [l, 0, 1]) [b, a]) := by
  refine no_sq (b := b) (h := convL [-(b * t * t), t] u) hp ht fun n => ?_
  rw [mu_get, cm_comm]
  have k : ∀ i, p ∣ (mu u [l, 0, 1]).getD i 0 - (convL [b, a] (convL [-(b * t * t), t] u)).getD i 0 := fun i => by
    rw [mu_get, convL_get, cm_comm, ← cm_assoc]
    exact cm_left (p := p) (a := [l, 0, 1]) (b := convL [b, a] [-(b * t * t), t]) (c := u) (fun j => by rw [convL_get]; exact quad_root ht h j) i
  have := cm_left (p := p) (c := [b, a]) k n
  rw [cm_comm _ [b, a], cm_comm _ [b, a]] at this
  exact this
theorem no_sq_self {p l r : Int} {u : List Int} (hp : 2 ≤ p) (h : ∀ n, p ∣ ([l, 0, 1] : List Int).getD n 0 - cm [r, 1] [r, 1] n) : ¬ Sq p (mu u [l, 0, 1]) := by
  refine no_sq (a := 1) (b := r) (t := 1) (h := u) hp (by rw [Int.mul_one, Int.sub_self]; exact Int.dvd_zero p) fun n => ?_
  rw [mu_get, cm_comm, ← cm_assoc]
  exact cm_left (p := p) (a := [l, 0, 1]) (b := convL [r, 1] [r, 1]) (c := u) (fun j => by rw [convL_get]; exact h j) n
theorem quad_zero {p l : Int} (h : p ∣ l) (n : Nat) : p ∣ ([l, 0, 1] : List Int).getD n 0 - cm [0, 1] [0, 1] n := by
  rw [cm_2]
  match n with
  | 0 => show p ∣ l - (0 * 0 + 0); rw [Int.mul_zero, Int.add_zero, Int.sub_zero]; exact h
  | 1 => exact Int.dvd_zero p
  | 2 => exact Int.dvd_zero p
  | n + 3 => show p ∣ 0 - (0 * 0 + 1 * 0); rw [Int.mul_zero, Int.mul_zero]; exact Int.dvd_zero p
theorem quad_two {l : Int} (n : Nat) : (2 : Int) ∣ ([l, 0, 1] : List Int).getD n 0 - cm [l, 1] [l, 1] n := by
  rw [cm_2]
  match n with
  | 0 =>
    show (2 : Int) ∣ l - (l * l + 0)
    have e : l - (l * l + 0) = -(l * (l - 1)) := by rw [Int.mul_sub, Int.mul_one]; omega
    rw [e]
    refine Int.dvd_neg.mpr ?_
    rcases (show l % 2 = 0 ∨ l % 2 = 1 by omega) with q | q
    · exact Int.dvd_mul_of_dvd_left (Int.dvd_of_emod_eq_zero q)
    · exact Int.dvd_mul_of_dvd_right (by omega)
  | 1 =>
    show (2 : Int) ∣ 0 - (l * 1 + 1 * l)
    omega
  | 2 =>
    show (2 : Int) ∣ 1 - (l * 0 + 1 * 1)
    omega
  | n + 3 =>
    show (2 : Int) ∣ 0 - (l * 0 + 1 * 0)
    omega

/-! ### stays: by numbers of the pieces; some prime to 863 stays (for k67) -/
noncomputable def pA (x : List Int) : Int := x.getD 1 0
noncomputable def pB (x : List Int) : Int := x.getD 0 0
noncomputable def rsl (x y : List Int) : Int := pB y * pA x - pB x * pA y
noncomputable def qd (l : Int) (x : List Int) : Int := l * pA x * pA x + pB x * pB x
structure Stay (p l : Int) (ps : List (List Int)) : Prop where
  lead : ∀ k, k < ps.length → ¬ p ∣ pA (ps.getD k [])
  pair : ∀ j k, j < k → k < ps.length → ¬ p ∣ rsl (ps.getD j []) (ps.getD k [])
  quad : 0 < l → ∀ k, k < ps.length → ¬ p ∣ qd l (ps.getD k [])
  last : l = 0 ∨ ¬ p ∣ 4 * l
noncomputable def stt (l : Int) : List Int := if 0 < l then [l, 0, 1] else [1]
theorem pc_eta {x : List Int} (h : x.length = 2) : x = [pB x, pA x] := by
  match x, h with
  | [b, a], _ => rfl
theorem split_at {ps : List (List Int)} {k : Nat} (h : k < ps.length) : ps = ps.take k ++ ps.getD k [] :: ps.drop (k + 1) := by
  have e : ps.getD k [] = ps[k] := by rw [List.getD_eq_getElem?_getD, List.getElem?_eq_getElem h]; rfl
  rw [e, ← List.drop_eq_getElem_cons h, List.take_append_drop]
theorem stay_sq {p l : Int} {ps : List (List Int)} (hp : 2 ≤ p) (hinv : ∀ x : Int, ¬ p ∣ x → ∃ t, p ∣ t * x - 1) (hpr : ∀ a b : Int, p ∣ a * b → p ∣ a ∨ p ∣ b) (h2 : ∀ k, k < ps.length → (ps.getD k []).length = 2) (l0 : 0 ≤ l) (hl : ∀ k, k < ps.length → ¬ p ∣ pA (ps.getD k [])) : Sq p (mus (stt l) ps) ↔ Stay p l ps := by
  have mem : ∀ x ∈ ps, ∃ k, k < ps.length ∧ ps.getD k [] = x := fun x hx => by
    obtain ⟨k, hk, e⟩ := List.mem_iff_getElem.mp hx
    exact ⟨k, hk, by rw [List.getD_eq_getElem?_getD, List.getElem?_eq_getElem hk]; exact e⟩
  constructor
  · intro S
    refine ⟨hl, fun j k hj hk d => ?_, fun h0 k hk d => ?_, ?_⟩
    · obtain ⟨t, ht⟩ := hinv _ (hl k hk)
      have e1 := split_at hk
      have hj2 : j < (ps.take k).length := by rw [List.length_take]; omega
      have e2 := split_at hj2
      have e3 : (ps.take k).getD j [] = ps.getD j [] := by rw [List.getD_eq_getElem?_getD, List.getElem?_take_of_lt hj, ← List.getD_eq_getElem?_getD]
      rw [e3] at e2
      have e4 : mus (stt l) ps = mu (mu (mus (stt l) ((ps.take k).take j ++ ((ps.take k).drop (j + 1) ++ ps.drop (k + 1)))) (ps.getD j [])) (ps.getD k []) := by
        rw (occs := .pos [1]) [e1]
        rw [mus_at]
        congr 1
        rw (occs := .pos [1]) [e2]
        rw [List.append_assoc, List.cons_append, mus_at]
      rw [e4] at S
      generalize mus (stt l) ((ps.take k).take j ++ ((ps.take k).drop (j + 1) ++ ps.drop (k + 1))) = u at S
      have x2 := pc_eta (h2 j (by omega))
      have y2 := pc_eta (h2 k hk)
      rw [y2] at S
      refine no_sq_mu (e := pA (ps.getD j []) * t) hp ht (fun n => ?_) S
      rw (occs := .pos [1]) [x2]
      exact lin_alike ht d n
    · obtain ⟨t, ht⟩ := hinv _ (hl k hk)
      have e1 := split_at hk
      have es : stt l = [l, 0, 1] := if_pos h0
      have e4 : ∀ n, (mus (stt l) ps).getD n 0 = (mu (mu (mus [1] (ps.take k ++ ps.drop (k + 1))) [l, 0, 1]) (ps.getD k [])).getD n 0 := fun n => by
        rw (occs := .pos [1]) [e1]
        rw [mus_at, mu_get, mu_get]
        exact cm_same (fun i => by rw [mus_s, es, mu_get, cm_comm]) (fun _ => rfl) n
      have S2 := sq_cong e4 S
      rw [pc_eta (h2 k hk)] at S2
      exact no_sq_quad hp ht d S2
    · by_cases q : l = 0
      · exact .inl q
      · right
        intro d
        have es : stt l = [l, 0, 1] := if_pos (by omega)
        have e4 : ∀ n, (mus (stt l) ps).getD n 0 = (mu (mus [1] ps) [l, 0, 1]).getD n 0 := fun n => by rw [mus_s, es, mu_get, cm_comm]
        have S2 := sq_cong e4 S
        rcases hpr _ _ d with z | z
        · have p2 : p = 2 := by
            have le := Int.le_of_dvd (by decide) z
            have c : p = 2 ∨ p = 3 ∨ p = 4 := by omega
            rcases c with c | c | c
            · exact c
            · rw [c] at z
              exact absurd z (by decide)
            · exfalso
              have := hpr 2 2 (by rw [c]; decide)
              rw [c] at this
              rcases this with w | w <;> exact absurd w (by decide)
          subst p2
          exact no_sq_self (r := l) (by decide) (fun n => quad_two n) S2
        · exact no_sq_self (r := 0) hp (fun n => quad_zero z n) S2
  · intro S
    have s1 : Sq p (stt l) := by
      unfold stt
      split
      · rename_i h0
        rcases S.last with q | q
        · omega
        · obtain ⟨t, ht⟩ := hinv _ q
          exact sq_quad ht
      · exact Lc.left p _ _
    refine sq_mus ps (stt l) s1 (fun x hx => ?_) (fun x hx => ?_) ?_
    · obtain ⟨k, hk, rfl⟩ := mem x hx
      obtain ⟨t, ht⟩ := hinv _ (hl k hk)
      rw [pc_eta (h2 k hk)]
      exact sq_lin ht
    · obtain ⟨k, hk, rfl⟩ := mem x hx
      unfold stt
      split
      · rename_i h0
        obtain ⟨t, ht⟩ := hinv _ (S.quad h0 k hk)
        rw [pc_eta (h2 k hk)]
        exact (co_quad ht).symm
      · exact Lc.left p _ _
    · refine List.pairwise_iff_getElem.mpr fun j k hj hk hjk => ?_
      have ej : ps[j] = ps.getD j [] := by rw [List.getD_eq_getElem?_getD, List.getElem?_eq_getElem hj]; rfl
      have ek : ps[k] = ps.getD k [] := by rw [List.getD_eq_getElem?_getD, List.getElem?_eq_getElem hk]; rfl
      have r := S.pair j k hjk hk
      have r' : ¬ p ∣ pB (ps.getD j []) * pA (ps.getD k []) - pB (ps.getD k []) * pA (ps.getD j []) := fun z => r (by
        have e : rsl (ps.getD j []) (ps.getD k []) = -(pB (ps.getD j []) * pA (ps.getD k []) - pB (ps.getD k []) * pA (ps.getD j [])) := by unfold rsl; omega
        rw [e]
        exact Int.dvd_neg.mpr z)
      obtain ⟨t, ht⟩ := hinv _ r'
      rw [ej, ek, pc_eta (h2 j hj), pc_eta (h2 k hk)]
      exact co_lin ht
/-! some prime stays -/
noncomputable def prL : List Int → Int
  | [] => 1
  | x :: r => x * prL r
theorem prL_ne : ∀ {l : List Int}, (∀ x ∈ l, x ≠ 0) → prL l ≠ 0
  | [], _ => by decide
  | x :: r, h => Int.mul_ne_zero (h x List.mem_cons_self) (prL_ne fun y hy => h y (List.mem_cons_of_mem _ hy))
theorem prL_dvd {p : Int} : ∀ {l : List Int} {x : Int}, x ∈ l → p ∣ x → p ∣ prL l
  | y :: r, x, h, d => by
    rcases List.mem_cons.mp h with rfl | h
    · exact Int.dvd_mul_of_dvd_left d
    · exact Int.dvd_mul_of_dvd_right (prL_dvd h d)
theorem prL_abs {B : Nat} : ∀ {l : List Int}, (∀ x ∈ l, x.natAbs ≤ B) → (prL l).natAbs ≤ B ^ l.length
  | [], _ => by show 1 ≤ 1; exact Nat.le_refl _
  | x :: r, h => by
    show (x * prL r).natAbs ≤ B ^ (r.length + 1)
    rw [Int.natAbs_mul, Nat.pow_succ, Nat.mul_comm]
    exact Nat.mul_le_mul (prL_abs fun y hy => h y (List.mem_cons_of_mem _ hy)) (h x List.mem_cons_self)
noncomputable def prN (l : List Nat) : Nat := l.foldr (· * ·) 1
noncomputable def chk : List Nat → Bool
  | [] => true
  | p :: r => (Nat.gcd p (prN r) == 1) && chk r
theorem chk_dvd {N : Nat} : ∀ {l : List Nat}, chk l = true → (∀ p ∈ l, p ∣ N) → prN l ∣ N
  | [], _, _ => Nat.one_dvd N
  | p :: r, h, k => by
    have h := Bool.and_eq_true_iff.mp h
    have c : Nat.Coprime p (prN r) := by simpa using h.1
    exact Nat.Coprime.mul_dvd_of_dvd_of_dvd c (k p List.mem_cons_self) (chk_dvd h.2 fun q hq => k q (List.mem_cons_of_mem _ hq))
noncomputable def some150 : List Nat := [2, 3, 5, 7, 11, 13, 17, 19, 23, 29, 31, 37, 41, 43, 47, 53, 59, 61, 67, 71, 73, 79, 83, 89, 97, 101, 103, 107, 109, 113, 127, 131, 137, 139, 149, 151, 157, 163, 167, 173, 179, 181, 191, 193, 197, 199, 211, 223, 227, 229, 233, 239, 241, 251, 257, 263, 269, 271, 277, 281, 283, 293, 307, 311, 313, 317, 331, 337, 347, 349, 353, 359, 367, 373, 379, 383, 389, 397, 401, 409, 419, 421, 431, 433, 439, 443, 449, 457, 461, 463, 467, 479, 487, 491, 499, 503, 509, 521, 523, 541, 547, 557, 563, 569, 571, 577, 587, 593, 599, 601, 607, 613, 617, 619, 631, 641, 643, 647, 653, 659, 661, 673, 677, 683, 691, 701, 709, 719, 727, 733, 739, 743, 751, 757, 761, 769, 773, 787, 797, 809, 811, 821, 823, 827, 829, 839, 853, 857, 859, 863]
theorem some_chk : chk some150 = true := by decide +kernel
theorem some_big : (10 ^ 19) ^ 15 < prN some150 := by decide +kernel
theorem some_pr : (some150.all fun p => decide (2 ≤ p) && decide (p ≤ 9973) && (List.range 30).all fun d => decide (d < 2) || decide (p < d * d) || decide (p % d ≠ 0)) = true := by decide +kernel
theorem some_isP {p : Nat} (h : p ∈ some150) : IsP (p : Int) := by
  have k := List.all_eq_true.mp some_pr p h
  simp only [Bool.and_eq_true, Bool.or_eq_true, decide_eq_true_eq, List.all_eq_true, List.mem_range] at k
  obtain ⟨⟨k1, k2⟩, k3⟩ := k
  have big : p < 900 := by
    have : (some150.all fun p => decide (p < 900)) = true := by decide +kernel
    simpa using List.all_eq_true.mp this p h
  refine ⟨by omega, by omega, fun d h1 h2 z => ?_⟩
  obtain ⟨e, rfl⟩ : ∃ e : Nat, d = (e : Int) := ⟨d.toNat, by omega⟩
  have h2 : e * e ≤ p := by exact_mod_cast h2
  have le : e < 30 := by
    by_cases c : e < 30
    · exact c
    · have := Nat.mul_le_mul (show 30 ≤ e by omega) (show 30 ≤ e by omega)
      omega
  rcases k3 e le with (q | q) | q
  · omega
  · omega
  · exact q (by exact_mod_cast z)
theorem some_free {l : List Int} (h0 : ∀ x ∈ l, x ≠ 0) (hl : l.length ≤ 15) (hb : ∀ x ∈ l, x.natAbs ≤ 10 ^ 19) : ∃ p : Int, IsP p ∧ ∀ x ∈ l, ¬ p ∣ x := by
  by_cases q : ∃ p, p ∈ some150 ∧ ∀ x ∈ l, ¬ (p : Int) ∣ x
  · obtain ⟨p, hp, h⟩ := q
    exact ⟨p, some_isP hp, h⟩
  · exfalso
    have all : ∀ p ∈ some150, p ∣ (prL l).natAbs := fun p hp => by
      have : ∃ x ∈ l, (p : Int) ∣ x := by
        by_cases w : ∃ x ∈ l, (p : Int) ∣ x
        · exact w
        · exact absurd ⟨p, hp, fun x hx d => w ⟨x, hx, d⟩⟩ q
      obtain ⟨x, hx, d⟩ := this
      exact Int.ofNat_dvd_left.mp (prL_dvd hx d)
    have d := chk_dvd some_chk all
    have ne : (prL l).natAbs ≠ 0 := fun z => prL_ne h0 (Int.natAbs_eq_zero.mp z)
    have le := Nat.le_of_dvd (by omega) d
    have ab := prL_abs hb
    have mono : (10 ^ 19) ^ l.length ≤ (10 ^ 19) ^ 15 := Nat.pow_le_pow_right (by decide) hl
    have big := some_big
    generalize (10 ^ 19) ^ 15 = A at *
    generalize (10 ^ 19) ^ l.length = B at *
    generalize prN some150 = C at *
    omega

/-! ### the polynomial handed in is kept free of squares by a prime if and only if the prime stays (for k67) -/
theorem mu_lead {u d : List Int} (hu : u ≠ []) (fu : lastI u ≠ 0) (hd : d ≠ []) (fd : lastI d ≠ 0) : (mu u d).length = u.length + d.length - 1 ∧ lastI (mu u d) = lastI u * lastI d := by
  have h1 := List.length_pos_iff.mpr hu
  have h2 := List.length_pos_iff.mpr hd
  have top : cm u d (u.length - 1 + (d.length - 1)) = lastI u * lastI d := by
    have := cm_top (z := 0) (E := u) (d := d) (i := u.length - 1) h2 (fun j hj => by rw [getD_ge (by omega)]; exact Int.dvd_zero 0)
    have := Int.zero_dvd.mp this
    have e : u.getD (u.length - 1) 0 = lastI u := rfl
    rw [e] at this
    omega
  have hge : u.length - 1 + (d.length - 1) < (mu u d).length := by
    by_cases c : u.length - 1 + (d.length - 1) < (mu u d).length
    · exact c
    · have z : (mu u d).getD (u.length - 1 + (d.length - 1)) 0 = 0 := getD_ge (by omega)
      rw [mu_get, top] at z
      exact absurd z (Int.mul_ne_zero fu fd)
  have hle : (mu u d).length ≤ u.length + d.length - 1 := form_len (trim_form _) fun n hn => by
    show (mu u d).getD n 0 = 0
    rw [mu_get]
    exact cm_ge (by omega)
  have hl : (mu u d).length = u.length + d.length - 1 := by omega
  refine ⟨hl, ?_⟩
  show (mu u d).getD ((mu u d).length - 1) 0 = _
  rw [hl, mu_get, show u.length + d.length - 1 - 1 = u.length - 1 + (d.length - 1) by omega]
  exact top
structure Pc (x : List Int) : Prop where
  two : x.length = 2
  lo : 1 ≤ pA x
  hi : pA x ≤ 10 ^ 6
  b1 : -10 ^ 6 ≤ pB x
  b2 : pB x ≤ 10 ^ 6
  bare : Int.gcd (pB x) (pA x) = 1
theorem Pc.last {x : List Int} (h : Pc x) : x ≠ [] ∧ lastI x = pA x := by
  obtain ⟨h, _, _, _, _, _⟩ := h
  match x, h with
  | [b, a], _ => exact ⟨(fun z => by cases z), rfl⟩
theorem mus_lead : ∀ (ps : List (List Int)) (u : List Int), u ≠ [] → lastI u ≠ 0 → (∀ x ∈ ps, Pc x) → mus u ps ≠ [] ∧ (mus u ps).length = u.length + ps.length ∧ lastI (mus u ps) = lastI u * prL (ps.map pA)
  | [], u, hu, _, _ => ⟨hu, rfl, (Int.mul_one _).symm⟩
  | x :: r, u, hu, fu, h => by
    have hx := h x List.mem_cons_self
    obtain ⟨x0, x1⟩ := hx.last
    have xa := hx.lo
    obtain ⟨l1, l2⟩ := mu_lead hu fu x0 (by rw [x1]; omega)
    have l3 := List.length_pos_iff.mpr hu
    have ln : (mu u x).length = u.length + 1 := by rw [l1, hx.two]; omega
    obtain ⟨i1, i2, i3⟩ := mus_lead r (mu u x) (List.length_pos_iff.mp (by omega)) (by rw [l2, x1]; exact Int.mul_ne_zero fu (by omega)) (fun y hy => h y (List.mem_cons_of_mem _ hy))
    refine ⟨i1, ?_, ?_⟩
    · show (mus (mu u x) r).length = u.length + (r.length + 1)
      rw [i2, ln]
      omega
    · show lastI (mus (mu u x) r) = lastI u * (pA x * prL (r.map pA))
      rw [i3, l2, x1, Int.mul_assoc]
theorem stt_lead (l : Int) : stt l ≠ [] ∧ lastI (stt l) = 1 ∧ (stt l).length ≤ 3 := by
  unfold stt
  split
  · exact ⟨(fun z => by cases z), rfl, Nat.le_refl _⟩
  · exact ⟨(fun z => by cases z), rfl, by decide⟩
theorem gcd_cut {a b c : Int} (h : a ∣ b * c) (g : Int.gcd a b = 1) : a ∣ c := by
  have d := Int.natAbs_dvd_natAbs.mpr h
  rw [Int.natAbs_mul] at d
  exact Int.natAbs_dvd_natAbs.mp (Nat.Coprime.dvd_of_dvd_mul_left g d)
theorem isP_mul {p a b : Int} (hp : IsP p) (h : p ∣ a * b) : p ∣ a ∨ p ∣ b := by
  by_cases c : a % p = 0
  · exact .inl (Int.dvd_of_emod_eq_zero c)
  · right
    have g := hp.coprime c
    rw [Int.gcd_comm] at g
    exact gcd_cut h g
theorem isP_inv {p x : Int} (hp : IsP p) (h : ¬ p ∣ x) : ∃ t, p ∣ t * x - 1 := by
  have g := hp.coprime (b := x) fun z => h (Int.dvd_of_emod_eq_zero z)
  obtain ⟨t, _, _, e⟩ := tu_ex hp.1 g
  refine ⟨t, ?_⟩
  have e2 := Int.dvd_sub_self_of_emod_eq e
  have : t * x - 1 = -(1 - t * x) := by omega
  rw [this]
  exact Int.dvd_neg.mpr e2
theorem isP_prL {p : Int} (hp : IsP p) : ∀ {l : List Int}, p ∣ prL l → ∃ x ∈ l, p ∣ x
  | [], h => by
    have h : p ∣ 1 := h
    have := Int.le_of_dvd (by decide) h
    have := hp.1
    omega
  | x :: r, h => by
    rcases isP_mul hp (a := x) (b := prL r) h with q | q
    · exact ⟨x, List.mem_cons_self, q⟩
    · obtain ⟨y, hy, d⟩ := isP_prL hp q
      exact ⟨y, List.mem_cons_of_mem _ hy, d⟩
theorem sl_get (p : Int) (f : List Int) (n : Nat) : (slF p f).getD n 0 = pl p (((n : Int) + 1) * f.getD (n + 1) 0) := by
  have e : (slF p f).getD n 0 = pl p (((f.mapIdx fun k n => (k : Int) * n).drop 1).getD n 0) := Tz_get p _ n
  rw [e]
  congr 1
  rw [List.getD_eq_getElem?_getD, List.getElem?_drop, List.getElem?_mapIdx, List.getD_eq_getElem?_getD, Nat.add_comm 1 n]
  cases f[n + 1]? with
  | none => show (0 : Int) = _ * 0; rw [Int.mul_zero]
  | some v => show ((n + 1 : Nat) : Int) * v = ((n : Int) + 1) * v; rfl
theorem pl_dv {p n : Int} (hp : IsP p) : pl p n = 0 ↔ p ∣ n := by
  rw [pl_pos (by have := hp.1; omega)]
  exact ⟨Int.dvd_of_emod_eq_zero, Int.emod_eq_zero_of_dvd⟩
/-- the pieces: up to four, unlike -/
structure Pcs (ps : List (List Int)) : Prop where
  all : ∀ x ∈ ps, Pc x
  len : ps.length ≤ 4
  nd : ps.Nodup
theorem get_mem {ps : List (List Int)} {k : Nat} (h : k < ps.length) : ps.getD k [] ∈ ps := by
  rw [List.getD_eq_getElem?_getD, List.getElem?_eq_getElem h]
  exact List.getElem_mem h
theorem trim_app (f : List Int) (k : Nat) : trimZ (f ++ List.replicate k 0) = trimZ f := trim_ext fun n => app_zero f k n
theorem handed_form {l : Int} {ps : List (List Int)} (h : Pcs ps) (k : Nat) : trimZ (mus (stt l) ps ++ List.replicate k 0) = mus (stt l) ps ∧ mus (stt l) ps ≠ [] ∧ (mus (stt l) ps).length ≤ 7 ∧ lastI (mus (stt l) ps) = prL (ps.map pA) := by
  obtain ⟨s1, s2, s3⟩ := stt_lead l
  obtain ⟨i1, i2, i3⟩ := mus_lead ps (stt l) s1 (by rw [s2]; decide) h.all
  refine ⟨?_, i1, by have := h.len; omega, by rw [i3, s2, Int.one_mul]⟩
  rw [trim_app]
  refine trimZ_done fun z => ?_
  have e : lastI (mus (stt l) ps) = 0 := z.2
  rw [i3, s2, Int.one_mul] at e
  refine prL_ne (fun x hx => ?_) e
  obtain ⟨y, hy, rfl⟩ := List.mem_map.mp hx
  have := (h.all y hy).lo
  omega
theorem kept_iff {p l : Int} {ps : List (List Int)} {k : Nat} (hp : IsP p) (h : Pcs ps) (l0 : 0 ≤ l) (hk : k ≤ 100) : keF p (mus (stt l) ps ++ List.replicate k 0) ↔ Stay p l ps := by
  obtain ⟨h1, h2, h3, h4⟩ := handed_form (l := l) h k
  have hl : (mus (stt l) ps ++ List.replicate k 0).length ≤ 107 := by rw [List.length_append, List.length_replicate]; omega
  have lead : ¬ pl p (lastI (trimZ (mus (stt l) ps ++ List.replicate k 0))) = 0 ↔ ∀ k, k < ps.length → ¬ p ∣ pA (ps.getD k []) := by
    rw [h1, h4, pl_dv hp]
    refine ⟨fun z k hk d => z (prL_dvd (List.mem_map.mpr ⟨_, get_mem hk, rfl⟩) d), fun z d => ?_⟩
    obtain ⟨x, hx, e⟩ := isP_prL hp d
    obtain ⟨y, hy, rfl⟩ := List.mem_map.mp hx
    obtain ⟨k, hk, ek⟩ := List.mem_iff_getElem.mp hy
    have := z k hk
    rw [List.getD_eq_getElem?_getD, List.getElem?_eq_getElem hk] at this
    exact this (by rw [show (some ps[k]).getD [] = ps[k] from rfl, ek]; exact e)
  have sl : (slF p (mus (stt l) ps ++ List.replicate k 0)).length ≤ 200 := by
    unfold slF
    refine Nat.le_trans (trimZ_len _) ?_
    rw [List.length_map, List.length_drop, List.length_mapIdx]
    omega
  have one : gc p (mus (stt l) ps ++ List.replicate k 0) (slF p (mus (stt l) ps ++ List.replicate k 0)) = [1] ↔ Sq p (mus (stt l) ps) := by
    rw [gc_one hp.1 (gc_all hp sl)]
    have a : ∀ n, (mus (stt l) ps ++ List.replicate k 0).getD n 0 - (mus (stt l) ps).getD n 0 = 0 := fun n => by rw [app_zero, Int.sub_self]
    have b : ∀ n, p ∣ (slF p (mus (stt l) ps ++ List.replicate k 0)).getD n 0 - (dl (mus (stt l) ps)).getD n 0 := fun n => by
      rw [sl_get, dl_get, app_zero]
      exact pl_dvd p _
    refine ⟨fun c => Co.congr (fun n => by rw [a n]; exact Int.dvd_zero p) b c, fun c => Co.congr (fun n => ?_) (fun n => ?_) c⟩
    · rw [app_zero, Int.sub_self]
      exact Int.dvd_zero p
    · have := Int.dvd_neg.mpr (b n)
      rw [Int.neg_sub] at this
      exact this
  unfold keF
  rw [lead, one]
  refine ⟨fun z => (stay_sq hp.1 (fun x hx => isP_inv hp hx) (fun a b d => isP_mul hp d) (fun k hk => (h.all _ (get_mem hk)).two) l0 z.1).mp z.2, fun z => ⟨z.lead, (stay_sq hp.1 (fun x hx => isP_inv hp hx) (fun a b d => isP_mul hp d) (fun k hk => (h.all _ (get_mem hk)).two) l0 z.lead).mpr z⟩⟩
/-! some prime stays -/
noncomputable def prs : List (List Int) → List Int
  | [] => []
  | x :: r => r.map (rsl x) ++ prs r
theorem prs_mem : ∀ {ps : List (List Int)} {j k : Nat}, j < k → k < ps.length → rsl (ps.getD j []) (ps.getD k []) ∈ prs ps
  | x :: r, 0, k + 1, _, hk => List.mem_append_left _ (List.mem_map.mpr ⟨_, get_mem (k := k) (by have : k + 1 < r.length + 1 := hk; omega), rfl⟩)
  | x :: r, j + 1, k + 1, hj, hk => List.mem_append_right _ (prs_mem (ps := r) (j := j) (k := k) (by omega) (by have : k + 1 < r.length + 1 := hk; omega))
theorem prs_from : ∀ {ps : List (List Int)} {n : Int}, ps.Nodup → n ∈ prs ps → ∃ x ∈ ps, ∃ y ∈ ps, x ≠ y ∧ n = rsl x y
  | x :: r, n, hd, h => by
    have hd := List.nodup_cons.mp hd
    rcases List.mem_append.mp h with q | q
    · obtain ⟨y, hy, rfl⟩ := List.mem_map.mp q
      exact ⟨x, List.mem_cons_self, y, List.mem_cons_of_mem _ hy, fun z => hd.1 (z ▸ hy), rfl⟩
    · obtain ⟨u, hu, v, hv, a, b⟩ := prs_from hd.2 q
      exact ⟨u, List.mem_cons_of_mem _ hu, v, List.mem_cons_of_mem _ hv, a, b⟩
theorem prs_len {ps : List (List Int)} (h : ps.length ≤ 4) : (prs ps).length ≤ 6 := by
  match ps, h with
  | [], _ => exact Nat.zero_le _
  | [_], _ => exact Nat.zero_le _
  | [_, _], _ => show 1 ≤ 6; decide
  | [_, _, _], _ => show 3 ≤ 6; decide
  | [_, _, _, _], _ => show 6 ≤ 6; decide
theorem rsl_ne {x y : List Int} (hx : Pc x) (hy : Pc y) (h : x ≠ y) : rsl x y ≠ 0 := fun z => by
  have e : pB y * pA x = pB x * pA y := by unfold rsl at z; omega
  have ax := hx.lo
  have ay := hy.lo
  have g1 := hx.bare
  have g2 := hy.bare
  rw [Int.gcd_comm] at g1 g2
  have d1 : pA x ∣ pA y := gcd_cut (⟨pB y, by rw [← e, Int.mul_comm]⟩ : pA x ∣ pB x * pA y) g1
  have d2 : pA y ∣ pA x := gcd_cut (⟨pB x, by rw [e, Int.mul_comm]⟩ : pA y ∣ pB y * pA x) g2
  have l1 := Int.le_of_dvd (by omega) d1
  have l2 := Int.le_of_dvd (by omega) d2
  have ea : pA x = pA y := by omega
  rw [ea] at e
  have eb : pB y = pB x := Int.eq_of_mul_eq_mul_right (by omega) e
  exact h (by rw [pc_eta hx.two, pc_eta hy.two, ea, eb])
theorem mul_b {a b : Int} {A B : Nat} (h1 : a.natAbs ≤ A) (h2 : b.natAbs ≤ B) : (a * b).natAbs ≤ A * B := by rw [Int.natAbs_mul]; exact Nat.mul_le_mul h1 h2
theorem Pc.ab {x : List Int} (h : Pc x) : (pA x).natAbs ≤ 10 ^ 6 ∧ (pB x).natAbs ≤ 10 ^ 6 := by
  obtain ⟨_, h1, h2, h3, h4, _⟩ := h
  omega
theorem kept_ex {l : Int} {ps : List (List Int)} (h : Pcs ps) (l0 : 0 ≤ l) (l1 : l ≤ 10 ^ 6) : ∃ p, IsP p ∧ Stay p l ps := by
  have bl : l.natAbs ≤ 10 ^ 6 := by omega
  have len := h.len
  have pl6 := prs_len len
  have key := some_free (l := ps.map pA ++ (prs ps ++ if 0 < l then 4 * l :: ps.map (qd l) else [])) (fun x hx => ?_) ?_ (fun x hx => ?_)
  · obtain ⟨p, hp, hf⟩ := key
    refine ⟨p, hp, fun k hk => hf _ (List.mem_append_left _ (List.mem_map.mpr ⟨_, get_mem hk, rfl⟩)), fun j k hj hk => hf _ (List.mem_append_right _ (List.mem_append_left _ (prs_mem hj hk))), fun h0 k hk => hf _ (List.mem_append_right _ (List.mem_append_right _ ?_)), ?_⟩
    · rw [if_pos h0]
      exact List.mem_cons_of_mem _ (List.mem_map.mpr ⟨_, get_mem hk, rfl⟩)
    · by_cases c : l = 0
      · exact .inl c
      · refine .inr (hf _ (List.mem_append_right _ (List.mem_append_right _ ?_)))
        rw [if_pos (by omega)]
        exact List.mem_cons_self
  · rcases List.mem_append.mp hx with q | q
    · obtain ⟨y, hy, rfl⟩ := List.mem_map.mp q
      have := (h.all y hy).lo
      omega
    · rcases List.mem_append.mp q with q | q
      · obtain ⟨u, hu, v, hv, ne, rfl⟩ := prs_from h.nd q
        exact rsl_ne (h.all u hu) (h.all v hv) ne
      · split at q
        · rename_i h0
          rcases List.mem_cons.mp q with q | q
          · omega
          · obtain ⟨y, hy, rfl⟩ := List.mem_map.mp q
            have a := (h.all y hy).lo
            have s1 : 0 < l * pA y * pA y := Int.mul_pos (Int.mul_pos h0 (by omega)) (by omega)
            have s2 : 0 ≤ pB y * pB y := by
              rcases Int.le_total 0 (pB y) with c | c
              · exact Int.mul_nonneg c c
              · exact Int.mul_nonneg_of_nonpos_of_nonpos c c
            unfold qd
            omega
        · cases q
  · rw [List.length_append, List.length_append, List.length_map]
    split
    · rw [List.length_cons, List.length_map]
      omega
    · rw [List.length_nil]
      omega
  · rcases List.mem_append.mp hx with q | q
    · obtain ⟨y, hy, rfl⟩ := List.mem_map.mp q
      exact Nat.le_trans (h.all y hy).ab.1 (by decide)
    · rcases List.mem_append.mp q with q | q
      · obtain ⟨u, hu, v, hv, ne, rfl⟩ := prs_from h.nd q
        have a := (h.all u hu).ab
        have b := (h.all v hv).ab
        have m1 := mul_b b.2 a.1
        have m2 := mul_b a.2 b.1
        unfold rsl
        generalize pB v * pA u = s at m1
        generalize pB u * pA v = t at m2
        omega
      · split at q
        · rcases List.mem_cons.mp q with q | q
          · omega
          · obtain ⟨y, hy, rfl⟩ := List.mem_map.mp q
            have a := (h.all y hy).ab
            have m1 := mul_b (mul_b bl a.1) a.1
            have m2 := mul_b a.2 a.2
            unfold qd
            generalize l * pA y * pA y = s at m1
            generalize pB y * pB y = t at m2
            omega
        · cases q
/-- what the search tells -/
theorem fnd_spec {q : Int → Bool} : ∀ {n : Nat} {k : Int}, (∃ i : Nat, i < n ∧ q (k + i) = true) → q (fnd q n k) = true ∧ k ≤ fnd q n k ∧ fnd q n k < k + n ∧ ∀ m, k ≤ m → m < fnd q n k → q m = false
  | 0, k, h => by
    obtain ⟨i, h, _⟩ := h
    exact absurd h (Nat.not_lt_zero _)
  | n + 1, k, h => by
    by_cases c : q k = true
    · have e : fnd q (n + 1) k = k := if_pos c
      rw [e]
      exact ⟨c, Int.le_refl _, by omega, fun m h1 h2 => by omega⟩
    · have e : fnd q (n + 1) k = fnd q n (k + 1) := if_neg c
      rw [e]
      obtain ⟨i, hi, e2⟩ := h
      have := fnd_spec (q := q) (n := n) (k := k + 1) (by
        cases i with
        | zero => exact absurd (by simpa using e2) c
        | succ i => exact ⟨i, by omega, by rw [show k + 1 + (i : Int) = k + ((i + 1 : Nat) : Int) by omega]; exact e2⟩)
      refine ⟨this.1, by omega, by omega, fun m h1 h2 => ?_⟩
      by_cases d : m = k
      · rw [d]
        simpa using c
      · exact this.2.2.2 m (by omega) h2

/-! ### the pieces that the script draws (for k67) -/
noncomputable def bareL (b a : Int) : List Int := [b / (Int.gcd b a : Int), a / (Int.gcd b a : Int)]
theorem bareL_ok {b a : Int} (h1 : 1 ≤ a) (h2 : a ≤ 10 ^ 6) (h3 : -10 ^ 6 ≤ b) (h4 : b ≤ 10 ^ 6) : Pc (bareL b a) := by
  have g1 : 0 < Int.gcd b a := Int.gcd_pos_of_ne_zero_right _ (by omega)
  have da : (Int.gcd b a : Int) ∣ a := Int.gcd_dvd_right ..
  have db : (Int.gcd b a : Int) ∣ b := Int.gcd_dvd_left ..
  have ea := Int.mul_ediv_cancel' da
  have eb := Int.mul_ediv_cancel' db
  have gg : Int.gcd (b / (Int.gcd b a : Int)) (a / (Int.gcd b a : Int)) = 1 := Int.gcd_ediv_gcd_ediv_gcd g1
  have abs : ∀ n q : Int, (Int.gcd b a : Int) * q = n → q.natAbs ≤ n.natAbs := fun n q e => by
    rw [← e, Int.natAbs_mul]
    exact Nat.le_mul_of_pos_left _ g1
  have xa := abs _ _ ea
  have xb := abs _ _ eb
  have pa : 0 < a / (Int.gcd b a : Int) := Int.ediv_pos_of_pos_of_dvd (by omega) (by omega) da
  refine ⟨rfl, ?_, ?_, ?_, ?_, gg⟩
  · show 1 ≤ a / (Int.gcd b a : Int)
    omega
  · show a / (Int.gcd b a : Int) ≤ 10 ^ 6
    omega
  · show -10 ^ 6 ≤ b / (Int.gcd b a : Int)
    omega
  · show b / (Int.gcd b a : Int) ≤ 10 ^ 6
    omega
noncomputable def pcA (c : Int) : List Int := bareL (c % 10 ^ 18 / 10 ^ 6 % (2 * 10 ^ 6) - 10 ^ 6) (1 + c % 10 ^ 18 % 10 ^ 6)
noncomputable def pcB (c : Int) : List Int := bareL (c % 10 ^ 18 % 19 - 9) (1 + c % 10 ^ 18 / 19 % 6)
noncomputable def pcOf (c : Int) : List Int := if c % 10 ^ 18 / 10 ^ 13 % 2 = 1 then pcB c else pcA c
noncomputable def pcStep (made : List (List Int)) (c : Int) : List (List Int) := if ¬ pcOf c ∈ made ∧ made.length < 4 then made ++ [pcOf c] else made
theorem pcOf_ok (c : Int) : Pc (pcOf c) := by
  unfold pcOf
  split
  · exact bareL_ok (by omega) (by omega) (by omega) (by omega)
  · exact bareL_ok (by omega) (by omega) (by omega) (by omega)
theorem pcStep_ok {made : List (List Int)} (h : Pcs made) (c : Int) : Pcs (pcStep made c) := by
  unfold pcStep
  split
  · rename_i q
    refine ⟨fun x hx => ?_, by rw [List.length_append, List.length_singleton]; omega, ?_⟩
    · rcases List.mem_append.mp hx with k | k
      · exact h.all x k
      · rw [List.mem_singleton.mp k]
        exact pcOf_ok c
    · refine List.nodup_append.mpr ⟨h.nd, List.pairwise_singleton .., fun a ha b hb e => ?_⟩
      rw [List.mem_singleton.mp hb] at e
      exact q.1 (e ▸ ha)
  · exact h
theorem pcF_ok : ∀ {cs : List Int} {made : List (List Int)}, Pcs made → Pcs (cs.foldl pcStep made)
  | [], _, h => h
  | c :: r, _, h => pcF_ok (cs := r) (pcStep_ok h c)
noncomputable def pcsF (cs : List Int) : List (List Int) := if cs.foldl pcStep [] = [] then [[0, 1]] else cs.foldl pcStep []
theorem pcs_nil : Pcs [] := ⟨(fun x hx => by cases hx), by decide, List.nodup_nil⟩
theorem pcsF_ok (cs : List Int) : Pcs (pcsF cs) := by
  unfold pcsF
  split
  · refine ⟨fun x hx => ?_, by decide, List.pairwise_singleton ..⟩
    rw [List.mem_singleton.mp hx]
    exact ⟨rfl, by decide, by decide, by decide, by decide, rfl⟩
  · exact pcF_ok pcs_nil


/-- are two lists of numbers alike -/
theorem kx_alike (T : Top K mg cNO cNP cK cW cR) : Ok P w K mg base 2 "_law_alike" ["_law_found", "_law_due"] (spFB K (GkT cW cR) (fun as => ∃ a b, as = [.ints a, .ints b] ∧ b.length ≤ 1000) fun as => match as with
    | [.ints a, .ints b] => decide (a = b)
    | _ => false) := by
  refine okF T.d_alike sc_alike (fun as ⟨a, b, h, _⟩ => by rw [h]; rfl) (fun f cdv A outer s H E hr => ⟨_, (xss_cons (xst_if (L2.PW.pt (xw_or (xt_not (xt_V (xe_isinst T.b_isinstance (xl 0) (xv_bltn (by rfl) T.b_list bt_list)))) (xw_or1 (xt_ne (xn_len 0 T.b_len) (xn_len 1 T.b_len)))))
 (xss_one (xst_ret xb_bl))
 xss_nil)
 (xss_cons (xst_forR (k := 2) PassesOwn.never rfl (by rfl) T.b_range (xn_len 1 T.b_len) sc_alike.nd rfl (Or.inl rfl)
 (xss_one (xst_if (L2.PW.pt (xw_or (xt_not (xt_V (xcb (kx_whole T) hr (xa_cons (xn_item 0 (xn 2) (fun _ _ => rfl)) xa_nil)))) (xw_or1 (xt_ne (xn_item 0 (xn 2) (fun _ _ => rfl)) (xn_item 1 (xn 2) (fun _ _ => rfl))))))
 (xss_one (xst_ret xb_bl))
 xss_nil)))
 (xss_one (xst_ret xb_bl)))), fun as hp => ?_⟩)
  obtain ⟨a, b, rfl, hb⟩ := hp
  have h1 : instP K (.ints a) (.ty "list") = true := instP_of rfl rfl T.i_list_list
  refine ⟨⟨⟨rfl, True.intro, _, _, _, rfl, rfl, T.i_list_list⟩, fun _ => ⟨.inl rfl, .inl rfl⟩⟩, fun q => ?_, fun q => ?_⟩
  · have q : ¬ instP K (.ints a) (.ty "list") = true ∨ ¬ (a.length : Int) = (b.length : Int) := q
    rw [h1] at q
    refine ⟨True.intro, ?_⟩
    show PV.bl false = PV.bl (decide (a = b))
    rw [decide_eq_false]
    intro z
    subst z
    rcases q with q | q
    · exact q rfl
    · exact q rfl
  · have q : ¬ (¬ instP K (.ints a) (.ty "list") = true ∨ ¬ (a.length : Int) = (b.length : Int)) := q
    have hl : a.length = b.length := by
      by_cases c : a.length = b.length
      · exact c
      · exact absurd (.inr (by omega)) q
    refine ⟨.inl rfl, ⟨by show -(2 : Int) ^ 62 ≤ (b.length : Int); omega, by show (b.length : Int) < 2 ^ 62; omega⟩, fun i ρ => (∃ v, ρ = [.fr (.ints a), .fr (.ints b), v]) ∧ ∀ j, j < i → a.getD j 0 = b.getD j 0, ⟨⟨_, rfl⟩, fun j h => by omega⟩, ?_, ?_⟩
    · rintro i ρ hi ⟨⟨v, rfl⟩, ih⟩
      have hi : i < (b.length : Int).toNat := hi
      have i1 : -(a.length : Int) ≤ (i : Int) := by omega
      have i2 : (i : Int) < (a.length : Int) := by omega
      have i3 : -(b.length : Int) ≤ (i : Int) := by omega
      have i4 : (i : Int) < (b.length : Int) := by omega
      have ea : ixO a.length (i : Int) = i := by unfold ixO; rw [if_pos (by omega)]; omega
      have eb : ixO b.length (i : Int) = i := by unfold ixO; rw [if_pos (by omega)]; omega
      refine ⟨⟨⟨⟨⟨.inl rfl, rfl, i1, i2⟩, True.intro⟩, ⟨_, rfl⟩⟩, fun _ => ⟨⟨.inl rfl, rfl, i1, i2⟩, ⟨.inl rfl, rfl, i3, i4⟩⟩⟩, fun q => ?_, fun q => ?_⟩
      · have q : ¬ true = true ∨ ¬ a.getD (ixO a.length (i : Int)) 0 = b.getD (ixO b.length (i : Int)) 0 := q
        rw [ea, eb] at q
        refine ⟨True.intro, ?_⟩
        show PV.bl false = PV.bl (decide (a = b))
        rw [decide_eq_false]
        intro z
        subst z
        rcases q with q | q
        · exact q rfl
        · exact q rfl
      · have q : ¬ (¬ true = true ∨ ¬ a.getD (ixO a.length (i : Int)) 0 = b.getD (ixO b.length (i : Int)) 0) := q
        rw [ea, eb] at q
        refine ⟨⟨_, rfl⟩, fun j hj => ?_⟩
        by_cases c : j = i
        · subst c
          by_cases d : a.getD j 0 = b.getD j 0
          · exact d
          · exact absurd (.inr d) q
        · exact ih j (by omega)
    · rintro ρ ⟨⟨v, rfl⟩, ih⟩
      refine ⟨True.intro, ?_⟩
      show PV.bl true = PV.bl (decide (a = b))
      rw [decide_eq_true]
      refine List.ext_getElem hl fun j h1 h2 => ?_
      have z := ih j (by show j < (b.length : Int).toNat; omega)
      rw [List.getD_eq_getElem?_getD, List.getD_eq_getElem?_getD, List.getElem?_eq_getElem h1, List.getElem?_eq_getElem h2] at z
      exact z

/-! ### the law's own words (k67) -/
noncomputable def headN (c : Int) : Int := ((c % 10 ^ 9) * (c % 10 ^ 9) + 40503) * 1103515245982451653 % (10 ^ 18 + 9)
theorem headN_nn (c : Int) : 0 ≤ headN c := by unfold headN; exact Int.emod_nonneg _ (by decide)
theorem kx_head (T : Top K mg cNO cNP cK cW cR) : Ok P w K mg base 2 "_law_head" ["_law_script"] (spFI K (GkT cW cR) (fun as => ∃ ns, as = [.scr ns]) fun as => match as with
    | [.scr ns] => headN (ns.getD 0 0)
    | _ => 0) := by
  refine okF T.d_head sc_head (fun as ⟨a, h⟩ => by rw [h]; rfl) (fun f cdv A outer s H E hr => ⟨_, (xss_cons (xst_setI (i := 1) sc_head.nd rfl (Or.inl rfl) (xn_mod (xci (kx_cell_at T) hr (xa_cons (xr 0) (xa_cons xn_int xa_nil))) (xn_pow xn_int xn_int)))
 (xss_one (xst_ret (xn_mod (xn_mul (xn_add (xn_mul (xn 1) (xn 1)) xn_int) xn_int) (xn_add (xn_pow xn_int xn_int) xn_int))))), fun as hp => ?_⟩)
  obtain ⟨ns, rfl⟩ := hp
  refine ⟨⟨⟨⟨rfl, True.intro, True.intro⟩, True.intro, rfl, by show (0 : Int) ≤ 0; decide⟩, by walk_at "xs", by show (0 : Int) < 10 ^ 9; decide⟩, fun n e => ?_⟩
  have e : n = ns.getD 0 0 % 10 ^ 9 := e
  have n0 : 0 ≤ n ∧ n < 10 ^ 9 := by rw [e]; exact ⟨Int.emod_nonneg _ (by decide), Int.emod_lt_of_pos _ (by decide)⟩
  refine ⟨⟨⟨⟨⟨rfl, rfl, mul_okR ⟨by show -(2 : Int) ^ 64 < n; omega, by show n < (2 : Int) ^ 64; omega⟩⟩, True.intro⟩, True.intro, mul_okR (by decide)⟩, by walk_at "xs", by show (0 : Int) < 10 ^ 18 + 9; decide⟩, ?_⟩
  show PV.int ((n * n + 40503) * 1103515245982451653 % (10 ^ 18 + 9)) = PV.int (headN (ns.getD 0 0))
  unfold headN
  rw [← e]
theorem kx_trim (T : Top K mg cNO cNP cK cW cR) : Ok P w K mg base 2 "_law_trim" ["_law_row", "_law_size"] (spL K (GkT cW cR) (fun as => ∃ f, as = [.ints f, .int 0] ∧ f.length ≤ 1000) fun as => match as with
    | [.ints f, .int _] => trimZ f
    | _ => []) := by
  refine okL T.d_trim sc_trim (fun as ⟨a, h, _⟩ => by rw [h]; rfl) (fun f cdv A outer s H E hr => ⟨_, (xss_cons (xst_lcQ (i := 0) sc_trim.nd rfl rfl (N' := ["_law_number"]) (cap := []) (lc_ok rfl rfl rfl rfl True.intro True.intro rfl) rfl (rlO 0) (fun _ _ _ => (pg_name (i := 0) (show (["_law_number"] : List Str).Nodup by decide +kernel) rfl (Or.inl rfl) (.inr rfl))) (fun _ _ _ => (xn 0)) rfl)
 (xss_join (xst_if (xt_gt (xn 1) xn_int)
 (xss_one (xst_lcQ (i := 0) sc_trim.nd rfl rfl (N' := ["_law_number", "_law_size"]) (cap := [some 1]) (lc_ok rfl rfl rfl rfl ⟨⟨rfl, Or.inr (Or.inl rfl), (fun z => nomatch (show (some NameKind.cell : Option NameKind) = some NameKind.local from z)), Or.inl rfl, _, rfl, rfl⟩, True.intro⟩ ⟨rfl, True.intro⟩ rfl) rfl (rlO 0) (fun _ _ _ => (pg_name (i := 0) (show (["_law_number", "_law_size"] : List Str).Nodup by decide +kernel) rfl (Or.inl rfl) (.inr rfl))) (fun _ _ _ => (xn_mod (xn 0) (xn 1))) rfl))
 xss_nil)
 (xss_cons (xst_while PassesOwn.never (L2.PW.pt (xw_and (xt_gt (xn_len 0 T.b_len) xn_int) (xw_and1 (xt_eq (xn_item 0 (xn_neg xn_int) (fun _ _ => rfl)) xn_int))))
 (xss_one (xst_pop 0)))
 (xss_one (xst_retO 0))))), fun as hp => ?_⟩)
  obtain ⟨f, rfl, hf⟩ := hp
  refine ⟨⟨.inl rfl, hf, fun n _ => rfl⟩, fun ns e => ?_⟩
  have e : ns = f.map fun n => n := e
  rw [List.map_id'] at e
  refine ⟨fun ρ => ρ = [.ow (.ints ns), .fr (.int 0)], ⟨⟨rfl, True.intro⟩, fun q => ?_, fun _ => rfl⟩, ?_⟩
  · have q : (0 : Int) < 0 := q
    exact absurd q (by decide)
  rintro ρ rfl
  refine ⟨fun ρ => ∃ ms, ρ = [.ow (.ints ms), .fr (.int 0)] ∧ trimZ ms = trimZ ns, fun ρ => (getL ρ 0).length, ⟨ns, rfl, rfl⟩, ?_⟩
  rintro ρ ⟨ms, rfl, hm⟩
  refine ⟨⟨⟨.inr (.inl rfl), True.intro⟩, fun h => ⟨⟨.inr (.inl rfl), True.intro, ?_, ?_⟩, True.intro⟩⟩, fun q => ?_, fun q => ?_⟩
  · have h : 0 < (ms.length : Int) := h
    show -(ms.length : Int) ≤ -1
    omega
  · show (-1 : Int) < (ms.length : Int)
    omega
  · have q : 0 < (ms.length : Int) ∧ ms.getD (ixO ms.length (-1)) 0 = 0 := q
    have hne : ms ≠ [] := List.length_pos_iff.mp (by omega)
    rw [last_at ms hne] at q
    refine ⟨rfl, hne, ⟨_, rfl, ?_⟩, ?_⟩
    · rw [← hm]; exact trimZ_step hne q.2
    · show ms.dropLast.length < ms.length
      rw [List.length_dropLast]
      omega
  · have q : ¬ (0 < (ms.length : Int) ∧ ms.getD (ixO ms.length (-1)) 0 = 0) := q
    refine ⟨rfl, ?_⟩
    show ms = trimZ f
    rw [← e, ← hm, trimZ_done]
    rintro ⟨a, b⟩
    have := List.length_pos_iff.mpr a
    exact q ⟨by omega, by rw [last_at ms a]; exact b⟩
theorem kx_times (T : Top K mg cNO cNP cK cW cR) : Ok P w K mg base 3 "_law_times" ["_law_f", "_law_g", "_law_size"] (spL K (GkT cW cR) (fun as => ∃ f g, as = [.ints f, .ints g, .int 0] ∧ f.length + g.length ≤ 1000 ∧ Bd f ∧ Bd g) fun as => match as with
    | [.ints f, .ints g, .int _] => mu f g
    | _ => []) := by
  refine okL T.d_times sc_times (fun as ⟨a, b, h, _⟩ => by rw [h]; rfl) (fun f cdv A outer s H E hr => ⟨_, (xss_cons (xst_own (i := 3) sc_times.nd rfl (Or.inl rfl) (xl_rep (xl_lst (xa_cons xn_int xa_nil)) (xn_add (xn_len 0 T.b_len) (xn_len 1 T.b_len)) (fun _ => rfl)))
 (xss_cons (xst_forR (k := 4) PassesOwn.never rfl (by rfl) T.b_range (xn_len 0 T.b_len) sc_times.nd rfl (Or.inl rfl)
 (xss_one (xst_forR (k := 5) PassesOwn.never rfl (by rfl) T.b_range (xn_len 1 T.b_len) sc_times.nd rfl (Or.inl rfl)
 (xss_one (xst_setit 3 (xn_add (xn 4) (xn 5)) (xn_add (xn_item 3 (xn_add (xn 4) (xn 5)) (fun _ _ => rfl)) (xn_mul (xn_item 0 (xn 4) (fun _ _ => rfl)) (xn_item 1 (xn 5) (fun _ _ => rfl)))))))))
 (xss_freeze 3 (xss_one (xst_retl (xcl (kx_trim T) hr (xa_cons (xl 3) (xa_cons (xn 2) xa_nil)))))))), fun as hp => ?_⟩)
  obtain ⟨f, g, rfl, hl, hf, hg⟩ := hp
  have en : ((f.length : Int) + (g.length : Int)).toNat = f.length + g.length := by omega
  refine ⟨⟨⟨⟨True.intro, True.intro⟩, True.intro⟩, ⟨.inl rfl, .inl rfl⟩, ?_, ?_⟩, fun r0 er0 => ?_⟩
  · show -(2 : Int) ^ 63 ≤ (f.length : Int) + (g.length : Int)
    omega
  · show ((f.length : Int) + (g.length : Int)).toNat ≤ 1000
    omega
  have er0 : r0 = List.replicate (f.length + g.length) 0 := by rw [← en]; exact er0
  refine ⟨.inl rfl, ⟨by show -(2 : Int) ^ 62 ≤ (f.length : Int); omega, by show (f.length : Int) < 2 ^ 62; omega⟩, fun i ρ => ∃ row v1 v2, ρ = [.fr (.ints f), .fr (.ints g), .fr (.int 0), .ow (.ints row), v1, v2] ∧ RowAt f g i 0 row, ⟨r0, .un, .un, rfl, by rw [er0]; exact row_start f g⟩, ?_, ?_⟩
  · rintro i ρ hi ⟨row, v1, v2, rfl, hr⟩
    have hi : i < f.length := by have hi : i < (f.length : Int).toNat := hi; omega
    refine ⟨.inl rfl, ⟨by show -(2 : Int) ^ 62 ≤ (g.length : Int); omega, by show (g.length : Int) < 2 ^ 62; omega⟩, fun j ρ => ∃ row v2, ρ = [.fr (.ints f), .fr (.ints g), .fr (.int 0), .ow (.ints row), .fr (.int i), v2] ∧ RowAt f g i j row, ⟨row, v2, rfl, hr⟩, ?_, ?_⟩
    · rintro j ρ hj ⟨row, v2, rfl, hr⟩
      have hj : j < g.length := by have hj : j < (g.length : Int).toNat := hj; omega
      have l1 : -(row.length : Int) ≤ (i : Int) + (j : Int) := by omega
      have l2 : (i : Int) + (j : Int) < (row.length : Int) := by have := hr.1; omega
      have ix : ixO row.length ((i : Int) + (j : Int)) = i + j := by unfold ixO; rw [if_pos (by omega)]; omega
      have xi : ixO f.length (i : Int) = i := by unfold ixO; rw [if_pos (by omega)]; omega
      have xj : ixO g.length (j : Int) = j := by unfold ixO; rw [if_pos (by omega)]; omega
      have mi : f.getD i 0 ∈ f := FM.getD_mem hi
      have mj : g.getD j 0 ∈ g := FM.getD_mem hj
      refine ⟨⟨⟨.inr (.inl rfl), ⟨rfl, rfl⟩, l1, l2⟩, ⟨.inl rfl, rfl, by show -(f.length : Int) ≤ (i : Int); omega, by show (i : Int) < (f.length : Int); omega⟩, ⟨.inl rfl, rfl, by show -(g.length : Int) ≤ (j : Int); omega, by show (j : Int) < (g.length : Int); omega⟩, ?_⟩, rfl, ⟨rfl, rfl⟩, ⟨l1, l2⟩, row.set (i + j) (row.getD (i + j) 0 + f.getD i 0 * g.getD j 0), .fr (.int j), ?_, row_step hr hi hj⟩
      · show IntMulOk (f.getD (ixO f.length (i : Int)) 0) (g.getD (ixO g.length (j : Int)) 0)
        rw [xi, xj]
        exact mul_ok (n := 9000) (m := 9000) (hf _ mi) (hg _ mj)
      · show [Sl.fr (.ints f), .fr (.ints g), .fr (.int 0), .ow (.ints (row.set (ixO row.length ((i : Int) + (j : Int))) (row.getD (ixO row.length ((i : Int) + (j : Int))) 0 + f.getD (ixO f.length (i : Int)) 0 * g.getD (ixO g.length (j : Int)) 0))), .fr (.int i), .fr (.int j)] = _
        rw [ix, xi, xj]
    · rintro ρ ⟨row, v2, rfl, hr⟩
      have e : (g.length : Int).toNat = g.length := by omega
      have hr : RowAt f g i (g.length : Int).toNat row := hr
      rw [e] at hr
      exact ⟨row, _, v2, rfl, row_next hr⟩
  · rintro ρ ⟨row, v1, v2, rfl, hr⟩
    have e : (f.length : Int).toNat = f.length := by omega
    have hr : RowAt f g (f.length : Int).toNat 0 row := hr
    rw [e] at hr
    have er := row_end hr
    refine ⟨⟨⟨rfl, rfl, True.intro⟩, row, rfl, ?_⟩, ?_⟩
    · rw [hr.1]; omega
    · show trimZ row = _
      rw [er]
      rfl
theorem kx_divisor (T : Top K mg cNO cNP cK cW cR) : Ok P w K mg base 1 "_law_divisor" ["_law_one", "_law_other"] (spFI K (GkT cW cR) (fun as => ∃ a b, as = [.int a, .int b]) fun as => match as with
    | [.int a, .int b] => (Int.gcd a b : Int)
    | _ => 0) := by
  refine okF T.d_divisor sc_divisor (fun as ⟨a, b, h⟩ => by rw [h]; rfl) (fun f cdv A outer s H E hr => ⟨_, (xss_cons (xst_setI (i := 0) sc_divisor.nd rfl (Or.inl rfl) (xn_abs T.b_abs (xn 0)))
 (xss_cons (xst_setI (i := 1) sc_divisor.nd rfl (Or.inl rfl) (xn_abs T.b_abs (xn 1)))
 (xss_cons (xst_while PassesOwn.never (xt_gt (xn 1) xn_int)
 (xss_cons (xst_setI (i := 2) sc_divisor.nd rfl (Or.inl rfl) (xn_mod (xn 0) (xn 1)))
 (xss_cons (xst_setI (i := 0) sc_divisor.nd rfl (Or.inl rfl) (xn 1))
 (xss_one (xst_setI (i := 1) sc_divisor.nd rfl (Or.inl rfl) (xn 2))))))
 (xss_one (xst_ret (xn 0)))))), fun as hp => ?_⟩)
  obtain ⟨a, b, rfl⟩ := hp
  refine ⟨rfl, fun u eu => ⟨rfl, fun v ev => ?_⟩⟩
  have eu : u = if a < 0 then -a else a := eu
  have ev : v = if b < 0 then -b else b := ev
  have u0 : u = (a.natAbs : Int) := by rw [eu]; split <;> omega
  have v0 : v = (b.natAbs : Int) := by rw [ev]; split <;> omega
  refine ⟨fun ρ => ∃ x y w, ρ = [.fr (.int x), .fr (.int y), w] ∧ 0 ≤ x ∧ 0 ≤ y ∧ Int.gcd x y = Int.gcd a b, fun ρ => (getI ρ 1).toNat, ⟨u, v, .un, rfl, by omega, by omega, by rw [u0, v0]; rfl⟩, ?_⟩
  rintro ρ ⟨x, y, w, rfl, hx, hy, hg⟩
  refine ⟨⟨rfl, True.intro⟩, fun q => ?_, fun q => ?_⟩
  · have q : 0 < y := q
    refine ⟨⟨rfl, rfl, q⟩, fun m em => ⟨rfl, fun x' ex => ⟨rfl, fun y' ey => ?_⟩⟩⟩
    have em : m = x % y := em
    have ex : x' = y := ex
    have ey : y' = m := ey
    subst ex ey
    have h1 := Int.emod_nonneg x (show x' ≠ 0 by omega)
    have h2 := Int.emod_lt_of_pos x (show 0 < x' by omega)
    refine ⟨⟨x', y', _, rfl, hy, by omega, by rw [em, gcd_mod x x']; exact hg⟩, ?_⟩
    show y'.toNat < x'.toNat
    omega
  · have q : ¬ 0 < y := q
    have q : y = 0 := by omega
    refine ⟨rfl, ?_⟩
    show PV.int x = PV.int (Int.gcd a b : Int)
    rw [← hg, q, Int.gcd_zero_right]
    congr 1
    omega
noncomputable def gcdF (c : Int) (w : List Int) : Int := w.foldl (fun c n => (Int.gcd c n : Int)) c
theorem gcdF_app (c : Int) (a b : List Int) : gcdF c (a ++ b) = gcdF (gcdF c a) b := by unfold gcdF; rw [List.foldl_append]
theorem gcdF_two (b a : Int) : gcdF 0 [b, a] = (Int.gcd b a : Int) := by
  show ((Int.gcd (Int.gcd 0 b : Int) a : Nat) : Int) = _
  rw [Int.gcd_zero_left]
  rfl
theorem kx_content (T : Top K mg cNO cNP cK cW cR) : Ok P w K mg base 2 "_law_content" ["_law_f"] (spFI K (GkT cW cR) (fun as => ∃ b a, as = [.ints [b, a]] ∧ 0 < a) fun as => match as with
    | [.ints [b, a]] => (Int.gcd b a : Int)
    | _ => 0) := by
  refine okF T.d_content sc_content (fun as ⟨a, b, h, _⟩ => by rw [h]; rfl) (fun f cdv A outer s H E hr => ⟨_, (xss_cons (xst_setI (i := 1) sc_content.nd rfl (Or.inl rfl) xn_int)
 (xss_cons (xst_forL (k := 2) PassesOwn.never rfl (xl 0) sc_content.nd rfl (Or.inl rfl)
 (xss_one (xst_setI (i := 1) sc_content.nd rfl (Or.inl rfl) (xci (kx_divisor T) hr (xa_cons (xn 1) (xa_cons (xn 2) xa_nil))))))
 (xss_cons (xst_if (L2.PW.pt (xw_and (xt_gt (xn_len 0 T.b_len) xn_int) (xw_and1 (xt_lt (xn_item 0 (xn_neg xn_int) (fun _ _ => rfl)) xn_int))))
 (xss_one (xst_ret (xn_neg (xn 1))))
 xss_nil)
 (xss_one (xst_ret (xn 1)))))), fun as hp => ?_⟩)
  obtain ⟨b, a, rfl, ha⟩ := hp
  refine ⟨True.intro, fun c0 ec0 => ?_⟩
  have ec0 : c0 = 0 := ec0
  refine ⟨rfl, fun i ρ => ∃ v, ρ = [.fr (.ints [b, a]), .fr (.int (gcdF 0 (([b, a] : List Int).take i))), v], ⟨.un, by rw [ec0]; rfl⟩, ?_, ?_⟩
  · rintro i n ρ hn ⟨v, rfl⟩
    have hn : ([b, a] : List Int)[i]? = some n := hn
    refine ⟨⟨⟨rfl, rfl, True.intro⟩, _, _, rfl⟩, fun c ec => ?_⟩
    have ec : c = (Int.gcd (gcdF 0 (([b, a] : List Int).take i)) n : Int) := ec
    have e2 : gcdF 0 (([b, a] : List Int).take (i + 1)) = c := by rw [take_at hn, gcdF_app, ec]; rfl
    rw [← e2]
    exact ⟨_, rfl⟩
  rintro ρ ⟨v, rfl⟩
  refine ⟨⟨⟨.inl rfl, True.intro⟩, fun _ => ⟨⟨.inl rfl, True.intro, by show -(2 : Int) ≤ -1; decide, by show (-1 : Int) < 2; decide⟩, True.intro⟩⟩, fun q => ?_, fun q => ?_⟩
  · have q : (0 : Int) < 2 ∧ a < 0 := q
    omega
  · refine ⟨rfl, ?_⟩
    show PV.int (gcdF 0 [b, a]) = PV.int (Int.gcd b a : Int)
    rw [gcdF_two]
theorem kx_bare (T : Top K mg cNO cNP cK cW cR) : Ok P w K mg base 3 "_law_bare" ["_law_f"] (spL K (GkT cW cR) (fun as => ∃ b a, as = [.ints [b, a]] ∧ 0 < a ∧ a ≤ 10 ^ 9) fun as => match as with
    | [.ints [b, a]] => bareL b a
    | _ => []) := by
  refine okL T.d_bare sc_bare (fun as ⟨a, b, h, _⟩ => by rw [h]; rfl) (fun f cdv A outer s H E hr => ⟨_, (xss_cons (xst_setI (i := 1) sc_bare.nd rfl (Or.inr rfl) (xci (kx_content T) hr (xa_cons (xl 0) xa_nil)))
 (xss_one (xst_retl (xl_lcL (N' := ["_law_number", "_law_content_here"]) (cap := [some 1]) (lc_ok rfl rfl rfl rfl ⟨⟨rfl, Or.inr (Or.inl rfl), (fun z => nomatch (show (some NameKind.cell : Option NameKind) = some NameKind.local from z)), Or.inl rfl, _, rfl, rfl⟩, True.intro⟩ ⟨rfl, True.intro⟩ rfl) rfl (xl 0) (fun _ _ _ => (pg_name (i := 0) (show (["_law_number", "_law_content_here"] : List Str).Nodup by decide +kernel) rfl (Or.inl rfl) (.inr rfl))) (fun _ _ _ => (xn_div (xn 0) (xn 1))))))), fun as hp => ?_⟩)
  obtain ⟨b, a, rfl, ha, ha2⟩ := hp
  refine ⟨⟨⟨rfl, True.intro⟩, b, a, rfl, ha⟩, fun c ec => ?_⟩
  have ec : c = (Int.gcd b a : Int) := ec
  have c1 : 0 < c := by
    have := Int.gcd_pos_of_ne_zero_right b (show a ≠ 0 by omega)
    omega
  have c2 : c ≤ 10 ^ 9 := by
    have := Int.le_of_dvd ha (show (Int.gcd b a : Int) ∣ a from Int.gcd_dvd_right ..)
    omega
  have c3 : c.natAbs.log2 < 9000 := by
    have : c.natAbs.log2 < 40 := (Nat.log2_lt (by omega)).mpr (by omega)
    omega
  refine ⟨⟨rfl, by show 2 ≤ 1000; decide, fun n _ => ⟨rfl, rfl, c1, c3⟩⟩, ?_⟩
  show [b / c, a / c] = bareL b a
  rw [ec]
  rfl
theorem kx_law_is_prime (T : Top K mg cNO cNP cK cW cR) : Ok P w K mg base 1 "_law_is_prime" ["_law_number"] (spFB K (GkT cW cR) (fun as => ∃ n, as = [.int n] ∧ 2 ≤ n ∧ n ≤ 9973) fun as => match as with
    | [.int n] => isP n
    | _ => false) := by
  refine okF T.d_law_is_prime sc_law_is_prime (fun as ⟨a, h, _⟩ => by rw [h]; rfl) (fun f cdv A outer s H E hr => ⟨_, (xss_cons (xst_setI (i := 1) sc_law_is_prime.nd rfl (Or.inl rfl) xn_int)
 (xss_cons (xst_while PassesOwn.never (xt_le (xn_mul (xn 1) (xn 1)) (xn 0))
 (xss_cons (xst_if (xt_eq (xn_mod (xn 0) (xn 1)) xn_int)
 (xss_one (xst_ret xb_bl))
 xss_nil)
 (xss_one (xst_setI (i := 1) sc_law_is_prime.nd rfl (Or.inl rfl) (xn_add (xn 1) xn_int)))))
 (xss_one (xst_ret (xe_gt (xn 0) xn_int))))), fun as hp => ?_⟩)
  obtain ⟨n, rfl, h1, h2⟩ := hp
  refine ⟨True.intro, fun d0 e0 => ?_⟩
  have e0 : d0 = 2 := e0
  subst e0
  refine ⟨fun ρ => ∃ d, ρ = [.fr (.int n), .fr (.int d)] ∧ 2 ≤ d ∧ d ≤ 10000 ∧ Clean n d, fun ρ => (10001 - getI ρ 1).toNat, ⟨2, rfl, by omega, by omega, fun e h1 h2 => by omega⟩, ?_⟩
  rintro ρ ⟨d, rfl, g2, g3, cl⟩
  refine ⟨⟨⟨rfl, rfl, mul_okR ⟨?_, ?_⟩⟩, rfl⟩, fun c => ?_, fun c => ?_⟩
  · show -(2 : Int) ^ 64 < d
    omega
  · show d < (2 : Int) ^ 64
    omega
  · have c : d * d ≤ n := c
    have := sq_ge g2
    refine ⟨⟨⟨rfl, rfl, by show (0 : Int) < d; omega⟩, True.intro⟩, fun hit => ?_, fun hit => ?_⟩
    · have hit : n % d = 0 := hit
      refine ⟨True.intro, ?_⟩
      show PV.bl false = PV.bl (isP n)
      rw [isP_false (fun q => q.2.2 d g2 c hit)]
    · have hit : ¬ n % d = 0 := hit
      refine ⟨⟨rfl, True.intro⟩, fun m e => ?_⟩
      have e : m = d + 1 := e
      subst e
      exact ⟨⟨d + 1, rfl, by omega, by omega, cl.next hit⟩, by show (10001 - (d + 1)).toNat < (10001 - d).toNat; omega⟩
  · have c : ¬ d * d ≤ n := c
    refine ⟨⟨rfl, True.intro⟩, ?_⟩
    show PV.bl (decide (1 < n)) = PV.bl (isP n)
    rw [isP_true (.out cl g2 (by omega) (by omega) c), decide_eq_true (by omega)]
/-- the pieces -/
theorem kx_pieces (T : Top K mg cNO cNP cK cW cR) : Ok P w K mg base 4 "_law_pieces" ["_law_script"] (spF K (GkT cW cR) (fun as => ∃ ns, as = [.scr ns] ∧ ns.length ≤ 63) fun as => match as with
    | [.scr ns] => tabP (pcsF (cutI ns (some 1) (some 63)))
    | _ => .non) := by
  refine okF T.d_pieces sc_pieces (fun as ⟨a, h, _⟩ => by rw [h]; rfl) (fun f cdv A outer s H E hr => ⟨_, (xss_cons (xst_ownP (i := 1) sc_pieces.nd rfl (Or.inl rfl) (xp_lst xa_nil))
 (xss_cons (xst_forL (k := 2) PassesOwn.never rfl (newL (xl_slice (xr 0) (xo_some xn_int) (xo_some xn_int) (fun _ _ => .inr rfl))) sc_pieces.nd rfl (Or.inl rfl)
 (xss_cons (xst_setI (i := 3) sc_pieces.nd rfl (Or.inl rfl) (xn_mod (xn 2) (xn_pow xn_int xn_int)))
 (xss_cons (xst_setL (i := 4) sc_pieces.nd rfl (Or.inl rfl) (newL (xcl (kx_bare T) hr (xa_cons (newL (xl_lst (xa_cons (xn_sub (xn_mod (xn_div (xn 3) (xn_pow xn_int xn_int)) (xn_mul xn_int (xn_pow xn_int xn_int))) (xn_pow xn_int xn_int)) (xa_cons (xn_add xn_int (xn_mod (xn 3) (xn_pow xn_int xn_int))) xa_nil)))) xa_nil))))
 (xss_join (xst_if (xt_eq (xn_mod (xn_div (xn 3) (xn_pow xn_int xn_int)) xn_int) xn_int)
 (xss_one (xst_setL (i := 4) sc_pieces.nd rfl (Or.inl rfl) (newL (xcl (kx_bare T) hr (xa_cons (newL (xl_lst (xa_cons (xn_sub (xn_mod (xn 3) xn_int) xn_int) (xa_cons (xn_add xn_int (xn_mod (xn_div (xn 3) xn_int) xn_int)) xa_nil)))) xa_nil)))))
 xss_nil)
 (xss_one (xst_if (L2.PW.pt (xw_and (xt_nin hr.units (rdX (xl 4)) (rdOP 1)) (xw_and1 (xt_lt (xn_lenO 1 T.b_len) xn_int))))
 (xss_one (xst_appP 1 (xl 4)))
 xss_nil))))))
 (xss_cons (xst_if (xt_eq (xn_lenO 1 T.b_len) xn_int)
 (xss_one (xst_ret (newP (xp_lst (xa_cons (newL (xl_lst (xa_cons xn_int (xa_cons xn_int xa_nil)))) xa_nil)))))
 xss_nil)
 (xss_freeze 1 (xss_one (xst_ret (xv 1))))))), fun as hp => ?_⟩)
  obtain ⟨ns, rfl, h63⟩ := hp
  refine ⟨True.intro, fun l0 el0 => ?_⟩
  have el0 : l0 = [] := el0
  refine to_lit (ρ' := [.fr (.scr ns), .ow (.lst l0), .un, .un, .un]) rfl ?_
  refine ⟨⟨rfl, True.intro, True.intro⟩, fun i ρ => ∃ v2 v3 v4, ρ = [.fr (.scr ns), .ow (tabP (((cutI ns (some 1) (some 63)).take i).foldl pcStep [])), v2, v3, v4], ⟨.un, .un, .un, by rw [el0]; rfl⟩, ?_, ?_⟩
  · rintro i n ρ hn ⟨v2, v3, v4, rfl⟩
    have hn : (cutI ns (some 1) (some 63))[i]? = some n := hn
    have enx : ((cutI ns (some 1) (some 63)).take (i + 1)).foldl pcStep [] = pcStep (((cutI ns (some 1) (some 63)).take i).foldl pcStep []) n := by rw [take_at hn, List.foldl_append]; rfl
    have pk := pcF_ok (cs := (cutI ns (some 1) (some 63)).take i) pcs_nil
    obtain ⟨made, hmd⟩ : ∃ made, made = ((cutI ns (some 1) (some 63)).take i).foldl pcStep [] := ⟨_, rfl⟩
    rw [← hmd] at pk enx ⊢
    refine ⟨⟨rfl, by walk_at "xs", by show (0 : Int) < 10 ^ 18; decide⟩, fun m em => ?_⟩
    have em : m = n % 10 ^ 18 := em
    refine to_lit (ρ' := [.fr (.scr ns), .ow (tabP made), .fr (.int n), .fr (.int m), v4]) rfl ?_
    have a1 := Int.emod_nonneg m (show (10 ^ 6 : Int) ≠ 0 by decide)
    have a2 := Int.emod_lt_of_pos m (show (0 : Int) < 10 ^ 6 by decide)
    refine ⟨⟨⟨⟨⟨by walk_at "xs", by walk_at "xs", True.intro⟩, True.intro⟩, True.intro⟩, m / 10 ^ 6 % (2 * 10 ^ 6) - 10 ^ 6, 1 + m % 10 ^ 6, rfl, by omega, by omega⟩, fun x ex => ?_⟩
    have ex : x = pcA n := by
      have ex : x = bareL (m / 10 ^ 6 % (2 * 10 ^ 6) - 10 ^ 6) (1 + m % 10 ^ 6) := ex
      rw [ex, em]
      rfl
    refine to_lit (ρ' := [.fr (.scr ns), .ow (tabP made), .fr (.int n), .fr (.int m), .fr (.ints x)]) rfl ?_
    refine ⟨fun ρ => ρ = [.fr (.scr ns), .ow (tabP made), .fr (.int n), .fr (.int m), .fr (.ints (pcOf n))], ⟨by walk_at "xs", fun q => ?_, fun q => ?_⟩, ?_⟩
    · have q : m / 10 ^ 13 % 2 = 1 := q
      have b1 := Int.emod_nonneg (m / 19) (show (6 : Int) ≠ 0 by decide)
      have b2 := Int.emod_lt_of_pos (m / 19) (show (0 : Int) < 6 by decide)
      refine ⟨⟨⟨⟨⟨by walk_at "xs", by walk_at "xs", True.intro⟩, True.intro⟩, True.intro⟩, m % 19 - 9, 1 + m / 19 % 6, rfl, by omega, by omega⟩, fun y ey => ?_⟩
      have ey : y = pcOf n := by
        have ey : y = bareL (m % 19 - 9) (1 + m / 19 % 6) := ey
        unfold pcOf
        rw [ey, ← em, if_pos q]
        unfold pcB
        rw [← em]
      rw [← ey]
      rfl
    · have q : ¬ m / 10 ^ 13 % 2 = 1 := q
      have e : pcOf n = x := by
        unfold pcOf
        rw [← em, if_neg q, ex]
      rw [e]
    rintro ρ rfl
    have rI : rowsI (made.map PV.ints) = made := rowsI_map made
    refine ⟨⟨⟨rfl, rfl, by show made.map PV.ints = (rowsI (made.map PV.ints)).map PV.ints; rw [rI]⟩, fun _ => ⟨rfl, True.intro⟩⟩, fun q => ?_, fun q => ?_⟩
    · have q : ¬ pcOf n ∈ rowsI (made.map PV.ints) ∧ ((made.map PV.ints).length : Int) < 4 := q
      rw [rI, List.length_map] at q
      have q2 : ¬ pcOf n ∈ made ∧ made.length < 4 := ⟨q.1, by omega⟩
      refine ⟨rfl, rfl, ?_, .fr (.int n), .fr (.int m), .fr (.ints (pcOf n)), ?_⟩
      · show (made.map PV.ints).length < sizeLine
        rw [List.length_map]
        exact small1000 (by omega)
      · rw [enx]
        unfold pcStep
        rw [if_pos q2]
        unfold tabP
        rw [List.map_append]
        rfl
    · have q : ¬ (¬ pcOf n ∈ rowsI (made.map PV.ints) ∧ ((made.map PV.ints).length : Int) < 4) := q
      rw [rI, List.length_map] at q
      have q2 : ¬ (¬ pcOf n ∈ made ∧ made.length < 4) := fun z => q ⟨z.1, by omega⟩
      refine ⟨.fr (.int n), .fr (.int m), .fr (.ints (pcOf n)), ?_⟩
      rw [enx]
      unfold pcStep
      rw [if_neg q2]
  rintro ρ ⟨v2, v3, v4, rfl⟩
  have ec : (cutI ns (some 1) (some 63)).take (cutI ns (some 1) (some 63)).length = cutI ns (some 1) (some 63) := List.take_length
  refine to_lit (ρ' := [.fr (.scr ns), .ow (tabP ((cutI ns (some 1) (some 63)).foldl pcStep [])), v2, v3, v4]) (by
    show [Sl.fr (.scr ns), .ow (tabP (((cutI ns (some 1) (some 63)).take (cutI ns (some 1) (some 63)).length).foldl pcStep [])), v2, v3, v4] = _
    rw [ec]) ?_
  clear ec
  have ep : pcsF (cutI ns (some 1) (some 63)) = if (cutI ns (some 1) (some 63)).foldl pcStep [] = [] then [[0, 1]] else (cutI ns (some 1) (some 63)).foldl pcStep [] := rfl
  obtain ⟨made, hm⟩ : ∃ made, made = (cutI ns (some 1) (some 63)).foldl pcStep [] := ⟨_, rfl⟩
  rw [← hm] at ep ⊢
  refine ⟨⟨rfl, True.intro⟩, fun q => ?_, fun q => ?_⟩
  · have q : ((made.map PV.ints).length : Int) = 0 := q
    rw [List.length_map] at q
    have e : made = [] := List.eq_nil_of_length_eq_zero (by omega)
    refine ⟨⟨⟨⟨True.intro, True.intro, True.intro⟩, True.intro⟩, True.intro⟩, ?_⟩
    show PV.lst [.ints [0, 1]] = tabP (pcsF (cutI ns (some 1) (some 63)))
    rw [ep, if_pos e]
    rfl
  · have q : ¬ ((made.map PV.ints).length : Int) = 0 := q
    rw [List.length_map] at q
    have e : ¬ made = [] := fun z => q (by rw [z]; rfl)
    refine ⟨rfl, ?_⟩
    show tabP made = tabP (pcsF (cutI ns (some 1) (some 63)))
    rw [ep, if_neg e]


theorem mus_app (a : List Int) (l m : List (List Int)) : mus a (l ++ m) = mus (mus a l) m := by unfold mus; rw [List.foldl_append]
noncomputable def Sml (x : List Int) : Prop := x.length ≤ 3 ∧ ∀ m ∈ x, m.natAbs ≤ 2 ^ 40
theorem mu_len (a x : List Int) : (mu a x).length ≤ a.length + x.length := by
  unfold mu
  refine Nat.le_trans (trimZ_len _) ?_
  unfold convL
  rw [List.length_map, List.length_range]
  exact Nat.le_refl _
theorem mu_b {a x : List Int} {A : Nat} (ha : ∀ m ∈ a, m.natAbs ≤ A) (hx : Sml x) : ∀ m ∈ mu a x, m.natAbs ≤ A * 2 ^ 42 := fun m hm => by
  obtain ⟨n, _, e⟩ := FM.mem_getD hm
  rw [mu_get] at e
  rw [← e]
  refine Nat.le_trans (cm_abs ha hx.2 n) ?_
  have h1 : x.length * (2 ^ 40 * A) ≤ 2 ^ 2 * (2 ^ 40 * A) := Nat.mul_le_mul_right _ (Nat.le_trans hx.1 (by decide))
  refine Nat.le_trans h1 ?_
  rw [← Nat.mul_assoc, ← Nat.pow_add, Nat.mul_comm]
  exact Nat.le_refl _
theorem mus_b : ∀ (l : List (List Int)) (a : List Int) (k : Nat), (∀ x ∈ l, Sml x) → (∀ m ∈ a, m.natAbs ≤ 2 ^ k) → (mus a l).length ≤ a.length + 3 * l.length ∧ ∀ m ∈ mus a l, m.natAbs ≤ 2 ^ (k + 42 * l.length)
  | [], a, k, _, ha => ⟨Nat.le_refl _, ha⟩
  | x :: l, a, k, h, ha => by
    have hx := h x List.mem_cons_self
    have hb : ∀ m ∈ mu a x, m.natAbs ≤ 2 ^ (k + 42) := fun m hm => by
      have := mu_b ha hx m hm
      rw [← Nat.pow_add] at this
      exact this
    obtain ⟨h1, h2⟩ := mus_b l (mu a x) (k + 42) (fun y hy => h y (List.mem_cons_of_mem _ hy)) hb
    have h3 := mu_len a x
    have h4 := hx.1
    refine ⟨?_, fun m hm => ?_⟩
    · show (mus (mu a x) l).length ≤ _
      rw [List.length_cons]
      omega
    · have e : k + 42 * (x :: l).length = k + 42 + 42 * l.length := by rw [List.length_cons]; omega
      rw [e]
      exact h2 m hm

/-- does a prime stay, by the numbers of the pieces -/
theorem isIts {q : PV} {l : List Int} (h : q = .ints l) : q = .ints (pvL q) := by subst h; rfl
theorem hasOne {q : PV} {b a : Int} (h : q = .ints [b, a]) : hasIt (.ints (pvL q)) 1 ∧ itP (.ints (pvL q)) 1 = .int (pvI (itP (.ints (pvL q)) 1)) ∧ pvI (itP (.ints (pvL q)) 1) = a := by
  subst h
  exact ⟨⟨by show -(2 : Int) ≤ 1; decide, by show (1 : Int) < 2; decide⟩, rfl, rfl⟩
theorem cutP_to (xs : List PV) (b : Nat) : cutP xs none (some (b : Int)) = xs.take b := by
  unfold cutP
  rw [HT.sIx_nat, HT.sIx_none, List.drop_zero, Nat.sub_zero]
  by_cases h : b ≤ xs.length
  · rw [Nat.min_eq_left h]
  · rw [Nat.min_eq_right (by omega), List.take_of_length_le (Nat.le_refl _), List.take_of_length_le (by omega)]
theorem tab_at {ps : List (List Int)} {i : Nat} (h : i < ps.length) (h2 : (ps.getD i []).length = 2) : itP (tabP ps) (i : Int) = .ints [pB (ps.getD i []), pA (ps.getD i [])] := by
  show (ps.map PV.ints).getD (ixO (ps.map PV.ints).length (i : Int)) .non = _
  have e : ixO (ps.map PV.ints).length (i : Int) = i := by unfold ixO; rw [if_pos (by omega)]; omega
  rw [e, ← pc_eta h2, List.getD_eq_getElem?_getD, List.getD_eq_getElem?_getD, List.getElem?_map, List.getElem?_eq_getElem h]
  rfl
/-- what i pieces say -/
structure StU (p l : Int) (ps : List (List Int)) (i : Nat) : Prop where
  lead : ∀ k, k < i → ¬ p ∣ pA (ps.getD k [])
  pair : ∀ j k, j < k → k < i → ¬ p ∣ rsl (ps.getD j []) (ps.getD k [])
  quad : 0 < l → ∀ k, k < i → ¬ p ∣ qd l (ps.getD k [])
theorem StU.next {p l : Int} {ps : List (List Int)} {i : Nat} (h : StU p l ps i) (h1 : ¬ p ∣ pA (ps.getD i [])) (h2 : ∀ j, j < i → ¬ p ∣ rsl (ps.getD j []) (ps.getD i [])) (h3 : 0 < l → ¬ p ∣ qd l (ps.getD i [])) : StU p l ps (i + 1) := by
  refine ⟨fun k hk => ?_, fun j k hj hk => ?_, fun l0 k hk => ?_⟩
  · by_cases c : k = i
    · subst c; exact h1
    · exact h.lead k (by omega)
  · by_cases c : k = i
    · subst c; exact h2 j hj
    · exact h.pair j k hj (by omega)
  · by_cases c : k = i
    · subst c; exact h3 l0
    · exact h.quad l0 k (by omega)
theorem six_ok {a b : Int} (h1 : a.natAbs ≤ 10 ^ 6) (h2 : b.natAbs ≤ 10 ^ 18) : IntMulOk b a := mul_okR ⟨by show -(2 : Int) ^ 64 < a; omega, by show a < (2 : Int) ^ 64; omega⟩
theorem kx_stays (T : Top K mg cNO cNP cK cW cR) : Ok P w K mg base 1 "_law_stays" ["_law_pieces_here", "_law_last", "_law_prime"] (spFB K (GkT cW cR) (fun as => ∃ ps l p, as = [tabP ps, .int l, .int p] ∧ Pcs ps ∧ 0 ≤ l ∧ l ≤ 10 ^ 6 ∧ 2 ≤ p) fun as => match as with
    | [.lst qs, .int l, .int p] => @decide (Stay p l (rowsI qs)) (Classical.propDecidable _)
    | _ => false) := by
  refine okF T.d_stays sc_stays (fun as ⟨a, b, c, h, _⟩ => by rw [h]; rfl) (fun f cdv A outer s H E hr => ⟨_, (xss_cons (xst_forR (k := 3) PassesOwn.never rfl (by rfl) T.b_range (xn_lenP T.b_len (xv 0)) sc_stays.nd rfl (Or.inl rfl)
 (xss_cons (xst_if (xt_eq (xn_mod (xn_of (xp_item (xl_of (xp_item (xv 0) (xn 3) (fun _ _ => rfl))) xn_int (fun _ _ => rfl))) (xn 2)) xn_int)
 (xss_one (xst_ret xb_bl))
 xss_nil)
 (xss_cons (xst_unpL (xl_of (xp_item (xv 0) (xn 3) (fun _ _ => rfl))) (pg_lst rfl (pgs_cons (pg_name (i := 4) sc_stays.nd rfl (Or.inl rfl)) (pgs_cons (pg_name (i := 5) sc_stays.nd rfl (Or.inl rfl)) pgs_nil))))
 (xss_cons (xst_forTL (k := 6) (j := 7) PassesOwn.never rfl (newP (xp_slice (xp_of (xv 0)) xo_none (xo_some (xn 3)))) (pg_lst rfl (pgs_cons (pg_name (i := 6) sc_stays.nd rfl (Or.inl rfl)) (pgs_cons (pg_name (i := 7) sc_stays.nd rfl (Or.inl rfl)) pgs_nil)))
 (xss_one (xst_if (xt_eq (xn_mod (xn_sub (xn_mul (xn 4) (xn 7)) (xn_mul (xn 6) (xn 5))) (xn 2)) xn_int)
 (xss_one (xst_ret xb_bl))
 xss_nil)))
 (xss_one (xst_if (L2.PW.pt (xw_and (xt_gt (xn 1) xn_int) (xw_and1 (xt_eq (xn_mod (xn_add (xn_mul (xn_mul (xn 1) (xn 5)) (xn 5)) (xn_mul (xn 4) (xn 4))) (xn 2)) xn_int))))
 (xss_one (xst_ret xb_bl))
 xss_nil))))))
 (xss_one (xst_ret (xe_or (xe_eq (xn 1) xn_int) (pe_one (xe_ne (xn_mod (xn_mul xn_int (xn 1)) (xn 2)) xn_int)))))), fun as hp => ?_⟩)
  obtain ⟨ps, l, p, rfl, hps, l0, l1, p2⟩ := hp
  have no : ¬ Stay p l ps → PV.bl false = PV.bl (@decide (Stay p l (rowsI (ps.map PV.ints))) (Classical.propDecidable _)) := fun h => by
    rw [rowsI_map]
    congr 1
    exact (@decide_eq_false _ (Classical.propDecidable _) h).symm
  have len := hps.len
  have lm : (ps.map PV.ints).length = ps.length := List.length_map _
  refine ⟨⟨rfl, True.intro⟩, ⟨by show -(2 : Int) ^ 62 ≤ ((ps.map PV.ints).length : Int); omega, by show ((ps.map PV.ints).length : Int) < 2 ^ 62; omega⟩, fun i ρ => (∃ v3 v4 v5 v6 v7, ρ = [.fr (tabP ps), .fr (.int l), .fr (.int p), v3, v4, v5, v6, v7]) ∧ StU p l ps i, ⟨⟨.un, .un, .un, .un, .un, rfl⟩, ⟨fun k hk => absurd hk (Nat.not_lt_zero _), fun j k _ hk => absurd hk (Nat.not_lt_zero _), fun _ k hk => absurd hk (Nat.not_lt_zero _)⟩⟩, ?_, ?_⟩
  · rintro i ρ hi ⟨⟨v3, v4, v5, v6, v7, rfl⟩, hs⟩
    have hi : i < ps.length := by have hi : i < ((ps.map PV.ints).length : Int).toNat := hi; omega
    have pc := hps.all _ (get_mem hi)
    have e1 := tab_at hi pc.two
    have ab := pc.ab
    obtain ⟨o1, o2, o3⟩ := hasOne e1
    have h1 : hasIt (tabP ps) (i : Int) := ⟨by show -((ps.map PV.ints).length : Int) ≤ (i : Int); omega, by show (i : Int) < ((ps.map PV.ints).length : Int); omega⟩
    refine ⟨⟨⟨⟨⟨⟨⟨rfl, rfl, h1⟩, isIts e1⟩, True.intro, o1⟩, o2⟩, rfl, by show 0 < p; omega⟩, True.intro⟩, fun q => ?_, fun q => ?_⟩
    · have q : pvI (itP (.ints (pvL (itP (tabP ps) (i : Int)))) 1) % p = 0 := q
      rw [o3] at q
      exact ⟨True.intro, no fun S => S.lead i hi (Int.dvd_of_emod_eq_zero q)⟩
    have q : ¬ pvI (itP (.ints (pvL (itP (tabP ps) (i : Int)))) 1) % p = 0 := q
    rw [o3] at q
    have q1 : ¬ p ∣ pA (ps.getD i []) := fun z => q (Int.emod_eq_zero_of_dvd z)
    clear q
    refine ⟨⟨⟨rfl, rfl, h1⟩, isIts e1⟩, pB (ps.getD i []), pA (ps.getD i []), (isIts e1).symm.trans e1, ?_⟩
    generalize hb : pB (ps.getD i []) = b at *
    generalize ha : pA (ps.getD i []) = a at *
    refine to_lit (ρ' := [.fr (tabP ps), .fr (.int l), .fr (.int p), .fr (.int (i : Int)), .fr (.int b), .fr (.int a), v6, v7]) rfl ?_
    have ec : cutP (ps.map PV.ints) none (some (i : Int)) = (ps.map PV.ints).take i := cutP_to _ _
    have tw : ∀ q ∈ cutP (ps.map PV.ints) none (some (i : Int)), isTwo q := fun q hq => by
      rw [ec] at hq
      obtain ⟨y, hy, rfl⟩ := List.mem_map.mp (List.mem_of_mem_take hq)
      have y2 := pc_eta (hps.all y hy).two
      rw [y2]
      rfl
    refine ⟨⟨⟨⟨rfl, rfl⟩, True.intro, rfl⟩, tw⟩, fun j ρ => (∃ v6 v7, ρ = [.fr (tabP ps), .fr (.int l), .fr (.int p), .fr (.int (i : Int)), .fr (.int b), .fr (.int a), v6, v7]) ∧ ∀ k, k < j → ¬ p ∣ rsl (ps.getD k []) (ps.getD i []), ⟨⟨v6, v7, rfl⟩, fun k hk => absurd hk (Nat.not_lt_zero _)⟩, ?_, ?_⟩
    · rintro j n ρ hn ⟨⟨v6, v7, rfl⟩, hj⟩
      have hn : (cutP (ps.map PV.ints) none (some (i : Int)))[j]? = some n := hn
      rw [ec] at hn
      have hji : j < i := by
        have := (List.getElem?_eq_some_iff.mp hn).1
        rw [List.length_take] at this
        omega
      rw [List.getElem?_take_of_lt hji, List.getElem?_map, List.getElem?_eq_getElem (by omega)] at hn
      have en : n = .ints (ps.getD j []) := by
        rw [List.getD_eq_getElem?_getD, List.getElem?_eq_getElem (by omega)]
        exact (Option.some.inj hn).symm
      have pcj := hps.all _ (get_mem (show j < ps.length by omega))
      have abj := pcj.ab
      have y2 := pc_eta pcj.two
      rw [y2] at en
      have erl : rsl (ps.getD j []) (ps.getD i []) = b * pA (ps.getD j []) - pB (ps.getD j []) * a := by
        unfold rsl
        rw [ha, hb]
      rw [en]
      generalize pB (ps.getD j []) = d at *
      generalize pA (ps.getD j []) = c at *
      refine ⟨⟨⟨⟨⟨rfl, rfl, ?_⟩, rfl, rfl, ?_⟩, rfl, by show 0 < p; omega⟩, True.intro⟩, fun q => ?_, fun q => ?_⟩
      · show IntMulOk b c
        exact six_ok abj.1 (by omega)
      · show IntMulOk d a
        exact six_ok ab.1 (by omega)
      · have q : (b * c - d * a) % p = 0 := q
        refine ⟨True.intro, no fun S => S.pair j i hji hi ?_⟩
        rw [erl]
        exact Int.dvd_of_emod_eq_zero q
      · have q : ¬ (b * c - d * a) % p = 0 := q
        refine ⟨⟨.fr (.int d), .fr (.int c), rfl⟩, fun k hk => ?_⟩
        by_cases z : k = j
        · rw [z, erl]
          exact fun w => q (Int.emod_eq_zero_of_dvd w)
        · exact hj k (by omega)
    rintro ρ ⟨⟨v6, v7, rfl⟩, hj⟩
    have hj : ∀ k, k < i → ¬ p ∣ rsl (ps.getD k []) (ps.getD i []) := by
      have e : (cutP (ps.map PV.ints) none (some (i : Int))).length = i := by rw [ec, List.length_take]; omega
      have hj : ∀ k, k < (cutP (ps.map PV.ints) none (some (i : Int))).length → ¬ p ∣ rsl (ps.getD k []) (ps.getD i []) := hj
      rw [e] at hj
      exact hj
    have la : (l * a).natAbs ≤ 10 ^ 18 := by
      have := mul_b (a := l) (b := a) (A := 10 ^ 6) (B := 10 ^ 6) (by omega) ab.1
      omega
    have eq : qd l (ps.getD i []) = l * a * a + b * b := by
      unfold qd
      rw [ha, hb]
    refine ⟨⟨⟨rfl, True.intro⟩, fun _ => ⟨⟨⟨⟨⟨rfl, rfl, ?_⟩, rfl, ?_⟩, rfl, rfl, ?_⟩, rfl, by show 0 < p; omega⟩, True.intro⟩⟩, fun q => ?_, fun q => ?_⟩
    · show IntMulOk l a
      exact six_ok ab.1 (by omega)
    · show IntMulOk (l * a) a
      exact six_ok ab.1 la
    · show IntMulOk b b
      exact six_ok ab.2 (by omega)
    · have q : 0 < l ∧ (l * a * a + b * b) % p = 0 := q
      refine ⟨True.intro, no fun S => S.quad q.1 i hi ?_⟩
      rw [eq]
      exact Int.dvd_of_emod_eq_zero q.2
    · have q : ¬ (0 < l ∧ (l * a * a + b * b) % p = 0) := q
      refine ⟨⟨_, _, _, _, _, rfl⟩, hs.next (by rw [ha]; exact q1) hj fun h0 z => q ⟨h0, ?_⟩⟩
      rw [eq] at z
      exact Int.emod_eq_zero_of_dvd z
  rintro ρ ⟨⟨v3, v4, v5, v6, v7, rfl⟩, hs⟩
  have hs : StU p l ps ps.length := by
    have e : ((ps.map PV.ints).length : Int).toNat = ps.length := by omega
    have hs : StU p l ps ((ps.map PV.ints).length : Int).toNat := hs
    rw [e] at hs
    exact hs
  refine ⟨⟨⟨rfl, True.intro⟩, fun _ => ⟨⟨⟨True.intro, rfl, ?_⟩, rfl, by show 0 < p; omega⟩, True.intro⟩⟩, ?_⟩
  · show IntMulOk 4 l
    exact six_ok (by omega) (by decide)
  show PV.bl (decide (l = 0 ∨ ¬ 4 * l % p = 0)) = PV.bl (@decide (Stay p l (rowsI (ps.map PV.ints))) (Classical.propDecidable _))
  rw [rowsI_map]
  congr 1
  refine decide_eq_decide.mpr ⟨fun h => ⟨hs.lead, hs.pair, hs.quad, h.imp id fun z w => z (Int.emod_eq_zero_of_dvd w)⟩, fun S => S.last.imp id fun z w => z (Int.dvd_of_emod_eq_zero w)⟩
theorem stt_ok {l : Int} (l0 : 0 ≤ l) (l1 : l ≤ 10 ^ 6) : (stt l).length ≤ 3 ∧ ∀ m ∈ stt l, m.natAbs ≤ 2 ^ 20 := by
  unfold stt
  split
  · refine ⟨Nat.le_refl _, fun m hm => ?_⟩
    simp only [List.mem_cons, List.not_mem_nil, or_false] at hm
    rcases hm with rfl | rfl | rfl
    · omega
    · decide
    · decide
  · refine ⟨by decide, fun m hm => ?_⟩
    rw [List.mem_singleton.mp hm]
    decide
theorem Pc.sml {x : List Int} (h : Pc x) : Sml x := by
  have ab := h.ab
  have e := pc_eta h.two
  refine ⟨by have := h.two; omega, fun m hm => ?_⟩
  rw [e] at hm
  simp only [List.mem_cons, List.not_mem_nil, or_false] at hm
  rcases hm with rfl | rfl <;> omega


theorem kx_law (T : Top K mg cNO cNP cK cW cR) {f : Addr} {fd : FuncData} (F : Fun K "law" "law" s_law f fd) : FnOk P w K mg base CX0 9 f fd ["_law_script"] (spLaw2 K) := by
  refine lawF2 (G := GkT cW cR) F sc_law (fun cdv A outer s H E hr => ⟨_, (xss_cons (xst_setI (i := 1) sc_law.nd rfl (Or.inl rfl) (xci (kx_head T) hr (xa_cons (xr 0) xa_nil)))
 (xss_cons (xst_setP (i := 2) sc_law.nd rfl (Or.inl rfl) (xc (kx_pieces T) hr (xa_cons (xr 0) xa_nil)))
 (xss_cons (xst_setI (i := 3) sc_law.nd rfl (Or.inl rfl) xn_int)
 (xss_cons (xst_setL (i := 4) sc_law.nd rfl (Or.inl rfl) (newL (xl_lst (xa_cons xn_int xa_nil))))
 (xss_join (xst_if (xt_eq (xn_mod (xn 1) xn_int) xn_int)
 (xss_cons (xst_setI (i := 3) sc_law.nd rfl (Or.inl rfl) (xn_add xn_int (xn_mod (xn_div (xn 1) xn_int) (xn_pow xn_int xn_int))))
 (xss_one (xst_setL (i := 4) sc_law.nd rfl (Or.inl rfl) (newL (xl_lst (xa_cons (xn 3) (xa_cons xn_int (xa_cons xn_int xa_nil))))))))
 xss_nil)
 (xss_cons (xst_forP (k := 5) PassesOwn.never rfl (xp_of (xv 2)) sc_law.nd rfl (Or.inl rfl)
 (xss_one (xst_setL (i := 4) sc_law.nd rfl (Or.inl rfl) (newL (xcl (kx_times T) hr (xa_cons (xl 4) (xa_cons (xl 5) (xa_cons xn_int xa_nil))))))))
 (xss_cons (xst_setL (i := 6) sc_law.nd rfl (Or.inl rfl) (newL (xl_cat (xl 4) (newL (xl_rep (xl_lst (xa_cons xn_int xa_nil)) (xn_mod (xn_div (xn 1) (xn_pow xn_int xn_int)) xn_int) (fun _ => rfl))))))
 (xss_cons (xst_setL (i := 7) sc_law.nd rfl (Or.inl rfl) (newL (xl_list T.b_list (xl 6) (fun _ => .inl rfl))))
 (xss_cons (xst_setI (i := 8) sc_law.nd rfl (Or.inl rfl) (xci (kx_good_prime T) hr (xa_cons (xl 6) xa_nil)))
 (xss_cons (xst_if (L2.PW.pt (xw_or (xt_not (xt_V (xcb (kx_whole T) hr (xa_cons (xn 8) xa_nil)))) (xw_or (xt_gt (xn 8) xn_int) (xw_or (xt_not (xt_V (xcb (kx_law_is_prime T) hr (xa_cons (xn 8) xa_nil)))) (xw_or1 (xt_not (xt_V (xcb (kx_alike T) hr (xa_cons (xl 6) (xa_cons (xl 7) xa_nil))))))))))
 (xss_one (xst_ret xb_bl))
 xss_nil)
 (xss_cons (xst_forR2 (k := 9) PassesOwn.never rfl (by rfl) T.b_range xn_int (xn 8) sc_law.nd rfl (Or.inl rfl)
 (xss_one (xst_if (L2.PW.pt (xw_and (xt_V (xcb (kx_law_is_prime T) hr (xa_cons (xn 9) xa_nil))) (xw_and1 (xt_V (xcb (kx_stays T) hr (xa_cons (xv 2) (xa_cons (xn 3) (xa_cons (xn 9) xa_nil))))))))
 (xss_one (xst_ret xb_bl))
 xss_nil)))
 (xss_one (xst_ret (xcb (kx_stays T) hr (xa_cons (xv 2) (xa_cons (xn 3) (xa_cons (xn 8) xa_nil))))))))))))))))), fun ns h63 hbits => ?_⟩)
  refine ⟨⟨⟨rfl, True.intro⟩, ns, rfl⟩, fun hd ehd => ?_⟩
  have ehd : hd = headN (ns.getD 0 0) := ehd
  have hd0 : 0 ≤ hd := by rw [ehd]; exact headN_nn _
  clear ehd
  refine ⟨⟨⟨rfl, True.intro⟩, ns, rfl, h63⟩, fun pp epp => ?_⟩
  have epp : pp = tabP (pcsF (cutI ns (some 1) (some 63))) := epp
  have hps := pcsF_ok (cutI ns (some 1) (some 63))
  generalize pcsF (cutI ns (some 1) (some 63)) = ps at epp hps
  subst epp
  refine ⟨True.intro, fun l0 el0 => ⟨⟨⟨True.intro, True.intro⟩, True.intro⟩, fun g0 eg0 => ?_⟩⟩
  have el0 : l0 = 0 := el0
  have eg0 : g0 = [1] := eg0
  refine to_lit (ρ' := [.fr (.scr ns), .fr (.int hd), .fr (tabP ps), .fr (.int l0), .fr (.ints g0), .un, .un, .un, .un, .un]) rfl ?_
  refine ⟨fun ρ => ∃ l, ρ = [.fr (.scr ns), .fr (.int hd), .fr (tabP ps), .fr (.int l), .fr (.ints (stt l)), .un, .un, .un, .un, .un] ∧ 0 ≤ l ∧ l ≤ 10 ^ 6, ⟨by walk_at "xs", fun q => ?_, fun q => ?_⟩, ?_⟩
  · refine ⟨by walk_at "xs", fun l el => ?_⟩
    have el : l = 1 + hd / 2 % 10 ^ 6 := el
    refine ⟨⟨⟨rfl, True.intro, True.intro, True.intro⟩, True.intro⟩, fun g eg => ?_⟩
    have eg : g = [l, 0, 1] := eg
    have l1 : 0 < l := by omega
    have e : g = stt l := by
      rw [eg]
      exact (if_pos l1).symm
    refine ⟨l, ?_, by omega, by omega⟩
    rw [← e]
    rfl
  · refine ⟨0, ?_, by decide, by decide⟩
    rw [el0, eg0]
    rfl
  clear el0 eg0
  rintro ρ ⟨l, rfl, l0, l1⟩
  obtain ⟨sl, sb⟩ := stt_ok l0 l1
  have len := hps.len
  have mb : ∀ i, (mus (stt l) (ps.take i)).length ≤ 20 ∧ Bd (mus (stt l) (ps.take i)) := fun i => by
    have h := mus_b (ps.take i) (stt l) 20 (fun x hx => (hps.all x (List.mem_of_mem_take hx)).sml) sb
    have tl : (ps.take i).length ≤ 4 := by rw [List.length_take]; omega
    refine ⟨by omega, fun m hm => Nat.lt_of_le_of_lt (h.2 m hm) (Nat.pow_lt_pow_right (by decide) (by omega))⟩
  refine ⟨⟨rfl, rfl⟩, fun i ρ => ∃ v5, ρ = [.fr (.scr ns), .fr (.int hd), .fr (tabP ps), .fr (.int l), .fr (.ints (mus (stt l) (ps.take i))), v5, .un, .un, .un, .un], ⟨.un, rfl⟩, ?_, ?_⟩
  · rintro i n ρ hn ⟨v5, rfl⟩
    have hn : (ps.map PV.ints)[i]? = some n := hn
    rw [List.getElem?_map] at hn
    obtain ⟨y, hy, rfl⟩ := Option.map_eq_some_iff.mp hn
    have hm := hps.all y (List.mem_of_getElem? hy)
    have y2 := hm.two
    obtain ⟨m1, m2⟩ := mb i
    have yb : Bd y := fun m hmm => Nat.lt_of_le_of_lt (hm.sml.2 m hmm) (Nat.pow_lt_pow_right (by decide) (by decide))
    refine ⟨⟨⟨rfl, rfl, True.intro, True.intro⟩, mus (stt l) (ps.take i), y, rfl, by omega, m2, yb⟩, fun g eg => ?_⟩
    have eg : g = mu (mus (stt l) (ps.take i)) y := eg
    have e2 : mus (stt l) (ps.take (i + 1)) = g := by rw [take_at hy, mus_app, eg]; rfl
    refine ⟨.fr (.ints y), ?_⟩
    rw [e2]
    rfl
  rintro ρ ⟨v5, rfl⟩
  have et : ps.take (ps.map PV.ints).length = ps := by rw [List.length_map, List.take_length]
  obtain ⟨m1, m2⟩ := mb ps.length
  rw [List.take_length] at m1 m2
  refine to_lit (ρ' := [.fr (.scr ns), .fr (.int hd), .fr (tabP ps), .fr (.int l), .fr (.ints (mus (stt l) ps)), v5, .un, .un, .un, .un]) (by
    show [Sl.fr (.scr ns), .fr (.int hd), .fr (tabP ps), .fr (.int l), .fr (.ints (mus (stt l) (ps.take (ps.map PV.ints).length))), v5, .un, .un, .un, .un] = _
    rw [et]) ?_
  have k0 := Int.emod_nonneg (hd / 10 ^ 7) (show (3 : Int) ≠ 0 by decide)
  have k1 := Int.emod_lt_of_pos (hd / 10 ^ 7) (show (0 : Int) < 3 by decide)
  refine ⟨⟨rfl, ⟨⟨⟨True.intro, True.intro⟩, True.intro⟩, by walk_at "xs", by show -(2 : Int) ^ 63 ≤ hd / 10 ^ 7 % 3; omega, by show (hd / 10 ^ 7 % 3).toNat ≤ 1000; omega⟩, ?_⟩, fun h eh => ?_⟩
  · refine Nat.le_of_lt (small1000 ?_)
    show (mus (stt l) ps).length + (List.replicate (hd / 10 ^ 7 % 3).toNat (0 : Int)).length ≤ 1000
    rw [List.length_replicate]
    omega
  have eh : h = mus (stt l) ps ++ List.replicate (hd / 10 ^ 7 % 3).toNat 0 := eh
  refine ⟨rfl, fun k ek => ?_⟩
  have ek : k = h := ek
  refine to_lit (ρ' := [.fr (.scr ns), .fr (.int hd), .fr (tabP ps), .fr (.int l), .fr (.ints (mus (stt l) ps)), v5, .fr (.ints h), .fr (.ints k), .un, .un]) rfl ?_
  generalize hK : (hd / 10 ^ 7 % 3).toNat = kk at eh
  have hk3 : kk ≤ 2 := by omega
  obtain ⟨f1, f2, f3, f4⟩ := handed_form (l := l) hps kk
  rw [← eh] at f1
  have hl : h.length ≤ 100 := by rw [eh, List.length_append, List.length_replicate]; omega
  have kp : ∀ p, IsP p → (keF p h ↔ Stay p l ps) := fun p hp => by
    rw [eh]
    exact kept_iff hp hps l0 (by omega)
  obtain ⟨p, hp, sp⟩ := kept_ex hps l0 l1
  refine ⟨⟨⟨rfl, True.intro⟩, h, rfl, hl, by rw [f1]; exact f2, p, hp, (kp p hp).mpr sp⟩, fun fo efo => ?_⟩
  have efo : fo = fnd (gpQ h) 9972 2 := efo
  obtain ⟨s1, s2, s3, s4⟩ := fnd_spec (q := gpQ h) (n := 9972) (k := 2) ⟨(p - 2).toNat, by have := hp.1; have := hp.2.1; omega, by
    rw [show 2 + ((p - 2).toNat : Int) = p by have := hp.1; omega]
    exact gpQ_iff.mpr ⟨hp, (kp p hp).mpr sp⟩⟩
  rw [← efo] at s1 s2 s3 s4
  clear efo
  obtain ⟨fp, fk⟩ := gpQ_iff.mp s1
  have fs := (kp fo fp).mp fk
  refine to_lit (ρ' := [.fr (.scr ns), .fr (.int hd), .fr (tabP ps), .fr (.int l), .fr (.ints (mus (stt l) ps)), v5, .fr (.ints h), .fr (.ints k), .fr (.int fo), .un]) rfl ?_
  refine ⟨⟨⟨⟨rfl, True.intro⟩, _, rfl⟩, fun _ => ⟨⟨rfl, True.intro⟩, fun _ => ⟨⟨⟨rfl, True.intro⟩, fo, rfl, fp.1, fp.2.1⟩, fun _ => ⟨⟨rfl, rfl, True.intro⟩, _, _, rfl, by show k.length ≤ 1000; rw [ek]; omega⟩⟩⟩⟩, fun q => ?_, fun _ => ?_⟩
  · have q : ¬ true = true ∨ 9973 < fo ∨ ¬ isP fo = true ∨ ¬ decide (h = k) = true := q
    rcases q with q | q | q | q
    · exact absurd rfl q
    · have := fp.2.1
      omega
    · exact absurd (isP_true fp) q
    · exact absurd (decide_eq_true ek.symm) q
  refine ⟨⟨True.intro, rfl⟩, ⟨by show -(2 : Int) ^ 62 ≤ 2; decide, by show (2 : Int) < 2 ^ 62; decide, by show -(2 : Int) ^ 62 ≤ fo; omega, by show fo < (2 : Int) ^ 62; omega⟩, fun i ρ => ∃ v9, ρ = [.fr (.scr ns), .fr (.int hd), .fr (tabP ps), .fr (.int l), .fr (.ints (mus (stt l) ps)), v5, .fr (.ints h), .fr (.ints k), .fr (.int fo), v9], ⟨.un, rfl⟩, ?_, ?_⟩
  · rintro i ρ hi ⟨v9, rfl⟩
    have hi : i < (fo - 2).toNat := hi
    have m1 : (2 : Int) ≤ 2 + (i : Int) := by omega
    have m2 : 2 + (i : Int) < fo := by omega
    have m3 := fp.2.1
    refine ⟨⟨⟨⟨rfl, True.intro⟩, 2 + (i : Int), rfl, m1, by omega⟩, fun _ => ⟨⟨rfl, rfl, rfl, True.intro⟩, ps, l, 2 + (i : Int), rfl, hps, l0, l1, m1⟩⟩, fun q => ?_, fun _ => ⟨_, rfl⟩⟩
    have q : isP (2 + (i : Int)) = true ∧ @decide (Stay (2 + (i : Int)) l (rowsI (ps.map PV.ints))) (Classical.propDecidable _) = true := q
    rw [rowsI_map] at q
    have ip := isP_iff.mp q.1
    have st := @of_decide_eq_true _ (Classical.propDecidable _) q.2
    have := s4 (2 + (i : Int)) m1 m2
    rw [gpQ_iff.mpr ⟨ip, (kp _ ip).mpr st⟩] at this
    cases this
  rintro ρ ⟨v9, rfl⟩
  refine ⟨⟨⟨rfl, rfl, rfl, True.intro⟩, ps, l, fo, rfl, hps, l0, l1, fp.1⟩, ?_⟩
  show PV.bl (decide (@decide (Stay fo l (rowsI (ps.map PV.ints))) (Classical.propDecidable _) = true)) = PV.bl true
  rw [rowsI_map]
  congr 1
  exact decide_eq_true (@decide_eq_true _ (Classical.propDecidable _) fs)

end
theorem all_mk {l : PySem.W.OpenLaw} {w : World} {K : PySem.W.Frag} {h : Heap} {mg : Str → Option Value} {fa : Addr} {cNO : Addr} {cNP : Addr} {cK : Addr} {cW : Addr} {cR : Addr} (X : K.In h) (G : h.Ns mainGlobals mg) (hfa : mg "law" = some (.ref fa))
    {f0 : Addr} {od0 an0 : Option Addr} {sl0 : Array (Option Value)} {oc0 kV0 dc0 pm0 cd0 ct0 : Value}
    {f1 : Addr} {od1 an1 : Option Addr} {sl1 : Array (Option Value)} {oc1 kV1 dc1 pm1 cd1 ct1 : Value}
    {f2 : Addr} {od2 an2 : Option Addr} {sl2 : Array (Option Value)} {oc2 kV2 dc2 pm2 cd2 ct2 : Value}
    {f3 : Addr} {od3 an3 : Option Addr} {sl3 : Array (Option Value)} {oc3 kV3 dc3 pm3 cd3 ct3 : Value}
    {f4 : Addr} {od4 an4 : Option Addr} {sl4 : Array (Option Value)} {oc4 kV4 dc4 pm4 cd4 ct4 : Value}
    {f5 : Addr} {od5 an5 : Option Addr} {sl5 : Array (Option Value)} {oc5 kV5 dc5 pm5 cd5 ct5 : Value}
    {f6 : Addr} {od6 an6 : Option Addr} {sl6 : Array (Option Value)} {oc6 kV6 dc6 pm6 cd6 ct6 : Value}
    {f7 : Addr} {od7 an7 : Option Addr} {sl7 : Array (Option Value)} {oc7 kV7 dc7 pm7 cd7 ct7 : Value}
    {f8 : Addr} {od8 an8 : Option Addr} {sl8 : Array (Option Value)} {oc8 kV8 dc8 pm8 cd8 ct8 : Value}
    {f9 : Addr} {od9 an9 : Option Addr} {sl9 : Array (Option Value)} {oc9 kV9 dc9 pm9 cd9 ct9 : Value}
    {f10 : Addr} {od10 an10 : Option Addr} {sl10 : Array (Option Value)} {oc10 kV10 dc10 pm10 cd10 ct10 : Value}
    {f11 : Addr} {od11 an11 : Option Addr} {sl11 : Array (Option Value)} {oc11 kV11 dc11 pm11 cd11 ct11 : Value}
    {f12 : Addr} {od12 an12 : Option Addr} {sl12 : Array (Option Value)} {oc12 kV12 dc12 pm12 cd12 ct12 : Value}
    {f13 : Addr} {od13 an13 : Option Addr} {sl13 : Array (Option Value)} {oc13 kV13 dc13 pm13 cd13 ct13 : Value}
    {f14 : Addr} {od14 an14 : Option Addr} {sl14 : Array (Option Value)} {oc14 kV14 dc14 pm14 cd14 ct14 : Value}
    {f15 : Addr} {od15 an15 : Option Addr} {sl15 : Array (Option Value)} {oc15 kV15 dc15 pm15 cd15 ct15 : Value}
    {f16 : Addr} {od16 an16 : Option Addr} {sl16 : Array (Option Value)} {oc16 kV16 dc16 pm16 cd16 ct16 : Value}
    {f17 : Addr} {od17 an17 : Option Addr} {sl17 : Array (Option Value)} {oc17 kV17 dc17 pm17 cd17 ct17 : Value}
    {f18 : Addr} {od18 an18 : Option Addr} {sl18 : Array (Option Value)} {oc18 kV18 dc18 pm18 cd18 ct18 : Value}
    {f19 : Addr} {od19 an19 : Option Addr} {sl19 : Array (Option Value)} {oc19 kV19 dc19 pm19 cd19 ct19 : Value}
    {f20 : Addr} {od20 an20 : Option Addr} {sl20 : Array (Option Value)} {oc20 kV20 dc20 pm20 cd20 ct20 : Value}
    {f21 : Addr} {od21 an21 : Option Addr} {sl21 : Array (Option Value)} {oc21 kV21 dc21 pm21 cd21 ct21 : Value}
    {f22 : Addr} {od22 an22 : Option Addr} {sl22 : Array (Option Value)} {oc22 kV22 dc22 pm22 cd22 ct22 : Value}
    {f23 : Addr} {od23 an23 : Option Addr} {sl23 : Array (Option Value)} {oc23 kV23 dc23 pm23 cd23 ct23 : Value}
    {f24 : Addr} {od24 an24 : Option Addr} {sl24 : Array (Option Value)} {oc24 kV24 dc24 pm24 cd24 ct24 : Value}
    {f25 : Addr} {od25 an25 : Option Addr} {sl25 : Array (Option Value)} {oc25 kV25 dc25 pm25 cd25 ct25 : Value}
    {tk0 : Tok}
    {fm0 : Addr} {odm0 anm0 : Option Addr} {slm0 : Array (Option Value)} {ocm0 kVm0 dcm0 pmm0 cdm0 ctm0 : Value}
    {fm1 : Addr} {odm1 anm1 : Option Addr} {slm1 : Array (Option Value)} {ocm1 kVm1 dcm1 pmm1 cdm1 ctm1 : Value}
    {fm2 : Addr} {odm2 anm2 : Option Addr} {slm2 : Array (Option Value)} {ocm2 kVm2 dcm2 pmm2 cdm2 ctm2 : Value}
    {fm3 : Addr} {odm3 anm3 : Option Addr} {slm3 : Array (Option Value)} {ocm3 kVm3 dcm3 pmm3 cdm3 ctm3 : Value}
    {fm4 : Addr} {odm4 anm4 : Option Addr} {slm4 : Array (Option Value)} {ocm4 kVm4 dcm4 pmm4 cdm4 ctm4 : Value}
    {fm5 : Addr} {odm5 anm5 : Option Addr} {slm5 : Array (Option Value)} {ocm5 kVm5 dcm5 pmm5 cdm5 ctm5 : Value}
    {fm6 : Addr} {odm6 anm6 : Option Addr} {slm6 : Array (Option Value)} {ocm6 kVm6 dcm6 pmm6 cdm6 ctm6 : Value}
    (a0 : PySem.W.nsIn K mainGlobals "cut_noughts" = some (some (.ref f0)))
    (l0 : K.lookup f0 = some ⟨oc0, od0, .func (PySem.W.fnOf "cut_noughts" "cut_noughts" (defArgs s_cut_noughts) (defBody s_cut_noughts) (defScope s_cut_noughts) .none kV0 dc0 pm0 an0 cd0 ct0), sl0⟩)
    (c0 : PySem.W.codeIn K cd0 "cut_noughts" = true) (k0 : PySem.W.keepIn K (.ref f0) = true)
    (a1 : PySem.W.nsIn K mainGlobals "trimmed" = some (some (.ref f1)))
    (l1 : K.lookup f1 = some ⟨oc1, od1, .func (PySem.W.fnOf "trimmed" "trimmed" (defArgs s_trimmed) (defBody s_trimmed) (defScope s_trimmed) .none kV1 dc1 pm1 an1 cd1 ct1), sl1⟩)
    (c1 : PySem.W.codeIn K cd1 "trimmed" = true) (k1 : PySem.W.keepIn K (.ref f1) = true)
    (a2 : PySem.W.nsIn K mainGlobals "scaled" = some (some (.ref f2)))
    (l2 : K.lookup f2 = some ⟨oc2, od2, .func (PySem.W.fnOf "scaled" "scaled" (defArgs s_scaled) (defBody s_scaled) (defScope s_scaled) .none kV2 dc2 pm2 an2 cd2 ct2), sl2⟩)
    (c2 : PySem.W.codeIn K cd2 "scaled" = true) (k2 : PySem.W.keepIn K (.ref f2) = true)
    (a3 : PySem.W.nsIn K mainGlobals "slope" = some (some (.ref f3)))
    (l3 : K.lookup f3 = some ⟨oc3, od3, .func (PySem.W.fnOf "slope" "slope" (defArgs s_slope) (defBody s_slope) (defScope s_slope) .none kV3 dc3 pm3 an3 cd3 ct3), sl3⟩)
    (c3 : PySem.W.codeIn K cd3 "slope" = true) (k3 : PySem.W.keepIn K (.ref f3) = true)
    (a4 : PySem.W.nsIn K mainGlobals "divided" = some (some (.ref f4)))
    (l4 : K.lookup f4 = some ⟨oc4, od4, .func (PySem.W.fnOf "divided" "divided" (defArgs s_divided) (defBody s_divided) (defScope s_divided) .none kV4 dc4 pm4 an4 cd4 ct4), sl4⟩)
    (c4 : PySem.W.codeIn K cd4 "divided" = true) (k4 : PySem.W.keepIn K (.ref f4) = true)
    (a5 : PySem.W.nsIn K mainGlobals "common" = some (some (.ref f5)))
    (l5 : K.lookup f5 = some ⟨oc5, od5, .func (PySem.W.fnOf "common" "common" (defArgs s_common) (defBody s_common) (defScope s_common) .none kV5 dc5 pm5 an5 cd5 ct5), sl5⟩)
    (c5 : PySem.W.codeIn K cd5 "common" = true) (k5 : PySem.W.keepIn K (.ref f5) = true)
    (a6 : PySem.W.nsIn K mainGlobals "with_lead_one" = some (some (.ref f6)))
    (l6 : K.lookup f6 = some ⟨oc6, od6, .func (PySem.W.fnOf "with_lead_one" "with_lead_one" (defArgs s_with_lead_one) (defBody s_with_lead_one) (defScope s_with_lead_one) .none kV6 dc6 pm6 an6 cd6 ct6), sl6⟩)
    (c6 : PySem.W.codeIn K cd6 "with_lead_one" = true) (k6 : PySem.W.keepIn K (.ref f6) = true)
    (a7 : PySem.W.nsIn K mainGlobals "turned_lead" = some (some (.ref f7)))
    (l7 : K.lookup f7 = some ⟨oc7, od7, .func (PySem.W.fnOf "turned_lead" "turned_lead" (defArgs s_turned_lead) (defBody s_turned_lead) (defScope s_turned_lead) .none kV7 dc7 pm7 an7 cd7 ct7), sl7⟩)
    (c7 : PySem.W.codeIn K cd7 "turned_lead" = true) (k7 : PySem.W.keepIn K (.ref f7) = true)
    (a8 : PySem.W.nsIn K mainGlobals "is_prime" = some (some (.ref f8)))
    (l8 : K.lookup f8 = some ⟨oc8, od8, .func (PySem.W.fnOf "is_prime" "is_prime" (defArgs s_is_prime) (defBody s_is_prime) (defScope s_is_prime) .none kV8 dc8 pm8 an8 cd8 ct8), sl8⟩)
    (c8 : PySem.W.codeIn K cd8 "is_prime" = true) (k8 : PySem.W.keepIn K (.ref f8) = true)
    (a9 : PySem.W.nsIn K mainGlobals "turned" = some (some (.ref f9)))
    (l9 : K.lookup f9 = some ⟨oc9, od9, .func (PySem.W.fnOf "turned" "turned" (defArgs s_turned) (defBody s_turned) (defScope s_turned) .none kV9 dc9 pm9 an9 cd9 ct9), sl9⟩)
    (c9 : PySem.W.codeIn K cd9 "turned" = true) (k9 : PySem.W.keepIn K (.ref f9) = true)
    (a10 : PySem.W.nsIn K mainGlobals "refuse_no_prime" = some (some (.ref f10)))
    (l10 : K.lookup f10 = some ⟨oc10, od10, .func (PySem.W.fnOf "refuse_no_prime" "refuse_no_prime" (defArgs s_refuse_no_prime) (defBody s_refuse_no_prime) (defScope s_refuse_no_prime) .none kV10 dc10 pm10 an10 cd10 ct10), sl10⟩)
    (c10 : PySem.W.codeIn K cd10 "refuse_no_prime" = true) (k10 : PySem.W.keepIn K (.ref f10) = true)
    (a11 : PySem.W.nsIn K mainGlobals "good_prime" = some (some (.ref f11)))
    (l11 : K.lookup f11 = some ⟨oc11, od11, .func (PySem.W.fnOf "good_prime" "good_prime" (defArgs s_good_prime) (defBody s_good_prime) (defScope s_good_prime) .none kV11 dc11 pm11 an11 cd11 ct11), sl11⟩)
    (c11 : PySem.W.codeIn K cd11 "good_prime" = true) (k11 : PySem.W.keepIn K (.ref f11) = true)
    (a12 : PySem.W.nsIn K mainGlobals "keeps_free_of_squares" = some (some (.ref f12)))
    (l12 : K.lookup f12 = some ⟨oc12, od12, .func (PySem.W.fnOf "keeps_free_of_squares" "keeps_free_of_squares" (defArgs s_keeps_free_of_squares) (defBody s_keeps_free_of_squares) (defScope s_keeps_free_of_squares) .none kV12 dc12 pm12 an12 cd12 ct12), sl12⟩)
    (c12 : PySem.W.codeIn K cd12 "keeps_free_of_squares" = true) (k12 : PySem.W.keepIn K (.ref f12) = true)
    (a13 : PySem.W.nsIn K mainGlobals "_law_cell_at" = some (some (.ref f13)))
    (l13 : K.lookup f13 = some ⟨oc13, od13, .func (PySem.W.fnOf "_law_cell_at" "_law_cell_at" (defArgs s_cell_at) (defBody s_cell_at) (defScope s_cell_at) .none kV13 dc13 pm13 an13 cd13 ct13), sl13⟩)
    (c13 : PySem.W.codeIn K cd13 "_law_cell_at" = true) (k13 : PySem.W.keepIn K (.ref f13) = true)
    (a14 : PySem.W.nsIn K mainGlobals "_law_head" = some (some (.ref f14)))
    (l14 : K.lookup f14 = some ⟨oc14, od14, .func (PySem.W.fnOf "_law_head" "_law_head" (defArgs s_head) (defBody s_head) (defScope s_head) .none kV14 dc14 pm14 an14 cd14 ct14), sl14⟩)
    (c14 : PySem.W.codeIn K cd14 "_law_head" = true) (k14 : PySem.W.keepIn K (.ref f14) = true)
    (a15 : PySem.W.nsIn K mainGlobals "_law_whole" = some (some (.ref f15)))
    (l15 : K.lookup f15 = some ⟨oc15, od15, .func (PySem.W.fnOf "_law_whole" "_law_whole" (defArgs s_whole) (defBody s_whole) (defScope s_whole) .none kV15 dc15 pm15 an15 cd15 ct15), sl15⟩)
    (c15 : PySem.W.codeIn K cd15 "_law_whole" = true) (k15 : PySem.W.keepIn K (.ref f15) = true)
    (a16 : PySem.W.nsIn K mainGlobals "_law_alike" = some (some (.ref f16)))
    (l16 : K.lookup f16 = some ⟨oc16, od16, .func (PySem.W.fnOf "_law_alike" "_law_alike" (defArgs s_alike) (defBody s_alike) (defScope s_alike) .none kV16 dc16 pm16 an16 cd16 ct16), sl16⟩)
    (c16 : PySem.W.codeIn K cd16 "_law_alike" = true) (k16 : PySem.W.keepIn K (.ref f16) = true)
    (a17 : PySem.W.nsIn K mainGlobals "_law_trim" = some (some (.ref f17)))
    (l17 : K.lookup f17 = some ⟨oc17, od17, .func (PySem.W.fnOf "_law_trim" "_law_trim" (defArgs s_trim) (defBody s_trim) (defScope s_trim) .none kV17 dc17 pm17 an17 cd17 ct17), sl17⟩)
    (c17 : PySem.W.codeIn K cd17 "_law_trim" = true) (k17 : PySem.W.keepIn K (.ref f17) = true)
    (a18 : PySem.W.nsIn K mainGlobals "_law_times" = some (some (.ref f18)))
    (l18 : K.lookup f18 = some ⟨oc18, od18, .func (PySem.W.fnOf "_law_times" "_law_times" (defArgs s_times) (defBody s_times) (defScope s_times) .none kV18 dc18 pm18 an18 cd18 ct18), sl18⟩)
    (c18 : PySem.W.codeIn K cd18 "_law_times" = true) (k18 : PySem.W.keepIn K (.ref f18) = true)
    (a19 : PySem.W.nsIn K mainGlobals "_law_divisor" = some (some (.ref f19)))
    (l19 : K.lookup f19 = some ⟨oc19, od19, .func (PySem.W.fnOf "_law_divisor" "_law_divisor" (defArgs s_divisor) (defBody s_divisor) (defScope s_divisor) .none kV19 dc19 pm19 an19 cd19 ct19), sl19⟩)
    (c19 : PySem.W.codeIn K cd19 "_law_divisor" = true) (k19 : PySem.W.keepIn K (.ref f19) = true)
    (a20 : PySem.W.nsIn K mainGlobals "_law_content" = some (some (.ref f20)))
    (l20 : K.lookup f20 = some ⟨oc20, od20, .func (PySem.W.fnOf "_law_content" "_law_content" (defArgs s_content) (defBody s_content) (defScope s_content) .none kV20 dc20 pm20 an20 cd20 ct20), sl20⟩)
    (c20 : PySem.W.codeIn K cd20 "_law_content" = true) (k20 : PySem.W.keepIn K (.ref f20) = true)
    (a21 : PySem.W.nsIn K mainGlobals "_law_bare" = some (some (.ref f21)))
    (l21 : K.lookup f21 = some ⟨oc21, od21, .func (PySem.W.fnOf "_law_bare" "_law_bare" (defArgs s_bare) (defBody s_bare) (defScope s_bare) .none kV21 dc21 pm21 an21 cd21 ct21), sl21⟩)
    (c21 : PySem.W.codeIn K cd21 "_law_bare" = true) (k21 : PySem.W.keepIn K (.ref f21) = true)
    (a22 : PySem.W.nsIn K mainGlobals "_law_is_prime" = some (some (.ref f22)))
    (l22 : K.lookup f22 = some ⟨oc22, od22, .func (PySem.W.fnOf "_law_is_prime" "_law_is_prime" (defArgs s_law_is_prime) (defBody s_law_is_prime) (defScope s_law_is_prime) .none kV22 dc22 pm22 an22 cd22 ct22), sl22⟩)
    (c22 : PySem.W.codeIn K cd22 "_law_is_prime" = true) (k22 : PySem.W.keepIn K (.ref f22) = true)
    (a23 : PySem.W.nsIn K mainGlobals "_law_pieces" = some (some (.ref f23)))
    (l23 : K.lookup f23 = some ⟨oc23, od23, .func (PySem.W.fnOf "_law_pieces" "_law_pieces" (defArgs s_pieces) (defBody s_pieces) (defScope s_pieces) .none kV23 dc23 pm23 an23 cd23 ct23), sl23⟩)
    (c23 : PySem.W.codeIn K cd23 "_law_pieces" = true) (k23 : PySem.W.keepIn K (.ref f23) = true)
    (a24 : PySem.W.nsIn K mainGlobals "_law_stays" = some (some (.ref f24)))
    (l24 : K.lookup f24 = some ⟨oc24, od24, .func (PySem.W.fnOf "_law_stays" "_law_stays" (defArgs s_stays) (defBody s_stays) (defScope s_stays) .none kV24 dc24 pm24 an24 cd24 ct24), sl24⟩)
    (c24 : PySem.W.codeIn K cd24 "_law_stays" = true) (k24 : PySem.W.keepIn K (.ref f24) = true)
    (a25 : PySem.W.nsIn K mainGlobals "law" = some (some (.ref f25)))
    (l25 : K.lookup f25 = some ⟨oc25, od25, .func (PySem.W.fnOf "law" "law" (defArgs s_law) (defBody s_law) (defScope s_law) .none kV25 dc25 pm25 an25 cd25 ct25), sl25⟩)
    (c25 : PySem.W.codeIn K cd25 "law" = true) (k25 : PySem.W.keepIn K (.ref f25) = true)
    (z0 : PySem.W.nsIn K mainGlobals "len" = some none)
    (z1 : PySem.W.nsIn K mainGlobals "range" = some none)
    (z2 : PySem.W.nsIn K mainGlobals "isinstance" = some none)
    (z3 : PySem.W.nsIn K mainGlobals "bool" = some none)
    (z4 : PySem.W.nsIn K mainGlobals "int" = some none)
    (z5 : PySem.W.nsIn K mainGlobals "list" = some none)
    (z6 : PySem.W.nsIn K mainGlobals "max" = some none)
    (z7 : PySem.W.nsIn K mainGlobals "abs" = some none)
    (z8 : PySem.W.nsIn K mainGlobals "enumerate" = some none)
    (y0 : PySem.W.nsIn K mainGlobals "LARGEST_PRIME" = some (some (.int 9973 tk0)))
    (q_NoOver : PySem.W.nsIn K mainGlobals "NoOver" = some (some (.ref cNO)))
    (e_NoOver : PySem.W.excIn K cNO bmV "ValueError.__new__" = true)
    (q_NoPrime : PySem.W.nsIn K mainGlobals "NoPrime" = some (some (.ref cNP)))
    (e_NoPrime : PySem.W.excIn K cNP bmV "ValueError.__new__" = true)
    (q_Kind : PySem.W.nsIn K mainGlobals "Kind" = some (some (.ref cK)))
    (q_Wholes : PySem.W.nsIn K mainGlobals "Wholes" = some (some (.ref cW)))
    (pg_Wholes : PySem.W.plainGet K cW Str.empty = true)
    (hd_Wholes : PySem.W.hasDictIn K cW = true)
    (po_Wholes : PySem.W.plainOver K cW = true)
    (sa_Wholes : PySem.W.findIn K (.ref cW) "__setattr__" = some (some (.builtin "object.__setattr__")))
    (na_Wholes_size : PySem.W.findIn K (.ref cW) "size" = some none)
    (q_Rests : PySem.W.nsIn K mainGlobals "Rests" = some (some (.ref cR)))
    (pg_Rests : PySem.W.plainGet K cR Str.empty = true)
    (hd_Rests : PySem.W.hasDictIn K cR = true)
    (po_Rests : PySem.W.plainOver K cR = true)
    (sa_Rests : PySem.W.findIn K (.ref cR) "__setattr__" = some (some (.builtin "object.__setattr__")))
    (na_Rests_size : PySem.W.findIn K (.ref cR) "size" = some none)
    (fcm0 : PySem.W.findCls K (.ref cK) (.type "type") "__init__" = some (.val (.ref fm0)))
    (lm0 : K.lookup fm0 = some ⟨ocm0, odm0, .func (PySem.W.fnOf "__init__" "Kind.__init__" (defArgs s_Kind_init) (defBody s_Kind_init) (defScope s_Kind_init) .none kVm0 dcm0 pmm0 anm0 cdm0 ctm0), slm0⟩)
    (cm0 : PySem.W.codeIn K cdm0 "Kind.__init__" = true) (km0 : PySem.W.keepIn K (.ref fm0) = true)
    (gam0 : PySem.W.specialIn K (.ref cK) "__getattribute__" = some (some (.builtin "type.__getattribute__")))
    (rdm0 : PySem.W.readsIn K cK (.type "type") = true)
    (gm1_Rests : PySem.W.findIn K (.ref cR) "plain" = some (some (.ref fm1)))
    (lm1 : K.lookup fm1 = some ⟨ocm1, odm1, .func (PySem.W.fnOf "plain" "Kind.plain" (defArgs s_Kind_plain) (defBody s_Kind_plain) (defScope s_Kind_plain) .none kVm1 dcm1 pmm1 anm1 cdm1 ctm1), slm1⟩)
    (cm1 : PySem.W.codeIn K cdm1 "Kind.plain" = true) (km1 : PySem.W.keepIn K (.ref fm1) = true)
    (fnm1 : PySem.W.isFn K (.ref fm1) = true)
    (gm2_Rests : PySem.W.findIn K (.ref cR) "over" = some (some (.ref fm2)))
    (lm2 : K.lookup fm2 = some ⟨ocm2, odm2, .func (PySem.W.fnOf "over" "Kind.over" (defArgs s_Kind_over) (defBody s_Kind_over) (defScope s_Kind_over) .none kVm2 dcm2 pmm2 anm2 cdm2 ctm2), slm2⟩)
    (cm2 : PySem.W.codeIn K cdm2 "Kind.over" = true) (km2 : PySem.W.keepIn K (.ref fm2) = true)
    (fnm2 : PySem.W.isFn K (.ref fm2) = true)
    (fim3 : PySem.W.findIn K (.ref cW) "__init__" = some (some (.ref fm3)))
    (lm3 : K.lookup fm3 = some ⟨ocm3, odm3, .func (PySem.W.fnOf "__init__" "Wholes.__init__" (defArgs s_Wholes_init) (defBody s_Wholes_init) (defScope s_Wholes_init) .none kVm3 dcm3 pmm3 anm3 cdm3 ctm3), slm3⟩)
    (cm3 : PySem.W.codeIn K cdm3 "Wholes.__init__" = true) (km3 : PySem.W.keepIn K (.ref fm3) = true)
    (mkm3 : PySem.W.makesIn K cW = true)
    (fnm3 : PySem.W.isFn K (.ref fm3) = true)
    (kcm3 : PySem.W.keepIn K (.ref cW) = true)
    (gm4_Wholes : PySem.W.findIn K (.ref cW) "plain" = some (some (.ref fm4)))
    (lm4 : K.lookup fm4 = some ⟨ocm4, odm4, .func (PySem.W.fnOf "plain" "Wholes.plain" (defArgs s_Wholes_plain) (defBody s_Wholes_plain) (defScope s_Wholes_plain) .none kVm4 dcm4 pmm4 anm4 cdm4 ctm4), slm4⟩)
    (cm4 : PySem.W.codeIn K cdm4 "Wholes.plain" = true) (km4 : PySem.W.keepIn K (.ref fm4) = true)
    (fnm4 : PySem.W.isFn K (.ref fm4) = true)
    (gm5_Wholes : PySem.W.findIn K (.ref cW) "over" = some (some (.ref fm5)))
    (lm5 : K.lookup fm5 = some ⟨ocm5, odm5, .func (PySem.W.fnOf "over" "Wholes.over" (defArgs s_Wholes_over) (defBody s_Wholes_over) (defScope s_Wholes_over) .none kVm5 dcm5 pmm5 anm5 cdm5 ctm5), slm5⟩)
    (cm5 : PySem.W.codeIn K cdm5 "Wholes.over" = true) (km5 : PySem.W.keepIn K (.ref fm5) = true)
    (fnm5 : PySem.W.isFn K (.ref fm5) = true)
    (fim6 : PySem.W.findIn K (.ref cR) "__init__" = some (some (.ref fm6)))
    (lm6 : K.lookup fm6 = some ⟨ocm6, odm6, .func (PySem.W.fnOf "__init__" "Rests.__init__" (defArgs s_Rests_init) (defBody s_Rests_init) (defScope s_Rests_init) .none kVm6 dcm6 pmm6 anm6 cdm6 ctm6), slm6⟩)
    (cm6 : PySem.W.codeIn K cdm6 "Rests.__init__" = true) (km6 : PySem.W.keepIn K (.ref fm6) = true)
    (mkm6 : PySem.W.makesIn K cR = true)
    (fnm6 : PySem.W.isFn K (.ref fm6) = true)
    (kcm6 : PySem.W.keepIn K (.ref cR) = true)
    (i0 : PySem.W.kitOne K (.type "int") (.type "int") = some true)
    (i1 : PySem.W.kitOne K (.type "int") (.type "bool") = some false)
    (i2 : PySem.W.kitOne K (.type "list") (.type "list") = some true) :
    ∃ fd : FuncData, (∀ (s : Shared) (v : Value), BindsTo s fd ⟨[v], []⟩ [("_law_script", v)]) ∧ ∀ base : Heap, K.In base → base.Ns mainGlobals mg → FnOk l.prog w K mg base CX0 9 fa fd ["_law_script"] (spLaw2 K) := by
  have e := hfa.symm.trans (PySem.W.mg_of X G a25)
  cases e
  have F0 := fun_mk (st := s_cut_noughts) l0 c0 k0
  have b0 := F0.binds (ps := ["numbers"]) fun _ _ _ _ _ _ us hl => match us, hl with | [_], _ => rfl
  have F1 := fun_mk (st := s_trimmed) l1 c1 k1
  have b1 := F1.binds (ps := ["kind", "f"]) fun _ _ _ _ _ _ us hl => match us, hl with | [_, _], _ => rfl
  have F2 := fun_mk (st := s_scaled) l2 c2 k2
  have b2 := F2.binds (ps := ["kind", "f", "number"]) fun _ _ _ _ _ _ us hl => match us, hl with | [_, _, _], _ => rfl
  have F3 := fun_mk (st := s_slope) l3 c3 k3
  have b3 := F3.binds (ps := ["kind", "f"]) fun _ _ _ _ _ _ us hl => match us, hl with | [_, _], _ => rfl
  have F4 := fun_mk (st := s_divided) l4 c4 k4
  have b4 := F4.binds (ps := ["kind", "f", "g"]) fun _ _ _ _ _ _ us hl => match us, hl with | [_, _, _], _ => rfl
  have F5 := fun_mk (st := s_common) l5 c5 k5
  have b5 := F5.binds (ps := ["kind", "f", "g"]) fun _ _ _ _ _ _ us hl => match us, hl with | [_, _, _], _ => rfl
  have F6 := fun_mk (st := s_with_lead_one) l6 c6 k6
  have b6 := F6.binds (ps := ["kind", "f"]) fun _ _ _ _ _ _ us hl => match us, hl with | [_, _], _ => rfl
  have F7 := fun_mk (st := s_turned_lead) l7 c7 k7
  have b7 := F7.binds (ps := ["kind", "f"]) fun _ _ _ _ _ _ us hl => match us, hl with | [_, _], _ => rfl
  have F8 := fun_mk (st := s_is_prime) l8 c8 k8
  have b8 := F8.binds (ps := ["number"]) fun _ _ _ _ _ _ us hl => match us, hl with | [_], _ => rfl
  have F9 := fun_mk (st := s_turned) l9 c9 k9
  have b9 := F9.binds (ps := ["number", "size"]) fun _ _ _ _ _ _ us hl => match us, hl with | [_, _], _ => rfl
  have F10 := fun_mk (st := s_refuse_no_prime) l10 c10 k10
  have b10 := F10.binds (ps := ["number"]) fun _ _ _ _ _ _ us hl => match us, hl with | [_], _ => rfl
  have F11 := fun_mk (st := s_good_prime) l11 c11 k11
  have b11 := F11.binds (ps := ["g"]) fun _ _ _ _ _ _ us hl => match us, hl with | [_], _ => rfl
  have F12 := fun_mk (st := s_keeps_free_of_squares) l12 c12 k12
  have b12 := F12.binds (ps := ["prime", "g"]) fun _ _ _ _ _ _ us hl => match us, hl with | [_, _], _ => rfl
  have F13 := fun_mk (st := s_cell_at) l13 c13 k13
  have b13 := F13.binds (ps := ["_law_script", "_law_k"]) fun _ _ _ _ _ _ us hl => match us, hl with | [_, _], _ => rfl
  have F14 := fun_mk (st := s_head) l14 c14 k14
  have b14 := F14.binds (ps := ["_law_script"]) fun _ _ _ _ _ _ us hl => match us, hl with | [_], _ => rfl
  have F15 := fun_mk (st := s_whole) l15 c15 k15
  have b15 := F15.binds (ps := ["_law_found"]) fun _ _ _ _ _ _ us hl => match us, hl with | [_], _ => rfl
  have F16 := fun_mk (st := s_alike) l16 c16 k16
  have b16 := F16.binds (ps := ["_law_found", "_law_due"]) fun _ _ _ _ _ _ us hl => match us, hl with | [_, _], _ => rfl
  have F17 := fun_mk (st := s_trim) l17 c17 k17
  have b17 := F17.binds (ps := ["_law_row", "_law_size"]) fun _ _ _ _ _ _ us hl => match us, hl with | [_, _], _ => rfl
  have F18 := fun_mk (st := s_times) l18 c18 k18
  have b18 := F18.binds (ps := ["_law_f", "_law_g", "_law_size"]) fun _ _ _ _ _ _ us hl => match us, hl with | [_, _, _], _ => rfl
  have F19 := fun_mk (st := s_divisor) l19 c19 k19
  have b19 := F19.binds (ps := ["_law_one", "_law_other"]) fun _ _ _ _ _ _ us hl => match us, hl with | [_, _], _ => rfl
  have F20 := fun_mk (st := s_content) l20 c20 k20
  have b20 := F20.binds (ps := ["_law_f"]) fun _ _ _ _ _ _ us hl => match us, hl with | [_], _ => rfl
  have F21 := fun_mk (st := s_bare) l21 c21 k21
  have b21 := F21.binds (ps := ["_law_f"]) fun _ _ _ _ _ _ us hl => match us, hl with | [_], _ => rfl
  have F22 := fun_mk (st := s_law_is_prime) l22 c22 k22
  have b22 := F22.binds (ps := ["_law_number"]) fun _ _ _ _ _ _ us hl => match us, hl with | [_], _ => rfl
  have F23 := fun_mk (st := s_pieces) l23 c23 k23
  have b23 := F23.binds (ps := ["_law_script"]) fun _ _ _ _ _ _ us hl => match us, hl with | [_], _ => rfl
  have F24 := fun_mk (st := s_stays) l24 c24 k24
  have b24 := F24.binds (ps := ["_law_pieces_here", "_law_last", "_law_prime"]) fun _ _ _ _ _ _ us hl => match us, hl with | [_, _, _], _ => rfl
  have F25 := fun_mk (st := s_law) l25 c25 k25
  have Fm0 := fun_mk (st := s_Kind_init) lm0 cm0 km0
  have bm0 := Fm0.binds (ps := ["self", "size"]) fun _ _ _ _ _ _ us hl => match us, hl with | [_, _], _ => rfl
  have Fm1 := fun_mk (st := s_Kind_plain) lm1 cm1 km1
  have bm1 := Fm1.binds (ps := ["self", "number"]) fun _ _ _ _ _ _ us hl => match us, hl with | [_, _], _ => rfl
  have Fm2 := fun_mk (st := s_Kind_over) lm2 cm2 km2
  have bm2 := Fm2.binds (ps := ["self", "a", "b"]) fun _ _ _ _ _ _ us hl => match us, hl with | [_, _, _], _ => rfl
  have Fm3 := fun_mk (st := s_Wholes_init) lm3 cm3 km3
  have bm3 := Fm3.binds (ps := ["self"]) fun _ _ _ _ _ _ us hl => match us, hl with | [_], _ => rfl
  have Fm4 := fun_mk (st := s_Wholes_plain) lm4 cm4 km4
  have bm4 := Fm4.binds (ps := ["self", "number"]) fun _ _ _ _ _ _ us hl => match us, hl with | [_, _], _ => rfl
  have Fm5 := fun_mk (st := s_Wholes_over) lm5 cm5 km5
  have bm5 := Fm5.binds (ps := ["self", "a", "b"]) fun _ _ _ _ _ _ us hl => match us, hl with | [_, _, _], _ => rfl
  have Fm6 := fun_mk (st := s_Rests_init) lm6 cm6 km6
  have bm6 := Fm6.binds (ps := ["self", "prime"]) fun _ _ _ _ _ _ us hl => match us, hl with | [_, _], _ => rfl
  have T : Top K mg cNO cNP cK cW cR := ⟨Def.mk' F0 b0 (PySem.W.mg_of X G a0),
    Def.mk' F1 b1 (PySem.W.mg_of X G a1),
    Def.mk' F2 b2 (PySem.W.mg_of X G a2),
    Def.mk' F3 b3 (PySem.W.mg_of X G a3),
    Def.mk' F4 b4 (PySem.W.mg_of X G a4),
    Def.mk' F5 b5 (PySem.W.mg_of X G a5),
    Def.mk' F6 b6 (PySem.W.mg_of X G a6),
    Def.mk' F7 b7 (PySem.W.mg_of X G a7),
    Def.mk' F8 b8 (PySem.W.mg_of X G a8),
    Def.mk' F9 b9 (PySem.W.mg_of X G a9),
    Def.mk' F10 b10 (PySem.W.mg_of X G a10),
    Def.mk' F11 b11 (PySem.W.mg_of X G a11),
    Def.mk' F12 b12 (PySem.W.mg_of X G a12),
    Def.mk' F13 b13 (PySem.W.mg_of X G a13),
    Def.mk' F14 b14 (PySem.W.mg_of X G a14),
    Def.mk' F15 b15 (PySem.W.mg_of X G a15),
    Def.mk' F16 b16 (PySem.W.mg_of X G a16),
    Def.mk' F17 b17 (PySem.W.mg_of X G a17),
    Def.mk' F18 b18 (PySem.W.mg_of X G a18),
    Def.mk' F19 b19 (PySem.W.mg_of X G a19),
    Def.mk' F20 b20 (PySem.W.mg_of X G a20),
    Def.mk' F21 b21 (PySem.W.mg_of X G a21),
    Def.mk' F22 b22 (PySem.W.mg_of X G a22),
    Def.mk' F23 b23 (PySem.W.mg_of X G a23),
    Def.mk' F24 b24 (PySem.W.mg_of X G a24),
    PySem.W.mg_none_of X G z0,
    PySem.W.mg_none_of X G z1,
    PySem.W.mg_none_of X G z2,
    PySem.W.mg_none_of X G z3,
    PySem.W.mg_none_of X G z4,
    PySem.W.mg_none_of X G z5,
    PySem.W.mg_none_of X G z6,
    PySem.W.mg_none_of X G z7,
    PySem.W.mg_none_of X G z8,
    ⟨_, PySem.W.mg_of X G y0⟩,
    i0,
    i1,
    i2,
    PySem.W.mg_of X G q_NoOver,
    e_NoOver,
    PySem.W.mg_of X G q_NoPrime,
    e_NoPrime,
    PySem.W.mg_of X G q_Kind,
    PySem.W.mg_of X G q_Wholes,
    ⟨pg_Wholes, hd_Wholes, po_Wholes, sa_Wholes⟩,
    na_Wholes_size,
    PySem.W.mg_of X G q_Rests,
    ⟨pg_Rests, hd_Rests, po_Rests, sa_Rests⟩,
    na_Rests_size,
    ⟨_, _, Fm0, bm0, gam0, rdm0, fcm0, km0⟩,
    ⟨_, _, Fm1, bm1, ⟨gm1_Rests, fnm1, km1⟩⟩,
    ⟨_, _, Fm2, bm2, ⟨gm2_Rests, fnm2, km2⟩⟩,
    ⟨_, _, Fm3, bm3, mkm3, fim3, fnm3, kcm3⟩,
    ⟨_, _, Fm4, bm4, ⟨gm4_Wholes, fnm4, km4⟩⟩,
    ⟨_, _, Fm5, bm5, ⟨gm5_Wholes, fnm5, km5⟩⟩,
    ⟨_, _, Fm6, bm6, mkm6, fim6, fnm6, kcm6⟩⟩
  exact ⟨_, fun s v => .of_eq rfl, fun base _ _ => kx_law T F25⟩
theorem walk {l : PySem.W.OpenLaw} {q : Program} {loose : List Str} {XP : (Str → Option Value) → Heap → Prop} {YP : World → Heap → Prop} {d : DefRec} {K : Params → PySem.W.Frag} (hn : l.most = some 63) (hdf : d.params.defaults = [])
    (hY : ∀ (w : World) (h : Heap), YP w h → (K w.params).In h)
    (F : ∀ (w : World) (mg : Str → Option Value) (fa : Addr) (h : Heap), (K w.params).In h → h.Ns mainGlobals mg → mg d.name = some (.ref fa) →
      ∃ fd : FuncData, (∀ (s : Shared) (u : Value), BindsTo s fd ⟨[u], []⟩ [("_law_script", u)]) ∧ ∀ base : Heap, (K w.params).In base → base.Ns mainGlobals mg → FnOk l.prog w (K w.params) mg base CX0 9 fa fd ["_law_script"] (spLaw2 (K w.params))) :
    PySem.W.WalkO q loose XP YP l.row.toRowW d [] (fun f vs => PySem.call f vs) :=
  L2.walk_of2 (n := 63) (k := 9) (x := "_law_script") (CX := fun _ => CX0) (sp := fun w => spLaw2 (K w.params)) hn (by decide) hdf ⟨rfl, by decide, by decide⟩ hY F (fun _ _ a ns hl hb hS => ⟨a, ns, rfl, hS, hl, hb, fun _ => rfl⟩) fun _ _ _ _ _ z => z
end K67
local macro_rules | `(tactic| o_head $H) => `(tactic| (refine PySem.W.holds_open (q := K67.view) (loose := []) (Xt := fun s => PySem.W.xlAt K67.view [] s && PySem.W.recOk (PySem.W.RowW.records PySem.Challenge.rw_factorforge_k67_good_prime.row.toRowW) s) (XP := PySem.W.XL K67.view []) (Yf := PySem.W.Hook.obs $H) (Ya := PySem.W.Hook.val $H) (YP := PySem.W.Hook.says $H) (N := 20000) ?hl (PySem.W.Hook.of $H) (PySem.W.Hook.keeps $H) (fun s e => PySem.W.xl_of s (Bool.and_eq_true_iff.mp e).1) PySem.W.XL.keeps (by rfl) (by rfl) (by rfl) (fun s e => PySem.W.recFacts_of (Bool.and_eq_true_iff.mp e).2) (by rfl) (by first | assumption | decide +kernel) (by decide +kernel) ⟨rfl, rfl, rfl, rfl, rfl, by decide +kernel⟩ ?hw ?hc; (case hl => (intro w; exact K67.opt4 (K67.hA1 w) (K67.hA2 w) (K67.hB w) (by kernel_rfl)))))
open PySem PySem.W PyProof.Rows
set_option maxRecDepth 100000 in
set_option maxHeartbeats 0 in
theorem PySem.Challenge.cw_factorforge_k67_good_prime_holds : PySem.Challenge.rw_factorforge_k67_good_prime.Holds := by
  w_on; o_law; k_head; (rotate_left; rotate_right); (· w_witness2)
  k_fill
  refine K67.walk (l := PySem.Challenge.rw_factorforge_k67_good_prime) rfl rfl (fun w h Y => PySem.W.kIn_of Y) ?F
  case F =>
    intro w mg fa h KX G hmg
    refine' K67.all_mk KX G hmg ?a0 ?l0 ?c0 ?k0 ?a1 ?l1 ?c1 ?k1 ?a2 ?l2 ?c2 ?k2 ?a3 ?l3 ?c3 ?k3 ?a4 ?l4 ?c4 ?k4 ?a5 ?l5 ?c5 ?k5 ?a6 ?l6 ?c6 ?k6 ?a7 ?l7 ?c7 ?k7 ?a8 ?l8 ?c8 ?k8 ?a9 ?l9 ?c9 ?k9 ?a10 ?l10 ?c10 ?k10 ?a11 ?l11 ?c11 ?k11 ?a12 ?l12 ?c12 ?k12 ?a13 ?l13 ?c13 ?k13 ?a14 ?l14 ?c14 ?k14 ?a15 ?l15 ?c15 ?k15 ?a16 ?l16 ?c16 ?k16 ?a17 ?l17 ?c17 ?k17 ?a18 ?l18 ?c18 ?k18 ?a19 ?l19 ?c19 ?k19 ?a20 ?l20 ?c20 ?k20 ?a21 ?l21 ?c21 ?k21 ?a22 ?l22 ?c22 ?k22 ?a23 ?l23 ?c23 ?k23 ?a24 ?l24 ?c24 ?k24 ?a25 ?l25 ?c25 ?k25 ?z0 ?z1 ?z2 ?z3 ?z4 ?z5 ?z6 ?z7 ?z8 ?y0 ?q_NoOver ?e_NoOver ?q_NoPrime ?e_NoPrime ?q_Kind ?q_Wholes ?pg_Wholes ?hd_Wholes ?po_Wholes ?sa_Wholes ?na_Wholes_size ?q_Rests ?pg_Rests ?hd_Rests ?po_Rests ?sa_Rests ?na_Rests_size ?fcm0 ?lm0 ?cm0 ?km0 ?gam0 ?rdm0 ?gm1_Rests ?lm1 ?cm1 ?km1 ?fnm1 ?gm2_Rests ?lm2 ?cm2 ?km2 ?fnm2 ?fim3 ?lm3 ?cm3 ?km3 ?mkm3 ?fnm3 ?kcm3 ?gm4_Wholes ?lm4 ?cm4 ?km4 ?fnm4 ?gm5_Wholes ?lm5 ?cm5 ?km5 ?fnm5 ?fim6 ?lm6 ?cm6 ?km6 ?mkm6 ?fnm6 ?kcm6 ?i0 ?i1 ?i2
    (case a0 => k_is)
    (case l0 => k_is)
    (case c0 => k_is)
    (case k0 => k_is)
    (case a1 => k_is)
    (case l1 => k_is)
    (case c1 => k_is)
    (case k1 => k_is)
    (case a2 => k_is)
    (case l2 => k_is)
    (case c2 => k_is)
    (case k2 => k_is)
    (case a3 => k_is)
    (case l3 => k_is)
    (case c3 => k_is)
    (case k3 => k_is)
    (case a4 => k_is)
    (case l4 => k_is)
    (case c4 => k_is)
    (case k4 => k_is)
    (case a5 => k_is)
    (case l5 => k_is)
    (case c5 => k_is)
    (case k5 => k_is)
    (case a6 => k_is)
    (case l6 => k_is)
    (case c6 => k_is)
    (case k6 => k_is)
    (case a7 => k_is)
    (case l7 => k_is)
    (case c7 => k_is)
    (case k7 => k_is)
    (case a8 => k_is)
    (case l8 => k_is)
    (case c8 => k_is)
    (case k8 => k_is)
    (case a9 => k_is)
    (case l9 => k_is)
    (case c9 => k_is)
    (case k9 => k_is)
    (case a10 => k_is)
    (case l10 => k_is)
    (case c10 => k_is)
    (case k10 => k_is)
    (case a11 => k_is)
    (case l11 => k_is)
    (case c11 => k_is)
    (case k11 => k_is)
    (case a12 => k_is)
    (case l12 => k_is)
    (case c12 => k_is)
    (case k12 => k_is)
    (case a13 => k_is)
    (case l13 => k_is)
    (case c13 => k_is)
    (case k13 => k_is)
    (case a14 => k_is)
    (case l14 => k_is)
    (case c14 => k_is)
    (case k14 => k_is)
    (case a15 => k_is)
    (case l15 => k_is)
    (case c15 => k_is)
    (case k15 => k_is)
    (case a16 => k_is)
    (case l16 => k_is)
    (case c16 => k_is)
    (case k16 => k_is)
    (case a17 => k_is)
    (case l17 => k_is)
    (case c17 => k_is)
    (case k17 => k_is)
    (case a18 => k_is)
    (case l18 => k_is)
    (case c18 => k_is)
    (case k18 => k_is)
    (case a19 => k_is)
    (case l19 => k_is)
    (case c19 => k_is)
    (case k19 => k_is)
    (case a20 => k_is)
    (case l20 => k_is)
    (case c20 => k_is)
    (case k20 => k_is)
    (case a21 => k_is)
    (case l21 => k_is)
    (case c21 => k_is)
    (case k21 => k_is)
    (case a22 => k_is)
    (case l22 => k_is)
    (case c22 => k_is)
    (case k22 => k_is)
    (case a23 => k_is)
    (case l23 => k_is)
    (case c23 => k_is)
    (case k23 => k_is)
    (case a24 => k_is)
    (case l24 => k_is)
    (case c24 => k_is)
    (case k24 => k_is)
    (case a25 => k_is)
    (case l25 => k_is)
    (case c25 => k_is)
    (case k25 => k_is)
    (case z0 => k_is)
    (case z1 => k_is)
    (case z2 => k_is)
    (case z3 => k_is)
    (case z4 => k_is)
    (case z5 => k_is)
    (case z6 => k_is)
    (case z7 => k_is)
    (case z8 => k_is)
    (case y0 => k_is)
    (case q_NoOver => k_is)
    (case e_NoOver => k_exc)
    (case q_NoPrime => k_is)
    (case e_NoPrime => k_exc)
    (case q_Kind => k_is)
    (case q_Wholes => k_is)
    (case pg_Wholes => k_is)
    (case hd_Wholes => k_is)
    (case po_Wholes => k_is)
    (case sa_Wholes => k_is)
    (case na_Wholes_size => k_is)
    (case q_Rests => k_is)
    (case pg_Rests => k_is)
    (case hd_Rests => k_is)
    (case po_Rests => k_is)
    (case sa_Rests => k_is)
    (case na_Rests_size => k_is)
    (case fcm0 => k_is)
    (case lm0 => k_is)
    (case cm0 => k_is)
    (case km0 => k_is)
    (case gam0 => k_is)
    (case rdm0 => k_is)
    (case gm1_Rests => k_is)
    (case lm1 => k_is)
    (case cm1 => k_is)
    (case km1 => k_is)
    (case fnm1 => k_is)
    (case gm2_Rests => k_is)
    (case lm2 => k_is)
    (case cm2 => k_is)
    (case km2 => k_is)
    (case fnm2 => k_is)
    (case fim3 => k_is)
    (case lm3 => k_is)
    (case cm3 => k_is)
    (case km3 => k_is)
    (case mkm3 => k_is)
    (case fnm3 => k_is)
    (case kcm3 => k_is)
    (case gm4_Wholes => k_is)
    (case lm4 => k_is)
    (case cm4 => k_is)
    (case km4 => k_is)
    (case fnm4 => k_is)
    (case gm5_Wholes => k_is)
    (case lm5 => k_is)
    (case cm5 => k_is)
    (case km5 => k_is)
    (case fnm5 => k_is)
    (case fim6 => k_is)
    (case lm6 => k_is)
    (case cm6 => k_is)
    (case km6 => k_is)
    (case mkm6 => k_is)
    (case fnm6 => k_is)
    (case kcm6 => k_is)
    (case i0 => kit_is)
    (case i1 => kit_is)
    (case i2 => kit_is)
