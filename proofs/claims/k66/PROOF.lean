import PyProof.Rows.All
import Wide.All
import KE.KNestM
import KE.KUnpack
import KE.KEqDeep
import KE.KPassesOwn
import KE.RegKIsAll
import KE.RegKTryMore
import OpenK.KOwn
import KE.KItem
import KE.KNest
import KE.KLam
import KE.KSortKey
import KE.KSortTup
import KE.KRevIter
import Wide.FinOn
import Lean
import PyProof.EqAt
import PyProof.EqKinds
import PyProof.TupleCall
import KE.KNest
import KE.KNestM
import KE.KLam
import KE.KSortKey
import KE.KSortTup
import PyProof.Rows.SortRuns
import PyProof.Rows.RuleB_lshift
import PyProof.Rows.RuleB_rshift
import PyProof.Rows.RuleB_and
import KE.KBits
import PySem.Challenge.RW_factorforge_k66_sets_and_candidates
set_option Elab.async false
set_option linter.all false
set_option maxRecDepth 100000
set_option maxHeartbeats 4000000
local macro_rules | `(tactic| omega) => `(tactic| lia)
section
open PySem PySem.W PyProof.Rows
namespace K66
noncomputable def top (i : Nat) : Stmt := PySem.Challenge.pw_factorforge_k66_sets_and_candidates.main.body.getD i (.Pass ⟨0, 0, 0, 0⟩)
end K66
noncomputable def K66.view : PySem.Program := { PySem.Challenge.rw_factorforge_k66_sets_and_candidates.row.toRowW.prog with main := { PySem.Challenge.rw_factorforge_k66_sets_and_candidates.row.toRowW.prog.main with body := [K66.top 0, K66.top 2, K66.top 3, K66.top 5, K66.top 6, K66.top 7, K66.top 9, K66.top 10, K66.top 11, K66.top 12, K66.top 13, K66.top 15, K66.top 16, K66.top 17, K66.top 18, K66.top 19, K66.top 20, K66.top 21, K66.top 22, K66.top 23, K66.top 24, K66.top 25] } }
def X.trT (tb : String → Option Builtin) (p : Program) (w : World) (n₀ : Nat) (ann : Option Value) : Nat → SharedT → Thread → Option SharedT
  | 0, _, _ => none
  | n + 1, s, t => match through t with
    | true => some s
    | false => match stepOk n₀ ann t with
      | false => none
      | true => match stepT (denote tb) p w s t with
        | some (s', t') => X.trT tb p w n₀ ann n s' t'
        | none => none
theorem X.trT_of {tb : String → Option Builtin} {p : Program} {w : World} {n₀ : Nat} {ann : Option Value} : ∀ {n : Nat} {s s' : SharedT} {t : Thread}, X.trT tb p w n₀ ann n s t = some s' → topRun tb p w n₀ ann n s.abs t = some s'.abs
  | 0, _, _, _, h => by cases h
  | n + 1, s, s', t, h => by
    unfold X.trT at h
    unfold topRun
    cases ht : through t with
    | true => rw [ht] at h; cases h; rfl
    | false =>
      rw [ht] at h
      cases hk : stepOk n₀ ann t with
      | false => rw [hk] at h; cases h
      | true =>
        rw [hk] at h
        cases hs : stepT (denote tb) p w s t with
        | none => rw [hs] at h; cases h
        | some r => obtain ⟨s₂, t₂⟩ := r; rw [hs] at h; rw [stepT_spec hs]; exact X.trT_of h
def X.toT (s : Shared) : SharedT := ⟨(s.heap.objs.toList.foldl (fun (x : BT × Nat) o => (x.1.ins x.2 o, x.2 + 1)) (BT.nil, 0)).1, s.heap.objs.size, s.heap.life, s.gens, s.drawn, s.toks, s.os⟩
def X.RT (tb : String → Option Builtin) (p : Program) (w : World) (N : Nat) : Option (Shared × SharedT) := (fencedOpening tb p w N).bind fun s0 => (X.trT tb p w s0.heap.objs.size (s0.heap.nsMap mainGlobals "__annotations__") N (X.toT s0) (topStub p)).map fun s1 => (s0, s1)
def X.chk (p : Program) (s0 s1 : Shared) : Bool := (s0.heap.isNs mainGlobals && s0.gens.size == 0) && (staticsOk (importedModules p.main.body) s0.heap s1.heap && namesBound p s1.heap && gensDone s1 && laidKept s0.heap s1.heap)
theorem X.ends_of_tree {p : Program} {w : World} {N : Nat} {A : Type} {f : Shared → A} {a : A} (h0 : (fencedOpening treeTable p w N).map (fun s => (X.toT s).tree.list s.heap.objs.size) = (fencedOpening treeTable p w N).map (fun s => s.heap.objs.toList))
    (h1 : (X.RT treeTable p w N).map (fun x => (X.chk p x.1 x.2.abs, f x.2.abs)) = some (true, a)) : (openEnds treeTable p w N).map f = some a := by
  unfold X.RT at h1
  unfold openEnds
  cases e : fencedOpening treeTable p w N with
  | none => rw [e] at h1; cases h1
  | some s0 =>
    rw [e] at h0 h1
    have hl : (X.toT s0).tree.list s0.heap.objs.size = s0.heap.objs.toList := Option.some.inj h0
    have ha : (X.toT s0).abs = s0 := by
      obtain ⟨⟨objs, life⟩, gens, drawn, toks, os⟩ := s0
      show (⟨⟨((X.toT ⟨⟨objs, life⟩, gens, drawn, toks, os⟩).tree.list objs.size).toArray, life⟩, gens, drawn, toks, os⟩ : Shared) = _
      rw [hl]
    have h1 : ((X.trT treeTable p w s0.heap.objs.size (s0.heap.nsMap mainGlobals "__annotations__") N (X.toT s0) (topStub p)).map fun s1 => (s0, s1)).map (fun x => (X.chk p x.1 x.2.abs, f x.2.abs)) = some (true, a) := h1
    cases e1 : X.trT treeTable p w s0.heap.objs.size (s0.heap.nsMap mainGlobals "__annotations__") N (X.toT s0) (topStub p) with
    | none => rw [e1] at h1; cases h1
    | some s1 =>
      rw [e1] at h1
      have h1 := Option.some.inj h1
      have c := congrArg Prod.fst h1
      have d := congrArg Prod.snd h1
      have c : X.chk p s0 s1.abs = true := c
      have d : f s1.abs = a := d
      have r := X.trT_of e1
      rw [ha] at r
      obtain ⟨c1, c2⟩ := Bool.and_eq_true_iff.mp c
      show (topFrom treeTable p w N s0).map f = some a
      unfold topFrom
      rw [c1, r]
      show (match staticsOk (importedModules p.main.body) s0.heap s1.abs.heap && namesBound p s1.abs.heap && gensDone s1.abs && laidKept s0.heap s1.abs.heap with | true => some s1.abs | false => none).map f = some a
      rw [c2]
      exact congrArg some d
theorem X.both {S A B : Type} {o : Option S} {c : S → Bool} {f : S → A} {y : S → B} {g : A} {a : B} (h1 : o.map (fun x => (c x, f x)) = some (true, g)) (h2 : o.map y = some a) : o.map (fun x => (c x, (f x, y x))) = some (true, (g, a)) := by
  cases o with
  | none => cases h2
  | some s =>
    have e1 := Option.some.inj h1
    have e2 := Option.some.inj h2
    have e3 : c s = true := congrArg Prod.fst e1
    have e4 : f s = g := congrArg Prod.snd e1
    show some (c s, (f s, y s)) = _
    rw [e3, e4, e2]
theorem X.two {S A B : Type} {o : Option S} {f : S → A × B} {g : A × B} {c : S → Bool} (h1 : o.map (fun x => (c x, (f x).1)) = some (true, g.1)) (h2 : o.map (fun x => (f x).2) = some g.2) : o.map (fun x => (c x, f x)) = some (true, g) := by
  cases o with
  | none => cases h2
  | some s =>
    have e1 := Option.some.inj h1
    have e2 := Option.some.inj h2
    have e3 : c s = true := congrArg Prod.fst e1
    have e4 : (f s).1 = g.1 := congrArg Prod.snd e1
    show some (c s, ((f s).1, (f s).2)) = some (true, (g.1, g.2))
    rw [e3, e4]
    exact congrArg (fun z => some (true, (g.1, z))) e2
noncomputable abbrev K66.seenT (s : Shared) := openSeen K66.view [] (importedModules PySem.Challenge.rw_factorforge_k66_sets_and_candidates.row.toRowW.prog.main.body) (fun s => xlAt K66.view [] s && recOk (RowW.records PySem.Challenge.rw_factorforge_k66_sets_and_candidates.row.toRowW) s) true s
theorem K66.h0 : ∀ w, (fencedOpening treeTable PySem.Challenge.rw_factorforge_k66_sets_and_candidates.row.toRowW.prog w 20000).map (fun s => (X.toT s).tree.list s.heap.objs.size) = (fencedOpening treeTable PySem.Challenge.rw_factorforge_k66_sets_and_candidates.row.toRowW.prog w 20000).map (fun s => s.heap.objs.toList) := by intro w; kernel_rfl
theorem K66.h1 : ∀ w, (X.RT treeTable PySem.Challenge.rw_factorforge_k66_sets_and_candidates.row.toRowW.prog w 20000).map (fun x => (X.chk PySem.Challenge.rw_factorforge_k66_sets_and_candidates.row.toRowW.prog x.1 x.2.abs, (K66.seenT x.2.abs).1)) = some (true, (openGood K66.view []).1) := by intro w; kernel_rfl
theorem K66.h2 : ∀ w, (X.RT treeTable PySem.Challenge.rw_factorforge_k66_sets_and_candidates.row.toRowW.prog w 20000).map (fun x => (K66.seenT x.2.abs).2) = some (openGood K66.view []).2 := by intro w; kernel_rfl
theorem K66.fin {A : Type} {y : Shared → A} {a : A} (w : World) (h : (X.RT treeTable PySem.Challenge.rw_factorforge_k66_sets_and_candidates.row.toRowW.prog w 20000).map (fun x => y x.2.abs) = some a) : (openEnds treeTable PySem.Challenge.rw_factorforge_k66_sets_and_candidates.row.toRowW.prog w 20000).map (fun s => (K66.seenT s, y s)) = some (openGood K66.view [], a) :=
  X.ends_of_tree (f := fun s => (K66.seenT s, y s)) (K66.h0 w) (X.both (X.two (K66.h1 w) (K66.h2 w)) h)
end
/-! THE HAND LAYER, for ints, bools, texts, own classes, LISTS and tuples (index, slices, in, append, pop ..), calls, loops. Paste it whole ahead of your own text; what your proof does not reach may be deleted. -/
namespace L2
open PySem PySem.Spec PyProof.Rows

/-- a key: an int or a str -/
noncomputable abbrev Key := Sum Int Str
noncomputable def keyIs : Key → Value → Bool
  | .inl k, v => Value.isInt k v
  | .inr x, v => Value.isStrOf x v
noncomputable def keyH (w : World) : Key → Int
  | .inl k => hashInt k
  | .inr x => hashStr w x
theorem keyIs_shape : ∀ {k : Key} {v : Value}, keyIs k v = true → (∃ i t, k = Sum.inl i ∧ v = Value.int i t) ∨ (∃ x t, k = Sum.inr x ∧ v = Value.str x t)
  | .inl i, v, h => by
    obtain ⟨t, e⟩ := Value.isInt_shape (k := i) (v := v) h
    exact .inl ⟨i, t, rfl, e⟩
  | .inr x, v, h => by
    obtain ⟨t, e⟩ := Value.isStrOf_shape (x := x) (v := v) h
    exact .inr ⟨x, t, rfl, e⟩
theorem key_ll (a b : Int) : decide ((Sum.inl a : Key) = Sum.inl b) = (a == b) := by
  by_cases e : a = b
  · subst e; simp
  · have h : ¬ (Sum.inl a : Key) = Sum.inl b := fun q => e (Sum.inl.inj q)
    rw [decide_eq_false h]
    exact (beq_eq_false_iff_ne.mpr e).symm
theorem key_rr (a b : Str) : decide ((Sum.inr a : Key) = Sum.inr b) = decide (a = b) := by
  by_cases e : a = b
  · subst e; simp
  · have h : ¬ (Sum.inr a : Key) = Sum.inr b := fun q => e (Sum.inr.inj q)
    rw [decide_eq_false h, decide_eq_false e]
theorem key_lr (a : Int) (b : Str) : decide ((Sum.inl a : Key) = Sum.inr b) = false := decide_eq_false (fun q => nomatch q)
theorem key_rl (a : Str) (b : Int) : decide ((Sum.inr a : Key) = Sum.inl b) = false := decide_eq_false (fun q => nomatch q)

noncomputable def mixKind (prog : Program) (w : World) : PySem.KeyKind prog w Key where
  is := keyIs
  hash := keyH w
  inj := fun v a b ha hb => by
    rcases keyIs_shape ha with ⟨i, t, rfl, rfl⟩ | ⟨x, t, rfl, rfl⟩
    · rcases keyIs_shape hb with ⟨j, u, rfl, e⟩ | ⟨y, u, rfl, e⟩
      · injection e with e1 _; rw [e1]
      · exact nomatch e
    · rcases keyIs_shape hb with ⟨j, u, rfl, e⟩ | ⟨y, u, rfl, e⟩
      · exact nomatch e
      · injection e with e1 _; rw [e1]
  byValue := fun k v h => by
    rcases keyIs_shape h with ⟨i, t, rfl, rfl⟩ | ⟨x, t, rfl, rfl⟩ <;> rfl
  pyHash := fun hv h => by
    rcases keyIs_shape hv with ⟨i, t, rfl, rfl⟩ | ⟨x, t, rfl, rfl⟩
    · exact wpAny_pyHash_int h
    · exact wpAny_pyHash_str h
  eqBool := fun hu hv h => by
    rcases keyIs_shape hu with ⟨i, t, rfl, rfl⟩ | ⟨x, t, rfl, rfl⟩
    · rcases keyIs_shape hv with ⟨j, u, rfl, rfl⟩ | ⟨y, u, rfl, rfl⟩
      · rw [key_ll] at h; exact wpAny_eqBool_int h
      · rw [key_lr] at h; exact SeqAt.EqAt.int_str i t y u _ _ _ _ h
    · rcases keyIs_shape hv with ⟨j, u, rfl, rfl⟩ | ⟨y, u, rfl, rfl⟩
      · rw [key_rl] at h; exact SeqAt.EqAt.str_int x t j u _ _ _ _ h
      · rw [key_rr] at h; exact wpAny_eqBool_str h
  «strs» := fun k x t v h => by
    rcases keyIs_shape h with ⟨i, u, rfl, e⟩ | ⟨y, u, rfl, e⟩
    · exact nomatch e
    · injection e with e1 _
      subst e1
      cases v <;> rfl

end L2

namespace L2
open PySem PySem.Spec PyProof.Rows

/-- a value, without the heap -/
inductive V where
  | non | bl (b : Bool) | int (i : Int) | str (x : Str) | byt (b : Array UInt8) | flt (b : UInt64) | ref (a : Addr) | ty (n : String)
  deriving DecidableEq

noncomputable def RelV : V → Value → Prop
  | .non, u => u = Value.none
  | .bl b, u => u = Value.bool b
  | .int i, u => ∃ t, u = Value.int i t
  | .str x, u => ∃ t, u = Value.str x t
  | .byt b, u => ∃ t, u = Value.bytes b t
  | .flt b, u => ∃ t, u = Value.float b t
  | .ref a, u => u = Value.ref a
  | .ty n, u => u = Value.type n

noncomputable abbrev Vals : List V → List Value → Prop := Paired RelV
theorem Vals.length (r : Vals xs us) : xs.length = us.length := Paired.length r
theorem Vals.get : ∀ {xs : List V} {us : List Value} {i : Nat} {x : V}, Vals xs us → xs[i]? = some x → ∃ u, us[i]? = some u ∧ RelV x u
  | _, _, _, _, .nil, e => by simp at e
  | _, _, 0, _, .cons r _, e => by simp at e; subst e; exact ⟨_, rfl, r⟩
  | _, _, i + 1, x, .cons _ t, e => by
    obtain ⟨u, h1, h2⟩ := Vals.get (i := i) (x := x) t (by simpa using e)
    exact ⟨u, by simpa using h1, h2⟩
theorem Vals.set (r : RelV x u) : ∀ {xs : List V} {us : List Value} (i : Nat), Vals xs us → Vals (xs.set i x) (us.set i u)
  | _, _, _, .nil => .nil
  | _, _, 0, .cons _ t => .cons r t
  | _, _, i + 1, .cons q t => .cons q (Vals.set r i t)
theorem Vals.append : ∀ {xs ys : List V} {us ws : List Value}, Vals xs us → Vals ys ws → Vals (xs ++ ys) (us ++ ws)
  | _, _, _, _, .nil, s => s
  | _, _, _, _, .cons r t, s => .cons r (Vals.append t s)
theorem Vals.take : ∀ {xs : List V} {us : List Value} (n : Nat), Vals xs us → Vals (xs.take n) (us.take n)
  | _, _, 0, _ => .nil
  | _, _, _ + 1, .nil => .nil
  | _, _, n + 1, .cons r t => .cons r (Vals.take n t)
theorem Vals.drop : ∀ {xs : List V} {us : List Value} (n : Nat), Vals xs us → Vals (xs.drop n) (us.drop n)
  | _, _, 0, r => r
  | _, _, _ + 1, .nil => .nil
  | _, _, n + 1, .cons _ t => Vals.drop n t
noncomputable def RelO : Option V → Option Value → Prop
  | some v, some u => RelV v u
  | none, none => True
  | _, _ => False
noncomputable def KV {κ : Type} : List (κ × V) → List (κ × Value) → Prop := Paired fun (p : κ × V) (q : κ × Value) => p.1 = q.1 ∧ RelV p.2 q.2

/-- a key of a dict (00_mix): an int or a text -/
noncomputable def kV : Key → V
  | .inl i => .int i
  | .inr x => .str x

/-- a code object's table, and the name that the functions in it bear -/
structure TabD where
  q : Str
  ps : Array Value
noncomputable instance : HAppend TabD (Array Value) TabD := ⟨fun t m => ⟨t.q, t.ps ++ m⟩⟩
@[simp] theorem TabD.append_nil (t : TabD) : t ++ (#[] : Array Value) = t := by
  obtain ⟨q, ps⟩ := t
  show TabD.mk q (ps ++ #[]) = ⟨q, ps⟩
  rw [Array.append_empty]
theorem TabD.append_assoc (t : TabD) (a b : Array Value) : t ++ a ++ b = t ++ (a ++ b) := by
  obtain ⟨q, ps⟩ := t
  show TabD.mk q (ps ++ a ++ b) = ⟨q, ps ++ (a ++ b)⟩
  rw [Array.append_assoc]
/-- a code record of that name -/
noncomputable def CodeQ (o : Obj) (q : Str) : Prop := ∃ vs t, o.data = .fields vs ∧ vs[1]? = some (.str q t)
/-- what stands at a tracked address -/
inductive HO where
  /-- a list -/
  | lst (xs : List V)
  /-- a tuple (never changes) -/
  | tup (xs : List V)
  /-- a dict whose keys are ints and texts; one whose keys are tuples of ints and texts (the empty one is both) -/
  | dK (kvs : List (Key × V)) | dT (kvs : List (List Key × V))
  /-- a set of ints: its members, its size -/
  | set (S : Int → Bool) (n : Nat)
  /-- an instance of the class at C, its dict at dx, its attributes -/
  | ins (C dx : Addr) (fs : List (Str × V))
  /-- the dict of the instance at x -/
  | own (x : Addr)
  /-- the dict of an exception -/
  | xd (fs : List (Str × V))
  /-- a bound method, f of x -/
  | met (f x : Addr)
  /-- a range object lo, lo + 1, .. below hi -/
  | rng (lo hi : Int)
  /-- a thing that is known to the object (the script; a dict while a loop walks it): read, never written while it is so -/
  | frz (o : Obj) (u : HO)
  /-- a code object's table -/
  | tbl (ps : TabD)
  /-- any other thing, by what is true of its one object (a def of one's own: SetO a S n := HO.ext fun h => ..) -/
  | ext (φ : Heap → Prop)

noncomputable abbrev Hp := Addr → Option HO
noncomputable def upd (H : Hp) (a : Addr) (o : HO) : Hp := fun b => if b = a then some o else H b
theorem upd_same : upd H a o a = some o := by unfold upd; rw [if_pos rfl]
theorem upd_ne (h : b ≠ a) : upd H a o b = H b := by unfold upd; rw [if_neg h]
theorem upd_upd : upd (upd H a o) a u = upd H a u := by
  funext b; unfold upd; split <;> rfl
theorem ne_of_none {H : Hp} {a b : Addr} {o : HO} (h : H a = some o) (h' : H b = none) : a ≠ b := by
  intro e; subst e; rw [h] at h'; cases h'

section
variable (P : Program) (w : World)
noncomputable def ObjOk (H : Hp) (h : Heap) (a : Addr) : HO → Prop
  | .lst xs => xs.length ≤ sizeLine ∧ ∃ (its : List Value) (n : Nat), Vals xs its ∧ h.get? a = some { cls := .type "list", data := .seq its.toArray n }
  | .tup xs => xs.length ≤ sizeLine ∧ ∃ its : List Value, Vals xs its ∧ IsTup h a its.toArray
  | .dK kvs => kvs.length ≤ sizeLine ∧ (a == sysModules) = false ∧ ∃ vs, KV kvs vs ∧ h.DictOf (mixKind P w) a vs
  | .dT kvs => kvs.length ≤ sizeLine ∧ (a == sysModules) = false ∧ ∃ xs : List (List Key × Addr × Value),
      Paired (fun (p : List Key × V) (q : List Key × Addr × Value) => p.1 = q.1 ∧ H q.2.1 = some (.tup (p.1.map kV)) ∧ RelV p.2 q.2.2) kvs xs ∧
      ∃ o es ep, h.get? a = some o ∧ o.ExactDict ∧ o.data = .dict es ep ∧ es.toList = xs.map (entryOfKey (tupleKind (mixKind P w))) ∧ (xs.map (·.1)).Nodup
  | .set S n => h.SetOf (intKind P w) a S n
  | .ins C dx fs => H dx = some (.own a) ∧ fs.length ≤ 1000 ∧ dx ≠ a ∧ h.get? a = some (PySem.W.instObj C dx) ∧
      ∃ mA, h.Ns1 dx mA ∧ (∀ f, RelO (fs.lookup f) (mA f)) ∧ PySem.Within mA (fs.map (·.1))
  | .own _ => ∃ o, h.get? a = some o
  | .xd fs => ∃ mA, h.Ns1 a mA ∧ ∀ f, RelO (fs.lookup f) (mA f)
  | .rng lo hi => ∃ t u v, h.get? a = some { cls := .type "range", data := .fields #[.int lo t, .int hi u, .int 1 v] }
  | .frz o u => h.get? a = some o ∧ ObjOk H h a u
  | .tbl ps => h.get? a = some { cls := .none, data := .fields ps.ps } ∧ TriplesOk ps.ps.toList ∧ ∀ p cv, codeAmong p ps.ps.toList = some cv → ∃ c oc u, cv = Value.ref c ∧ H c = some (.frz oc u) ∧ CodeQ oc ps.q
  | .met f x => h.get? a = some (PySem.W.methodObj (.ref f) (.ref x))
  | .ext φ => φ h ∧ (∃ o, h.get? a = some o) ∧ ∀ h1 h2 : Heap, φ h1 → (∀ o, h1.get? a = some o → h2.get? a = some o) → φ h2
/-- the abstract heap is held -/
noncomputable def HOk (H : Hp) (h : Heap) : Prop := ∀ a o, H a = some o → ObjOk P w H h a o
end

section
variable {P : Program} {w : World} {H H' : Hp} {h h' : Heap} {a : Addr} {o : HO}
theorem ObjOk.lt (x : ObjOk P w H h a o) : a < h.objs.size := by
  cases o with
  | lst xs => obtain ⟨_, _, _, _, e⟩ := x; exact Heap.lt_size e
  | tup xs => obtain ⟨_, _, _, p⟩ := x; exact p.lt
  | dK kvs => obtain ⟨_, _, _, _, o, _, _, e, _⟩ := x; exact Heap.lt_size e
  | dT kvs => obtain ⟨_, _, _, _, o, _, _, e, _⟩ := x; exact Heap.lt_size e
  | set S n => obtain ⟨o, _, _, _, e, _⟩ := x; exact Heap.lt_size e
  | ins C dx fs => obtain ⟨_, _, _, e, _⟩ := x; exact Heap.lt_size e
  | own y => obtain ⟨_, e⟩ := x; exact Heap.lt_size e
  | xd fs => obtain ⟨_, ⟨_, _, _, e, _⟩, _⟩ := x; exact Heap.lt_size e
  | rng lo hi => obtain ⟨_, _, _, e⟩ := x; exact Heap.lt_size e
  | frz ob u => obtain ⟨e, _⟩ := x; exact Heap.lt_size e
  | tbl ps => exact Heap.lt_size x.1
  | met f y => exact Heap.lt_size (show h.get? a = some _ from x)
  | ext φ => obtain ⟨_, ⟨_, e⟩, _⟩ := x; exact Heap.lt_size e
theorem Paired.mapP : ∀ {l₁ : List α} {l₂ : List β}, Paired F l₁ l₂ → (∀ a b, F a b → G a b) → Paired G l₁ l₂
  | _, _, .nil, _ => .nil
  | _, _, .cons r t, f => .cons (f _ _ r) (Paired.mapP t f)
/-- what an object's description leans on: its own object, its own dict, the tuples -/
theorem ObjOk.stay (x : ObjOk P w H h a o) (k : ∀ b u, (b = a ∨ H b = some (.own a)) → h.get? b = some u → h'.get? b = some u)
    (ho : ∀ b, H b = some (.own a) → H' b = some (.own a)) (ht : ∀ b xs, H b = some (.tup xs) → H' b = some (.tup xs)) (hz : ∀ b o u, H b = some (.frz o u) → H' b = some (.frz o u) := by intro _ _ _ q; exact q) : ObjOk P w H' h' a o := by
  induction o with
  | lst xs => obtain ⟨z, its, n, r, e⟩ := x; exact ⟨z, its, n, r, k _ _ (.inl rfl) e⟩
  | tup xs => obtain ⟨z, its, r, ob, e, c⟩ := x; exact ⟨z, its, r, ob, k _ _ (.inl rfl) e, c⟩
  | dK kvs => obtain ⟨z, y, vs, r, ob, es, ep, e, c⟩ := x; exact ⟨z, y, vs, r, ob, es, ep, k _ _ (.inl rfl) e, c⟩
  | dT kvs =>
    obtain ⟨z, y, xs, r, ob, es, ep, e, c⟩ := x
    exact ⟨z, y, xs, Paired.mapP r fun p q z => ⟨z.1, ht _ _ z.2.1, z.2.2⟩, ob, es, ep, k _ _ (.inl rfl) e, c⟩
  | set S n => obtain ⟨ob, es, ep, t, e, c⟩ := x; exact ⟨ob, es, ep, t, k _ _ (.inl rfl) e, c⟩
  | ins C dx fs =>
    obtain ⟨d, z, ne, e, mA, ⟨od, es, ep, e2, c⟩, r⟩ := x
    exact ⟨ho _ d, z, ne, k _ _ (.inl rfl) e, mA, ⟨od, es, ep, k _ _ (.inr d) e2, c⟩, r⟩
  | own y => obtain ⟨ob, e⟩ := x; exact ⟨ob, k _ _ (.inl rfl) e⟩
  | xd fs => obtain ⟨mA, ⟨od, es, ep, e, c⟩, r⟩ := x; exact ⟨mA, ⟨od, es, ep, k _ _ (.inl rfl) e, c⟩, r⟩
  | rng lo hi => obtain ⟨t, u, v, e⟩ := x; exact ⟨t, u, v, k _ _ (.inl rfl) e⟩
  | frz ob u ih => obtain ⟨e, q⟩ := x; exact ⟨k _ _ (.inl rfl) e, ih q⟩
  | tbl ps =>
    obtain ⟨e, t, g⟩ := x
    exact ⟨k a _ (.inl rfl) e, t, fun p cv hc => let ⟨c, oc, u, y, z, q⟩ := g p cv hc; ⟨c, oc, u, y, hz _ _ _ z, q⟩⟩
  | met f y =>
    have e : h.get? a = some (PySem.W.methodObj (.ref f) (.ref y)) := x
    show h'.get? a = some (PySem.W.methodObj (.ref f) (.ref y))
    exact k a _ (.inl rfl) e
  | ext φ => obtain ⟨p, ⟨o, e⟩, st⟩ := x; exact ⟨st _ _ p fun o q => k _ _ (.inl rfl) q, ⟨o, k _ _ (.inl rfl) e⟩, st⟩
theorem HOk.lt (x : HOk P w H h) (e : H a = some o) : a < h.objs.size := (x a o e).lt
theorem HOk.fresh (x : HOk P w H h) (e : h.objs.size ≤ a) : H a = none := by
  cases q : H a with
  | none => rfl
  | some u => exact absurd (Nat.lt_of_lt_of_le (x.lt q) e) (Nat.lt_irrefl _)
/-- every object of the heap is kept -/
theorem HOk.kept (x : HOk P w H h) (k : ∀ b u, h.get? b = some u → h'.get? b = some u) : HOk P w H h' := fun a o e =>
  (x a o e).stay (fun b u _ q => k b u q) (fun _ q => q) fun _ _ q => q
/-- a new object is laid and tracked -/
theorem HOk.laid (x : HOk P w H h) (k : ∀ b u, h.get? b = some u → h'.get? b = some u) (hp : h.objs.size ≤ a) (new : ObjOk P w (upd H a o) h' a o) : HOk P w (upd H a o) h' := fun b u e => by
  have hn := x.fresh hp
  by_cases hb : b = a
  · subst hb; rw [upd_same] at e; cases e; exact new
  · rw [upd_ne hb] at e
    exact (x b u e).stay (fun c v _ q => k c v q) (fun c q => by rw [upd_ne (ne_of_none q hn)]; exact q) (fun c xs q => by rw [upd_ne (ne_of_none q hn)]; exact q) fun c _ _ q => by rw [upd_ne (ne_of_none q hn)]; exact q
end

/-- what may be read as u: it is u, or a known u -/
noncomputable def Rd (H : Hp) (a : Addr) (u : HO) : Prop := H a = some u ∨ ∃ o, H a = some (.frz o u)
theorem Rd.ok (r : Rd H a u) (x : HOk P w H h) : ObjOk P w H h a u := by
  rcases r with r | ⟨o, r⟩
  · exact x a u r
  · obtain ⟨_, q⟩ := x a _ r
    exact q
/-- what may be written -/
noncomputable def Mut : Option HO → Prop
  | some (.lst _) => True
  | some (.dK _) => True
  | some (.dT _) => True
  | some (.set _ _) => True
  | some (.ins _ _ _) => True
  | some (.ext _) => True
  | _ => False
section
variable {P : Program} {w : World} {H : Hp} {h h' : Heap} {x e : Addr} {o' : HO}
/-- the object at e is changed: x itself, or the dict of the instance x -/
theorem HOk.write (ok : HOk P w H h) (mu : Mut (H x)) (he : e = x ∨ H e = some (.own x)) (k : ∀ b u, b ≠ e → h.get? b = some u → h'.get? b = some u) (heo : ∃ u, h'.get? e = some u)
    (new : ObjOk P w (upd H x o') h' x o') : HOk P w (upd H x o') h' := fun b u q => by
  have nown : ∀ c y, H c = some (.own y) → c ≠ x := fun c y r z => by subst z; rw [r] at mu; exact mu
  have ntup : ∀ c xs, H c = some (.tup xs) → c ≠ x := fun c xs r z => by subst z; rw [r] at mu; exact mu
  have nfrz : ∀ c o u, H c = some (.frz o u) → c ≠ x := fun c o u r z => by subst z; rw [r] at mu; exact mu
  by_cases hb : b = x
  · subst hb; rw [upd_same] at q; cases q; exact new
  · rw [upd_ne hb] at q
    by_cases hbe : b = e
    · have q' : H b = some (.own x) := by
        rcases he with z | z
        · exact absurd (hbe.trans z) hb
        · rw [hbe]; exact z
      rw [q] at q'; cases q'
      obtain ⟨v, hv⟩ := heo
      exact ⟨v, by rw [hbe]; exact hv⟩
    · refine (ok b u q).stay (fun c v hc r => k c v ?_ r) (fun c r => by rw [upd_ne (nown c b r)]; exact r) (fun c xs r => by rw [upd_ne (ntup c xs r)]; exact r) fun c o u r => by rw [upd_ne (nfrz c o u r)]; exact r
      rcases hc with rfl | hc
      · exact hbe
      · rintro rfl
        rcases he with z | z
        · exact nown c b hc z
        · rw [hc] at z; cases z; exact hb rfl
end

/-! ### kept unless tracked; of the frames at fs (the callers') the slots may change (an exception that passes writes there); of the records at ex (iterators) nothing is said -/
structure Un (fs ex : List Addr) (H H' : Hp) (h h' : Heap) : Prop where
  keep : ∀ b o, h.get? b = some o → H b = none → b ∉ fs → b ∉ ex → h'.get? b = some o
  slot : ∀ b o, h.get? b = some o → H b = none → b ∈ fs → b ∉ ex → ∃ sl, h'.get? b = some { o with slots := sl }
  free : ∀ b o, h.get? b = some o → H b = none → b ∉ ex → H' b = none
  there : ∀ b o, h.get? b = some o → b ∉ ex → ∃ o', h'.get? b = some o'
  tups : ∀ b xs, H b = some (.tup xs) → H' b = some (.tup xs)
  frzs : ∀ b o u, H b = some (.frz o u) → H' b = some (.frz o u)
  tbls : ∀ b ps, H b = some (.tbl ps) → ∃ more : Array Value, H' b = some (.tbl (ps ++ more))
section
variable {fs fs' ex ex' : List Addr} {H H1 H2 : Hp} {h h1 h2 h' : Heap} {a x e : Addr} {o : HO}
theorem Un.any (u : Un fs ex H H1 h h1) (q : h.get? b = some ob) (n : H b = none) (hx : b ∉ ex) : ∃ sl, h1.get? b = some { ob with slots := sl } := by
  by_cases hb : b ∈ fs
  · exact u.slot b ob q n hb hx
  · exact ⟨ob.slots, u.keep b ob q n hb hx⟩
theorem Un.kept (k : ∀ b u, h.get? b = some u → h'.get? b = some u) : Un fs ex H H h h' :=
  ⟨fun b ob q _ _ _ => k b ob q, fun b ob q _ _ _ => ⟨ob.slots, k b ob q⟩, fun _ _ _ n _ => n, fun b ob q _ => ⟨ob, k b ob q⟩, fun _ _ q => q, fun _ _ _ q => q, fun _ ps q => ⟨#[], by rw [q]; simp⟩⟩
theorem Un.refl : Un fs ex H H h h := Un.kept fun _ _ q => q
theorem Un.laid (k : ∀ b u, h.get? b = some u → h'.get? b = some u) (hp : h.objs.size ≤ a) (hn : H a = none) : Un fs ex H (upd H a o) h h' where
  keep := fun b u q _ _ _ => k b u q
  slot := fun b u q _ _ _ => ⟨u.slots, k b u q⟩
  free := fun b u q n _ => by rw [upd_ne (Nat.ne_of_lt (Nat.lt_of_lt_of_le (Heap.lt_size q) hp))]; exact n
  there := fun b u q _ => ⟨u, k b u q⟩
  tups := fun b xs q => by rw [upd_ne (ne_of_none q hn)]; exact q
  frzs := fun b u xs q => by rw [upd_ne (ne_of_none q hn)]; exact q
  tbls := fun b ps q => ⟨#[], by rw [upd_ne (ne_of_none q hn), q]; simp⟩
theorem Un.write (mu : Mut (H x)) (he : e = x ∨ H e = some (.own x)) (k : ∀ b u, b ≠ e → h.get? b = some u → h'.get? b = some u) (heo : ∃ u, h'.get? e = some u) : Un fs ex H (upd H x o) h h' := by
  have hx : ∀ b, H b = none → b ≠ x := fun b n z => by subst z; rw [n] at mu; exact mu
  have hb : ∀ b, H b = none → b ≠ e := fun b n z => by
    subst z
    rcases he with r | r
    · exact hx b n r
    · rw [n] at r; cases r
  have hm : ∀ b u, H b = some u → ¬ Mut (some u) → b ≠ x := fun b u q nm z => by subst z; rw [q] at mu; exact nm mu
  refine ⟨fun b u q n _ _ => k b u (hb b n) q, fun b u q n _ _ => ⟨u.slots, k b u (hb b n) q⟩, fun b u q n _ => by rw [upd_ne (hx b n)]; exact n, fun b u q _ => ?_,
    fun b xs q => by rw [upd_ne (hm b _ q fun z => z)]; exact q, fun b u xs q => by rw [upd_ne (hm b _ q fun z => z)]; exact q, fun b ps q => ⟨#[], by rw [upd_ne (hm b _ q fun z => z), q]; simp⟩⟩
  by_cases hbe : b = e
  · subst hbe; exact heo
  · exact ⟨u, k b u hbe q⟩
end

/-! ### the heap without what is tracked -/
noncomputable def trk (h : Heap) (H : Hp) : List Addr := (List.range h.objs.size).filter fun a => (H a).isSome
noncomputable def hidT (h : Heap) (H : Hp) : Heap := PySem.W.hideAll h (trk h H)
theorem hidT_size (h : Heap) (H : Hp) : (hidT h H).objs.size = h.objs.size := PySem.W.hideAll_size _ _
theorem hidT_get (e : h.get? b = some o) (n : H b = none) : (hidT h H).get? b = some o :=
  PySem.W.hideAll_get _ e fun hm => by
    have q : (H b).isSome = true := (List.mem_filter.mp hm).2
    rw [n] at q; simp at q
theorem of_hidT (e : (hidT h H).get? b = some o) : h.get? b = some o ∧ H b = none := by
  have e' : h.get? b = some o := PySem.W.of_hideAll (trk h H) e
  refine ⟨e', ?_⟩
  cases q : H b with
  | none => rfl
  | some x =>
    have hm : b ∈ trk h H := List.mem_filter.mpr ⟨List.mem_range.mpr (Heap.lt_size e'), by simp [q]⟩
    have z : (hidT h H).get? b = none := PySem.W.hideAll_none (trk h H) hm
    rw [z] at e; cases e

/-! ### OpenK's ledger, filled with every new object but one -/
noncomputable def allNews (g h : Heap) (L : Addr) : List (Addr × Obj) := (List.range h.objs.size).filterMap fun a => if a = L ∨ (g.get? a).isSome = true then none else (h.get? a).map fun o => (a, o)
noncomputable def rest (g h : Heap) (L d : Addr) : List (Addr × Obj) := (allNews g h L).filter fun p => decide (p.1 ≠ d)
end L2

namespace L2
open PySem PySem.Spec PyProof.Rows

/-- the module of the builtins -/
noncomputable def BltM (mg : Str → Option Value) (h : Heap) : Prop := ∃ bm ob, mg "__builtins__" = some (.ref bm) ∧ bm ≠ builtinsNs ∧ h.get? bm = some ob ∧ ob.cls = .type "module" ∧ ob.dict = some builtinsNs ∧ ob.data = .plain
/-- the module's facts, over the base: the heap at the law's entry without what is tracked there -/
structure Mod (K : PySem.W.Frag) (mg : Str → Option Value) (base : Heap) : Prop where
  kin : K.In base
  glob : base.Ns mainGlobals mg
  blt : ∃ mb, base.Ns builtinsNs mb ∧ ∀ x : Str, x ≠ "__name__" → mb x = bootBuiltins x
  nolimit : base.NoLimit
  bm : BltM mg base

/-- the context: a def's body (or a comprehension's block) running. base: fixed through the whole law; s₀, H₀: the entry; outer: the frames whose slots others may change (a def's callers); stack: all frames that run;
   ex: iterators that were made ahead of the entry and are walked here (a comprehension's); fn: the names whose cells were made at the entry (a def: all; a comprehension's block: its own); calm: not within an except suite; pn: pins that every state bears; xe: what is wanted of an exception that leaves the code -/
structure Cx where
  prog : Program
  w : World
  K : PySem.W.Frag
  mg : Str → Option Value
  base : Heap
  A : Around
  N : List Str
  s₀ : Shared
  H₀ : Hp
  env : Env
  outer : List Env
  stack : List Env
  ex : List Addr
  fn : Str → Bool
  calm : Bool
  pn : List (Addr × Obj)
  xe : Value → Shared → Prop
/-- the callers' frames -/
noncomputable def frs (l : List Env) : List Addr := l.filterMap (·.frame)
noncomputable abbrev Cx.fs (X : Cx) : List Addr := frs X.outer

noncomputable def Vis (sc : Scope) (x : Str) : Prop := sc.names.lookup x = some .local ∨ sc.names.lookup x = some .cell ∨ sc.names.lookup x = some .free
noncomputable def Loc (sc : Scope) (x : Str) : Prop := sc.names.lookup x = some .local ∨ sc.names.lookup x = some .cell
noncomputable def Look (env : Env) (h : Heap) (m : Str → Option Value) (x : Str) (u : Value) : Prop :=
  (env.kindOf x = some .local ∧ m x = some u) ∨ ((env.kindOf x = some .cell ∨ env.kindOf x = some .free) ∧ ∃ c, env.cells.lookup x = some c ∧ h.IsCell c (some u))

/-- return sorted(.., key=lambda ..) -/
noncomputable def lamStmt : Stmt → Bool
  | .Return (some (.Call _ _ [⟨_, .Lambda _ _ _ _, _⟩] _)) _ => true
  | .Return (some (.Tuple [_, .Call _ _ [⟨_, .Lambda _ _ _ _, _⟩] _] _ _)) _ => true
  | _ => false
noncomputable def lamBody : FuncBody → Bool
  | .stmts ss => ss.any lamStmt
  | _ => false
/-- the defs of the written part that make a lambda: code record, its table, the lambda's name -/
noncomputable def lamsIn (K : PySem.W.Frag) : List (Addr × Addr × Str) := K.filterMap fun x => match x.2.data with
  | .func fd => if lamBody fd.body = true then (match fd.code with
      | .ref c => (match K.lookup c with
        | some ⟨_, _, .fields vs, _⟩ => (match (vs[11]? : Option Value) with
          | some (.ref P) => if PySem.W.codeHdIn K c P = true then some (c, P, fd.qualname ++ ".<locals>." ++ "<lambda>") else none
          | _ => none)
        | _ => none)
      | _ => none) else none
  | _ => none
structure Frf (K : PySem.W.Frag) (H : Hp) (fs : List Addr) : Prop where
  f : ∀ b ∈ fs, H b = none
  t : ∀ x ∈ lamsIn K, ∃ ps, H x.2.1 = some (.tbl ⟨x.2.2, ps⟩)
structure Cx.Ok (X : Cx) : Prop where
  mod : Mod X.K X.mg X.base
  kind : X.env.scope.kind = .function
  glob : X.env.globals = mainGlobals
  blt : X.env.builtins = builtinsNs
  above : X.s₀.heap.objs.size ≤ X.env.locals
  inj : ∀ x y c, X.env.cells.lookup x = some c → X.env.cells.lookup y = some c → x = y
  has : ∀ x, (X.env.kindOf x = some .cell ∨ X.env.kindOf x = some .free) → ∃ c, X.env.cells.lookup x = some c
  cab : ∀ x c, X.fn x = true → X.env.cells.lookup x = some c → X.s₀.heap.objs.size ≤ c
  hd : X.calm = true → X.A.handled = none
  frames : X.A.frames = some X.stack
  stk : X.stack = X.outer ∨ (X.stack = X.env :: X.outer ∧ X.env.frame = some X.env.locals)
  exf : ∀ b ∈ X.ex, b ≠ X.env.locals ∧ ∀ x c, X.env.cells.lookup x = some c → c ≠ b
  bs : ∀ b o, X.base.get? b = some o → X.s₀.heap.get? b = some o ∧ X.H₀ b = none
  bsz : X.base.objs.size ≤ X.s₀.heap.objs.size
  noex : ∀ b o, X.base.get? b = some o → b ∉ X.ex
  exfs : ∀ b ∈ X.ex, b ∉ X.fs
  funs : X.s₀.heap.FunFrames X.base X.outer
  frf : Frf X.K X.H₀ X.fs

structure Inv (X : Cx) (pins : List (Addr × Obj)) (σ : List (Option V)) (H : Hp) (s : Shared) : Prop where
  ok : X.Ok
  os : s.os = X.s₀.os
  bare : AllBare s.gens
  base : Un X.fs X.ex X.H₀ H X.s₀.heap s.heap
  loc : ∃ m, s.heap.Ns X.env.locals m ∧ ∀ (i : Nat) (x : Str) (v : V), X.N[i]? = some x → σ[i]? = some (some v) → Vis X.env.scope x → ∃ u, RelV v u ∧ Look X.env s.heap m x u
  cell : ∀ x c, X.env.cells.lookup x = some c → ∃ v, s.heap.IsCell c v
  free : H X.env.locals = none
  freeC : ∀ x c, X.env.cells.lookup x = some c → H c = none
  pin : ∀ p ∈ X.pn ++ pins, s.heap.get? p.1 = some p.2 ∧ H p.1 = none ∧ p.1 ≠ X.env.locals ∧ p.1 ∉ X.fs ∧ ∀ v, p.2.data ≠ .cell v
  hok : HOk X.prog X.w H s.heap
  len : σ.length = X.N.length

section
variable {X : Cx} {pins : List (Addr × Obj)} {σ : List (Option V)} {H H' : Hp} {s : Shared} {h' : Heap}

theorem Cx.Ok.nofr (ok : X.Ok) (e : X.base.get? b = some o) : b ∉ X.fs := fun hb => by
  have := (ok.funs.mem hb).1
  rw [e] at this; cases this
theorem Inv.bs (I : Inv X pins σ H s) : ∀ b o, X.base.get? b = some o → s.heap.get? b = some o ∧ H b = none := fun b o e =>
  ⟨I.base.keep b o (I.ok.bs b o e).1 (I.ok.bs b o e).2 (I.ok.nofr e) (I.ok.noex b o e), I.base.free b o (I.ok.bs b o e).1 (I.ok.bs b o e).2 (I.ok.noex b o e)⟩
theorem Inv.bk (I : Inv X pins σ H s) : ∀ b o, X.base.get? b = some o → s.heap.get? b = some o := fun b o e => (I.bs b o e).1
theorem Inv.mod (I : Inv X pins σ H s) : Mod X.K X.mg X.base := I.ok.mod
theorem Inv.kIn (I : Inv X pins σ H s) : X.K.In s.heap := I.ok.mod.kin.keeps I.bk
/-- the frame over the base: for OpenK's rules (K.In X.base is I.mod.kin) -/
theorem Inv.fr (I : Inv X pins σ H s) : ∃ m, Fr X.base X.env.locals s.heap m :=
  let ⟨m, hn, _⟩ := I.loc
  ⟨m, hn, I.bk, Nat.le_trans I.ok.bsz I.ok.above⟩
theorem Inv.lt (I : Inv X pins σ H s) : X.env.locals < s.heap.objs.size := let ⟨_, hn, _⟩ := I.loc; hn.lt
theorem Inv.sz (I : Inv X pins σ H s) : X.s₀.heap.objs.size ≤ s.heap.objs.size := Nat.le_trans I.ok.above (Nat.le_of_lt I.lt)
theorem Inv.nofs (I : Inv X pins σ H s) {a : Addr} (h : s.heap.objs.size ≤ a) : a ∉ X.fs := fun hb => by
  obtain ⟨_, o, ho, _⟩ := I.ok.funs.mem hb
  exact absurd (Nat.lt_of_lt_of_le (Heap.lt_size ho) (Nat.le_trans I.sz h)) (Nat.lt_irrefl _)
theorem Inv.cne (I : Inv X pins σ H s) : ∀ x c, X.env.cells.lookup x = some c → c ≠ X.env.locals := fun x c e z => by
  obtain ⟨v, o, ho, hd⟩ := I.cell x c e
  obtain ⟨m, ⟨o', es, ep, ho', hd', _⟩, _⟩ := I.loc
  rw [z, ho'] at ho; cases ho; rw [hd'] at hd; cases hd
theorem Inv.funs (I : Inv X pins σ H s) : s.heap.FunFrames X.base X.outer := by
  have all : ∀ (l : List Env), (∀ b ∈ frs l, b ∈ X.fs) → X.s₀.heap.FunFrames X.base l → s.heap.FunFrames X.base l := by
    intro l
    induction l with
    | nil => intro _ _; trivial
    | cons env r ih =>
      intro hs hl
      obtain ⟨hk, ⟨L, o, hf, hn, ho, hd⟩, hr⟩ := hl
      have hL : L ∈ X.fs := hs L (by unfold frs; rw [List.filterMap_cons, hf]; exact List.mem_cons_self)
      obtain ⟨sl, e⟩ := I.base.slot L o ho (I.ok.frf.f L hL) hL fun z => I.ok.exfs L z hL
      exact ⟨hk, ⟨L, _, hf, hn, e, hd⟩, ih (fun b hb => hs b (by unfold frs; rw [List.filterMap_cons, hf]; exact List.mem_cons_of_mem _ hb)) hr⟩
  exact all X.outer (fun _ hb => hb) I.ok.funs

/-- the frames that run, for a call -/
theorem Inv.stack (I : Inv X pins σ H s) : s.heap.FunFrames X.base X.stack := by
  rcases I.ok.stk with e | ⟨e, hf⟩
  · rw [e]; exact I.funs
  · rw [e]
    obtain ⟨m, hn, _⟩ := I.loc
    refine .cons (by rw [I.ok.kind]; decide) hf hn ?_ I.funs
    exact Heap.get?_none_of_le (Nat.le_trans I.ok.bsz I.ok.above)
theorem Inv.stkSub (I : Inv X pins σ H s) : ∀ b ∈ frs X.stack, b ∈ X.env.locals :: X.fs := fun b hb => by
  rcases I.ok.stk with e | ⟨e, hf⟩
  · rw [e] at hb; exact List.mem_cons_of_mem _ hb
  · rw [e] at hb
    unfold frs at hb
    rw [List.filterMap_cons, hf] at hb
    exact hb
theorem Inv.stkFree (I : Inv X pins σ H s) : ∀ b ∈ frs X.stack, H b = none := fun b hb => by
  rcases List.mem_cons.mp (I.stkSub b hb) with e | hb
  · rw [e]; exact I.free
  · obtain ⟨_, o, ho, _⟩ := I.ok.funs.mem hb
    exact I.base.free b o ho (I.ok.frf.f b hb) fun z => I.ok.exfs b z hb

/-- THE STEP: the untracked objects but the frame and the records at ch are kept (the callers' frames up to slots), the frame's map is kept, the new abstract heap is held -/
theorem Inv.step {g' : Array GenState} {t' : Nat} {d' : Drawn} {ch : List Addr} (I : Inv X pins σ H s)
    (hch : ∀ b ∈ ch, (b ∈ X.ex ∨ X.s₀.heap.objs.size ≤ b) ∧ b ≠ X.env.locals ∧ (∀ x c, X.env.cells.lookup x = some c → c ≠ b) ∧ ∀ p ∈ X.pn ++ pins, p.1 ≠ b)
    (keep : ∀ b o, b ≠ X.env.locals → b ∉ X.fs → b ∉ ch → s.heap.get? b = some o → H b = none → h'.get? b = some o)
    (slot : ∀ b o, b ≠ X.env.locals → b ∈ X.fs → b ∉ ch → s.heap.get? b = some o → H b = none → ∃ sl, h'.get? b = some { o with slots := sl }) (free : ∀ b o, b ∉ ch → s.heap.get? b = some o → H b = none → H' b = none)
    (there : ∀ b o, b ∉ ch → s.heap.get? b = some o → ∃ o', h'.get? b = some o')
    (tups : ∀ b xs, H b = some (.tup xs) → H' b = some (.tup xs)) (frzs : ∀ b o u, H b = some (.frz o u) → H' b = some (.frz o u)) (tbls : ∀ b ps, H b = some (.tbl ps) → ∃ more : Array Value, H' b = some (.tbl (ps ++ more)))
    (ns : ∀ m, s.heap.Ns X.env.locals m → h'.Ns X.env.locals m) (hok : HOk X.prog X.w H' h') (hg : AllBare g') :
    Inv X pins σ H' { s with heap := h', gens := g', drawn := d', toks := t' } := by
  have neL : ∀ b o, X.s₀.heap.get? b = some o → b ≠ X.env.locals := fun b o e => Nat.ne_of_lt (Nat.lt_of_lt_of_le (Heap.lt_size e) I.ok.above)
  have neC : ∀ b o, X.s₀.heap.get? b = some o → b ∉ X.ex → b ∉ ch := fun b o e hx hb => by
    rcases (hch b hb).1 with z | z
    · exact hx z
    · exact absurd (Nat.lt_of_lt_of_le (Heap.lt_size e) z) (Nat.lt_irrefl _)
  have cellK : ∀ x c, X.env.cells.lookup x = some c → ∀ v, s.heap.IsCell c v → h'.IsCell c v := fun x c e v ⟨o, ho, hd⟩ => by
    have nch : c ∉ ch := fun z => (hch c z).2.2.1 x c e rfl
    by_cases hc : c ∈ X.fs
    · obtain ⟨sl, q⟩ := slot c o (I.cne x c e) hc nch ho (I.freeC x c e)
      exact ⟨_, q, hd⟩
    · exact ⟨o, keep c o (I.cne x c e) hc nch ho (I.freeC x c e), hd⟩
  refine ⟨I.ok, I.os, hg, ⟨fun b o e n hb hx => ?_, fun b o e n hb hx => ?_, fun b o e n hx => ?_, fun b o e hx => ?_, fun b xs e => tups b xs (I.base.tups b xs e), fun b o xs e => frzs b o xs (I.base.frzs b o xs e), fun b ps e => ?_⟩, ?_, fun x c e => ?_, ?_, fun x c e => ?_, fun p hp => ?_, hok, I.len⟩
  · exact keep b o (neL b o e) hb (neC b o e hx) (I.base.keep b o e n hb hx) (I.base.free b o e n hx)
  · obtain ⟨sl, e1⟩ := I.base.slot b o e n hb hx
    obtain ⟨sl', e2⟩ := slot b _ (neL b o e) hb (neC b o e hx) e1 (I.base.free b o e n hx)
    exact ⟨sl', e2⟩
  · obtain ⟨o', e1⟩ := I.base.there b o e hx
    exact free b o' (neC b o e hx) e1 (I.base.free b o e n hx)
  · obtain ⟨o', e1⟩ := I.base.there b o e hx
    exact there b o' (neC b o e hx) e1
  · obtain ⟨m1, e1⟩ := I.base.tbls b ps e
    obtain ⟨m2, e2⟩ := tbls b _ e1
    exact ⟨m1 ++ m2, by rw [e2, TabD.append_assoc]⟩
  · obtain ⟨m, hn, hl⟩ := I.loc
    refine ⟨m, ns m hn, fun i x v e1 e2 e3 => ?_⟩
    obtain ⟨u, r, l⟩ := hl i x v e1 e2 e3
    refine ⟨u, r, ?_⟩
    rcases l with l | ⟨k, c, e, z⟩
    · exact .inl l
    · exact .inr ⟨k, c, e, cellK x c e _ z⟩
  · obtain ⟨v, z⟩ := I.cell x c e
    exact ⟨v, cellK x c e v z⟩
  · obtain ⟨m, ⟨o, _, _, ho, _⟩, _⟩ := I.loc
    exact free _ o (fun z => (hch _ z).2.1 rfl) ho I.free
  · obtain ⟨v, o, ho, hd⟩ := I.cell x c e
    exact free c o (fun z => (hch c z).2.2.1 x c e rfl) ho (I.freeC x c e)
  · obtain ⟨e, n, ne, nf, d⟩ := I.pin p hp
    have nch : p.1 ∉ ch := fun z => (hch p.1 z).2.2.2 p hp rfl
    exact ⟨keep p.1 p.2 ne nf nch e n, free p.1 p.2 nch e n, ne, nf, d⟩
/-- .. where the frame's own object is kept too -/
theorem Inv.un {t' : Nat} (I : Inv X pins σ H s) (u : Un X.fs [] H H' s.heap h') (hok : HOk X.prog X.w H' h') : Inv X pins σ H' { s with heap := h', toks := t' } := by
  obtain ⟨m, ⟨o, es, ep, ho, r⟩, _⟩ := id I.loc
  obtain ⟨sl, hL⟩ := u.any ho I.free (by simp)
  exact I.step (g' := s.gens) (d' := s.drawn) (ch := []) (fun _ z => nomatch z) (fun b o _ hb _ e n => u.keep b o e n hb (by simp)) (fun b o _ hb _ e n => u.slot b o e n hb (by simp)) (fun b o _ e n => u.free b o e n (by simp)) (fun b o _ e => u.there b o e (by simp)) u.tups u.frzs u.tbls (fun m' hm => by
    obtain ⟨o', es', ep', ho', r'⟩ := hm
    rw [ho] at ho'; cases ho'
    exact ⟨_, es', ep', hL, r'⟩) hok I.bare
/-- behind a call (or a comprehension's block): the slots of this frame may have changed too, the records at ch may have turned -/
theorem Inv.call {g' : Array GenState} {t' : Nat} {d' : Drawn} {ch : List Addr} (I : Inv X pins σ H s) (u : Un (frs X.stack) ch H H' s.heap h') (hok : HOk X.prog X.w H' h') (hg : AllBare g')
    (hch : ∀ b ∈ ch, (b ∈ X.ex ∨ X.s₀.heap.objs.size ≤ b) ∧ b ≠ X.env.locals ∧ (∀ x c, X.env.cells.lookup x = some c → c ≠ b) ∧ ∀ p ∈ X.pn ++ pins, p.1 ≠ b) :
    Inv X pins σ H' { s with heap := h', gens := g', drawn := d', toks := t' } := by
  obtain ⟨m, ⟨o, es, ep, ho, r⟩, _⟩ := id I.loc
  obtain ⟨sl, hL⟩ := u.any ho I.free fun z => (hch _ z).2.1 rfl
  exact I.step (ch := ch) hch (fun b o hL hb hc e n => u.keep b o e n (fun z => (List.mem_cons.mp (I.stkSub b z)).elim hL hb) hc) (fun b o _ _ hc e n => u.any e n hc) (fun b o hc e n => u.free b o e n hc) (fun b o hc e => u.there b o e hc) u.tups u.frzs u.tbls (fun m' hm => by
    obtain ⟨o', es', ep', ho', r'⟩ := hm
    rw [ho] at ho'; cases ho'
    exact ⟨_, es', ep', hL, r'⟩) hok hg
/-- an untracked record of ours (an iterator) has turned -/
theorem Inv.turned {t' : Nat} {it : Addr} (I : Inv X pins σ H s) (k : ∀ b o, b ≠ it → s.heap.get? b = some o → h'.get? b = some o) (hn : H it = none) (hL : it ≠ X.env.locals)
    (h1 : it ∈ X.ex ∨ X.s₀.heap.objs.size ≤ it) (h2 : ∀ x c, X.env.cells.lookup x = some c → c ≠ it) (h3 : ∀ p ∈ X.pn ++ pins, p.1 ≠ it) : Inv X pins σ H { s with heap := h', toks := t' } := by
  have nit : ∀ b u, H b = some u → b ≠ it := fun b u e z => by rw [z, hn] at e; cases e
  refine I.step (g' := s.gens) (d' := s.drawn) (ch := [it]) (fun b hb => ?_) (fun b o _ _ hc e _ => k b o (fun z => hc (by simp [z])) e) (fun b o _ _ hc e _ => ⟨o.slots, k b o (fun z => hc (by simp [z])) e⟩) (fun _ _ _ _ n => n)
    (fun b o hc e => ⟨o, k b o (fun z => hc (by simp [z])) e⟩) (fun _ _ e => e) (fun _ _ _ e => e) (fun b ps e => ⟨#[], by rw [e]; simp⟩) (fun m hm => ?_) (fun b u e => ?_) I.bare
  · have e : b = it := by simpa using hb
    subst e
    exact ⟨h1, hL, h2, h3⟩
  · obtain ⟨o, es, ep, ho, r⟩ := hm
    exact ⟨o, es, ep, k _ o (Ne.symm hL) ho, r⟩
  · refine (I.hok b u e).stay (fun c v hc q => k c v ?_ q) (fun _ q => q) fun _ _ q => q
    rcases hc with z | z
    · rw [z]; exact nit b u e
    · exact nit c _ z
theorem Inv.tok (I : Inv X pins σ H s) (t : Nat) : Inv X pins σ H { s with toks := t } := I.un (h' := s.heap) (t' := t) Un.refl I.hok
/-- all objects kept -/
theorem Inv.kept (I : Inv X pins σ H s) (k : ∀ b u, s.heap.get? b = some u → h'.get? b = some u) : Inv X pins σ H { s with heap := h', toks := t' } := I.un (Un.kept k) (I.hok.kept k)
/-- a new object laid and tracked -/
theorem Inv.laid {a : Addr} {o : HO} {t' : Nat} (I : Inv X pins σ H s) (k : ∀ b u, s.heap.get? b = some u → h'.get? b = some u) (hp : s.heap.objs.size ≤ a) (new : ObjOk X.prog X.w (upd H a o) h' a o) :
    Inv X pins σ (upd H a o) { s with heap := h', toks := t' } := I.un (Un.laid k hp (I.hok.fresh hp)) (I.hok.laid k hp new)
/-- an object written -/
theorem Inv.write (I : Inv X pins σ H s) (mu : Mut (H x)) (he : e = x ∨ H e = some (.own x)) (k : ∀ b u, b ≠ e → s.heap.get? b = some u → h'.get? b = some u) (heo : ∃ u, h'.get? e = some u)
    (new : ObjOk X.prog X.w (upd H x o) h' x o) : Inv X pins σ (upd H x o) { s with heap := h', toks := t' } := I.un (Un.write mu he k heo) (I.hok.write mu he k heo new)
/-- forgetting slots, pins -/
theorem Inv.weak (I : Inv X pins σ H s) (hl : σ'.length = σ.length) (w : ∀ (i : Nat) v, σ'[i]? = some (some v) → σ[i]? = some (some v)) : Inv X pins σ' H s :=
  ⟨I.ok, I.os, I.bare, I.base, let ⟨m, hn, hl'⟩ := I.loc; ⟨m, hn, fun i x v e1 e2 e3 => hl' i x v e1 (w i v e2) e3⟩, I.cell, I.free, I.freeC, I.pin, I.hok, hl.trans I.len⟩
theorem Inv.pins_of (I : Inv X pins σ H s) (h : ∀ p ∈ pins', s.heap.get? p.1 = some p.2 ∧ H p.1 = none ∧ p.1 ≠ X.env.locals ∧ p.1 ∉ X.fs ∧ ∀ v, p.2.data ≠ .cell v) : Inv X pins' σ H s :=
  ⟨I.ok, I.os, I.bare, I.base, I.loc, I.cell, I.free, I.freeC, fun p hp => (List.mem_append.mp hp).elim (fun z => I.pin p (List.mem_append_left _ z)) (h p), I.hok, I.len⟩

theorem nodup_ix {N : List Str} (hN : N.Nodup) {i j : Nat} {x : Str} (a : N[i]? = some x) (b : N[j]? = some x) : i = j := by
  obtain ⟨h1, e1⟩ := List.getElem?_eq_some_iff.mp a
  obtain ⟨h2, e2⟩ := List.getElem?_eq_some_iff.mp b
  exact (List.getElem_inj hN).mp (e1.trans e2.symm)

/-- a name is stored; what changed -/
theorem store_ok2 {M : Model} {A : Around} {E : Value → Shared → Prop} {i : Nat} {x : Str} {v : V} {u : Value} {Q : Unit → Shared → Prop} (I : Inv X pins σ H s) (hN : X.N.Nodup) (hi : X.N[i]? = some x) (hx : Loc X.env.scope x) (r : RelV v u)
    (h : ∀ s', Inv X pins (σ.set i (some v)) H s' → (∃ a, Heap.SameBut a s.heap s'.heap ∧ (a = X.env.locals ∨ X.env.cells.lookup x = some a)) → Q () s') (hf : X.fn x = true ∨ X.env.scope.names.lookup x = some .local := by first | exact .inl rfl | exact .inr rfl | assumption) : wpAny M A (storeName X.env x u) Q E s := by
  obtain ⟨m, hn, hl⟩ := id I.loc
  have hcls : (X.env.scope.kind == .class || (X.env.scope.kind == .module && X.env.locals != X.env.globals)) = false := by rw [I.ok.kind]; rfl
  have hiσ : i < σ.length := by rw [I.len]; exact (List.getElem?_eq_some_iff.mp hi).1
  have cne := I.cne
  have tracked : ∀ {a : Addr} {h' : Heap}, (∃ o, s.heap.get? a = some o ∧ H a = none) → Heap.SameBut a s.heap h' → HOk X.prog X.w H h' := fun {a h'} ha hs b ob e => by
    obtain ⟨_, _, hfree⟩ := ha
    refine (I.hok b ob e).stay (fun c w' hc q => (hs.2 c ?_).trans q) (fun _ q => q) fun _ _ q => q
    rintro rfl
    rcases hc with rfl | hc
    · rw [hfree] at e; cases e
    · rw [hfree] at hc; cases hc
  rcases hx with hk | hk
  · refine wpAny_storeName_local hk hn (fun h' hn' hs => ?_) hcls
    obtain ⟨oL, _, _, hoL, _⟩ := id hn
    refine h _ ⟨I.ok, I.os, I.bare, ⟨fun b o e n hb hx => ?_, fun b o e n hb hx => ?_, I.base.free, fun b o e hx => ?_, I.base.tups, I.base.frzs, I.base.tbls⟩, ⟨_, hn', fun j y v' e1 e2 e3 => ?_⟩, fun y c e => ?_, I.free, I.freeC, fun p hp => ?_, tracked ⟨oL, hoL, I.free⟩ hs, by simpa using I.len⟩ ⟨_, hs, .inl rfl⟩
    · exact (hs.2 b (Nat.ne_of_lt (Nat.lt_of_lt_of_le (Heap.lt_size e) I.ok.above))).trans (I.base.keep b o e n hb hx)
    · obtain ⟨sl, e1⟩ := I.base.slot b o e n hb hx
      exact ⟨sl, (hs.2 b (Nat.ne_of_lt (Nat.lt_of_lt_of_le (Heap.lt_size e) I.ok.above))).trans e1⟩
    · obtain ⟨o', e1⟩ := I.base.there b o e hx
      exact ⟨o', (hs.2 b (Nat.ne_of_lt (Nat.lt_of_lt_of_le (Heap.lt_size e) I.ok.above))).trans e1⟩
    · by_cases hj : j = i
      · subst hj
        rw [hi] at e1; cases e1
        rw [List.getElem?_set_self hiσ] at e2
        cases e2
        exact ⟨u, r, .inl ⟨hk, by simp⟩⟩
      · rw [List.getElem?_set_ne (Ne.symm hj)] at e2
        obtain ⟨u', r', q⟩ := hl j y v' e1 e2 e3
        refine ⟨u', r', ?_⟩
        rcases q with ⟨k, e⟩ | ⟨k, c, e, z⟩
        · refine .inl ⟨k, ?_⟩
          have : y ≠ x := fun e => hj (nodup_ix hN e1 (e ▸ hi))
          simp [this, e]
        · exact .inr ⟨k, c, e, z.sameBut hs (cne y c e)⟩
    · obtain ⟨w', z⟩ := I.cell y c e
      exact ⟨w', z.sameBut hs (cne y c e)⟩
    · obtain ⟨e, n, ne, nf, d⟩ := I.pin p hp
      exact ⟨(hs.2 p.1 ne).trans e, n, ne, nf, d⟩
  · have hfn : X.fn x = true := by
      rcases hf with z | z
      · exact z
      · rw [z] at hk; cases hk
    obtain ⟨c, hc⟩ := I.ok.has x (.inl hk)
    obtain ⟨w', z⟩ := I.cell x c hc
    refine wpAny_storeName_cell I.ok.kind hk hc z (fun h' hc' hs => ?_)
    obtain ⟨oc, hoc, hocd⟩ := id z
    refine h { s with heap := h' } ⟨I.ok, I.os, I.bare, ⟨fun b o e n hb hx => ?_, fun b o e n hb hx => ?_, I.base.free, fun b o e hx => ?_, I.base.tups, I.base.frzs, I.base.tbls⟩, ⟨m, hn.sameBut hs (Ne.symm (cne x c hc)), fun j y v' e1 e2 e3 => ?_⟩, fun y c' e => ?_, I.free, I.freeC, fun p hp => ?_, tracked ⟨oc, hoc, I.freeC x c hc⟩ hs, by simpa using I.len⟩ ⟨c, hs, .inr hc⟩
    · exact (hs.2 b (Nat.ne_of_lt (Nat.lt_of_lt_of_le (Heap.lt_size e) (I.ok.cab x c hfn hc)))).trans (I.base.keep b o e n hb hx)
    · obtain ⟨sl, e1⟩ := I.base.slot b o e n hb hx
      exact ⟨sl, (hs.2 b (Nat.ne_of_lt (Nat.lt_of_lt_of_le (Heap.lt_size e) (I.ok.cab x c hfn hc)))).trans e1⟩
    · obtain ⟨o', e1⟩ := I.base.there b o e hx
      exact ⟨o', (hs.2 b (Nat.ne_of_lt (Nat.lt_of_lt_of_le (Heap.lt_size e) (I.ok.cab x c hfn hc)))).trans e1⟩
    · by_cases hj : j = i
      · subst hj
        rw [hi] at e1; cases e1
        rw [List.getElem?_set_self hiσ] at e2
        cases e2
        exact ⟨u, r, .inr ⟨.inl hk, c, hc, hc'⟩⟩
      · rw [List.getElem?_set_ne (Ne.symm hj)] at e2
        obtain ⟨u', r', q⟩ := hl j y v' e1 e2 e3
        refine ⟨u', r', ?_⟩
        rcases q with q | ⟨k, c', e, z'⟩
        · exact .inl q
        · refine .inr ⟨k, c', e, z'.sameBut hs ?_⟩
          rintro rfl
          exact hj (nodup_ix hN e1 (I.ok.inj _ _ _ e hc ▸ hi))
    · by_cases hcc : c' = c
      · subst hcc; exact ⟨_, hc'⟩
      · obtain ⟨w2, z2⟩ := I.cell y c' e
        exact ⟨w2, z2.sameBut hs hcc⟩
    · obtain ⟨e, n, ne, nf, d⟩ := I.pin p hp
      refine ⟨(hs.2 p.1 ?_).trans e, n, ne, nf, d⟩
      intro q
      rw [q, hoc] at e
      have q' : oc = p.2 := Option.some.inj e
      exact d w' (by rw [← q']; exact hocd)
theorem store_ok (I : Inv X pins σ H s) (hN : X.N.Nodup) (hi : X.N[i]? = some x) (hx : Loc X.env.scope x) (r : RelV v u)
    (h : ∀ s', Inv X pins (σ.set i (some v)) H s' → Q () s') (hf : X.fn x = true ∨ X.env.scope.names.lookup x = some .local := by first | exact .inl rfl | exact .inr rfl | assumption) : wpAny M A (storeName X.env x u) Q E s :=
  store_ok2 I hN hi hx r (fun s' I' _ => h s' I') hf
/-- behind a call or a block, the state as it is -/
theorem Inv.call' (I : Inv X pins σ H s) (ho : s'.os = s.os) (u : Un (frs X.stack) ch H H' s.heap s'.heap) (hok : HOk X.prog X.w H' s'.heap) (hg : AllBare s'.gens)
    (hch : ∀ b ∈ ch, (b ∈ X.ex ∨ X.s₀.heap.objs.size ≤ b) ∧ b ≠ X.env.locals ∧ (∀ x c, X.env.cells.lookup x = some c → c ≠ b) ∧ ∀ p ∈ X.pn ++ pins, p.1 ≠ b) : Inv X pins σ H' s' := by
  obtain ⟨h', g', d', t', o'⟩ := s'
  have e : o' = s.os := ho
  subst e
  exact I.call (g' := g') (t' := t') (d' := d') u hok hg hch
end

/-! ### the judgements -/
/-- an exception: its class, its own dict's address (where it has one), the abstract heap behind it -/
noncomputable abbrev XK := Value → Option Addr → Hp → Prop
noncomputable abbrev St := List (Option V)
noncomputable abbrev VK := V → Hp → Prop
/-- an expression's reading; a test's; an argument list's -/
noncomputable abbrev TE := St → Hp → VK → Prop
noncomputable abbrev TT := St → Hp → (Bool → Hp → Prop) → Prop
noncomputable abbrev TA := St → Hp → (List V → Hp → Prop) → Prop
/-- what is wanted behind a statement -/
structure Ends where
  nx : St → Hp → Prop
  rt : VK
  bk : St → Hp → Prop := fun _ _ => False
  ct : St → Hp → Prop := fun _ _ => False
noncomputable abbrev TS := Ends → St → Hp → Prop

noncomputable def EP (X : Cx) (pins : List (Addr × Obj)) (σ : St) (Q : VK) (u : Value) (s' : Shared) : Prop := ∃ v H', Inv X pins σ H' s' ∧ RelV v u ∧ Q v H'
noncomputable def TP (X : Cx) (pins : List (Addr × Obj)) (σ : St) (Q : Bool → Hp → Prop) (b : Bool) (s' : Shared) : Prop := ∃ H', Inv X pins σ H' s' ∧ Q b H'
noncomputable def AP (X : Cx) (pins : List (Addr × Obj)) (σ : St) (Q : List V → Hp → Prop) (us : List Value) (s' : Shared) : Prop := ∃ vs H', Inv X pins σ H' s' ∧ Vals vs us ∧ Q vs H'
noncomputable def SP (X : Cx) (pins : List (Addr × Obj)) (D : Ends) (f : Flow) (s' : Shared) : Prop :=
  match f with
  | .next => ∃ σ' H', Inv X pins σ' H' s' ∧ D.nx σ' H'
  | .brk => ∃ σ' H', Inv X pins σ' H' s' ∧ D.bk σ' H'
  | .cont => ∃ σ' H', Inv X pins σ' H' s' ∧ D.ct σ' H'
  | .ret u => ∃ v σ' H', Inv X pins σ' H' s' ∧ RelV v u ∧ D.rt v H'

noncomputable def PE (X : Cx) (e : Expr) (t : TE) : Prop :=
  ∀ (pins : List (Addr × Obj)) (s : Shared) (σ : St) (H : Hp) (Q : VK), Inv X pins σ H s → t σ H Q → wpAny (model X.prog X.w) X.A (eval e X.env) (EP X pins σ Q) X.xe s
noncomputable def PT (X : Cx) (e : Expr) (t : TT) : Prop :=
  ∀ (pins : List (Addr × Obj)) (s : Shared) (σ : St) (H : Hp) (Q : Bool → Hp → Prop), Inv X pins σ H s → t σ H Q → wpAny (model X.prog X.w) X.A (isTrue e X.env (eval e X.env)) (TP X pins σ Q) X.xe s
/-- a test whatever its 'whole' is (and, or) -/
noncomputable def PW (X : Cx) (e : Expr) (t : TT) : Prop :=
  ∀ (whole : Sem Value) (pins : List (Addr × Obj)) (s : Shared) (σ : St) (H : Hp) (Q : Bool → Hp → Prop), Inv X pins σ H s → t σ H Q → wpAny (model X.prog X.w) X.A (isTrue e X.env whole) (TP X pins σ Q) X.xe s
theorem PW.pt (h : PW X e t) : PT X e t := h _
/-- an argument list (no star), from the left -/
noncomputable def PA (X : Cx) (es : List Expr) (t : TA) : Prop :=
  ∀ (pos : Pos) (pins : List (Addr × Obj)) (s : Shared) (σ : St) (H : Hp) (Q : List V → Hp → Prop), Inv X pins σ H s → t σ H Q → wpAny (model X.prog X.w) X.A (spliced (backTo pos (starEach es X.env))) (AP X pins σ Q) X.xe s
noncomputable def PS (X : Cx) (st : Stmt) (t : TS) : Prop :=
  ∀ (pins : List (Addr × Obj)) (s : Shared) (σ : St) (H : Hp) (D : Ends), Inv X pins σ H s → t D σ H → wpAny (model X.prog X.w) X.A (exec st X.env) (SP X pins D) X.xe s
noncomputable def PSs (X : Cx) (st : List Stmt) (t : TS) : Prop :=
  ∀ (pins : List (Addr × Obj)) (s : Shared) (σ : St) (H : Hp) (D : Ends), Inv X pins σ H s → t D σ H → wpAny (model X.prog X.w) X.A (execs st X.env) (SP X pins D) X.xe s
/-- weaken the end -/
theorem thn {α : Type} {t : Sem α} {Q Q' : α → Shared → Prop} {M : Model} {A : Around} {E : Value → Shared → Prop} {s : Shared} (h : wpAny M A t Q E s) (hQ : ∀ a s, Q a s → Q' a s) : wpAny M A t Q' E s := wpAny_mono h hQ fun _ _ x => x
end L2

namespace L2
open PySem PySem.Spec PyProof.Rows
section
variable {X : Cx}

/-! ### names and constants -/
noncomputable def tVar (i : Nat) : TE := fun σ H Q => ∃ v, σ[i]? = some (some v) ∧ Q v H
noncomputable def tC (v : V) : TE := fun _ H Q => Q v H
theorem pe_var (hN : X.N[i]? = some x) (hv : Vis X.env.scope x) (hd : (x == ("__debug__" : Str)) = false := by decide) (hcd : (x == ("__classdict__" : Str)) = false := by decide) : PE X (.Name x pos) (tVar i) := by
  intro pins s σ H Q I h
  obtain ⟨v, e, h⟩ := h
  obtain ⟨m, hn, hl⟩ := I.loc
  obtain ⟨u, r, l⟩ := hl i x v hN e hv
  have fin : EP X pins σ Q u s := ⟨v, H, I, r, h⟩
  rcases l with ⟨hk, hm⟩ | ⟨hk, c, hc, hcell⟩
  · exact wpAny_Name (wpAny_loadName_local I.ok.kind hk hn hm fin) hd
  · rcases hk with hk | hk
    · exact wpAny_Name (wpAny_loadName_cell I.ok.kind hk hc hcell fin) hd
    · exact wpAny_Name (wpAny_loadName_free I.ok.kind hk hc hcell fin hcd) hd
theorem pe_int : PE X (.Constant (.int i) j pos) (tC (.int i)) := fun _ _ _ H _ I h => wpAny_Constant_int ⟨.int i, H, I.tok _, ⟨_, rfl⟩, h⟩
theorem pe_bl : PE X (.Constant (.bool b) j pos) (tC (.bl b)) := fun _ _ _ H _ I h => Constant_bool ⟨.bl b, H, I, rfl, h⟩
/-- a global name of the def -/
noncomputable def Gl (X : Cx) (x : Str) : Prop := X.env.kindOf x = some .globalImplicit
theorem ld_glob (I : Inv X pins σ H s) (hg : Gl X x) (hm : X.mg x = some u) (h : Q u s)
    (hd : (x == ("__debug__" : Str)) = false := by decide) : wpAny (model X.prog X.w) X.A (eval (.Name x pos) X.env) Q E s :=
  Calls.Name_function_global I.ok.kind hg (Calls.loadGlobal_global (by rw [I.ok.glob]; exact I.mod.glob.keeps I.bk) hm h) hd
theorem ld_blt (I : Inv X pins σ H s) (hg : Gl X x) (hm : X.mg x = none) (hv : bootBuiltins x = some u) (h : Q u s)
    (hn : x ≠ "__name__" := by decide) (hd : (x == ("__debug__" : Str)) = false := by decide) : wpAny (model X.prog X.w) X.A (eval (.Name x pos) X.env) Q E s := by
  obtain ⟨mb, h1, h2⟩ := I.mod.blt
  exact Calls.Name_function_global I.ok.kind hg (Calls.loadGlobal_builtin (by rw [I.ok.glob]; exact I.mod.glob.keeps I.bk) hm (by rw [I.ok.blt]; exact h1.keeps I.bk) ((h2 x hn).trans hv) h) hd
theorem pe_bltn (hg : Gl X x) (hm : X.mg x = none) (hv : bootBuiltins x = some u) (r : RelV v u) (hn : x ≠ "__name__" := by decide) (hd : (x == ("__debug__" : Str)) = false := by decide) : PE X (.Name x pos) (tC v) :=
  fun _ _ _ H _ I h => ld_blt I hg hm hv ⟨v, H, I, r, h⟩ hn hd

/-! ### arithmetic -/
variable {a b : Expr} {ta tb : TE} {pos : Pos}
/-! ### comparisons -/
/-- a comparison as a value, as a test -/
noncomputable def tB (t : TE) : TT := fun σ H Q => t σ H fun x H1 => ∃ c, x = .bl c ∧ Q c H1
/-- an expression whose value is a bool, as a test -/
theorem pt_val (h : PE X e t) (he : ∀ whole, isTrue e X.env whole = (do let v ← whole; standAt e.pos; holding [v] (truthy v)) := by intro _; rfl) : PT X e (tB t) := by
  intro pins s σ H Q I hw
  refine isTrue_plain (thn (h pins s σ H _ I hw) fun v s1 ⟨x, H1, I1, r1, q1⟩ => ?_) (he _)
  obtain ⟨d, rfl, q⟩ := q1
  cases r1
  exact wpAny_truthy_bool ⟨H1, I1, q⟩

/-! ### and, or, not -/
variable {tA tB' : TT} {rest : List Expr}
noncomputable def tAnd (t u : TT) : TT := fun σ H Q => t σ H fun c H1 => if c = true then u σ H1 Q else Q false H1
noncomputable def tOr (t u : TT) : TT := fun σ H Q => t σ H fun c H1 => if c = true then Q true H1 else u σ H1 Q
noncomputable def tNot (t : TT) : TT := fun σ H Q => t σ H fun c H1 => Q (!c) H1
theorem pw_and1 (ha : PT X a tA) : PW X (.BoolOp .And [a] pos) tA := by
  intro wh pins s σ H Q I h
  refine isTrue_and (thn (ha pins s σ H Q I h) fun c s1 e => ?_)
  cases c with
  | true => exact isTrue_and_nil e
  | false => exact e
theorem pw_or1 (ha : PT X a tA) : PW X (.BoolOp .Or [a] pos) tA := by
  intro wh pins s σ H Q I h
  refine isTrue_or (thn (ha pins s σ H Q I h) fun c s1 e => ?_)
  cases c with
  | false => exact isTrue_or_nil e
  | true => exact e
theorem pw_and (ha : PT X a tA) (hb : PW X (.BoolOp .And (b :: rest) pos) tB') : PW X (.BoolOp .And (a :: b :: rest) pos) (tAnd tA tB') := by
  intro wh pins s σ H Q I h
  refine isTrue_and (thn (ha pins s σ H _ I h) fun c s1 ⟨H1, I1, q1⟩ => ?_)
  cases c with
  | true => exact hb wh pins s1 σ H1 Q I1 q1
  | false => exact ⟨H1, I1, q1⟩
theorem pw_or (ha : PT X a tA) (hb : PW X (.BoolOp .Or (b :: rest) pos) tB') : PW X (.BoolOp .Or (a :: b :: rest) pos) (tOr tA tB') := by
  intro wh pins s σ H Q I h
  refine isTrue_or (thn (ha pins s σ H _ I h) fun c s1 ⟨H1, I1, q1⟩ => ?_)
  cases c with
  | true => exact ⟨H1, I1, q1⟩
  | false => exact hb wh pins s1 σ H1 Q I1 q1
theorem pt_not (ha : PT X a tA) : PT X (.UnaryOp .Not a pos) (tNot tA) := by
  intro pins s σ H Q I h
  exact isTrue_not (ha pins s σ H (fun c H1 => Q (!c) H1) I h)
/-- .. as values (bools) -/
noncomputable def tAndV (ta tb : TE) : TE := fun σ H Q => ta σ H fun x H1 => ∃ c, x = .bl c ∧ if c = true then tb σ H1 Q else Q (.bl false) H1
noncomputable def tNotV (ta : TE) : TE := fun σ H Q => ta σ H fun x H1 => ∃ c, x = .bl c ∧ Q (.bl (!c)) H1
theorem pe_one (h : PE X a t) : PE X (.BoolOp op [a] pos) t := fun pins s σ H Q I hw => BoolOp_one (h pins s σ H Q I hw)
theorem pe_and (ha : PE X a ta) (hb : PE X (.BoolOp .And (b :: rest) pos) tb) : PE X (.BoolOp .And (a :: b :: rest) pos) (tAndV ta tb) := by
  intro pins s σ H Q I h
  refine BoolOp_and (thn (ha pins s σ H _ I h) fun v s1 ⟨x, H1, I1, r1, q1⟩ => ?_)
  obtain ⟨c, rfl, q1⟩ := q1
  cases r1
  refine wpAny_truthy_bool ?_
  cases c with
  | true => exact hb pins s1 σ H1 Q I1 q1
  | false => exact ⟨.bl false, H1, I1, rfl, q1⟩
theorem pe_not (ha : PE X a ta) : PE X (.UnaryOp .Not a pos) (tNotV ta) := by
  intro pins s σ H Q I h
  refine UnaryOp_ (thn (ha pins s σ H _ I h) fun v s1 ⟨x, H1, I1, r1, q1⟩ => ?_)
  obtain ⟨c, rfl, q1⟩ := q1
  cases r1
  exact not_of (wpAny_truthy_bool ⟨.bl (!c), H1, I1, rfl, q1⟩)
/-- a if t else b -/
noncomputable def tIf (t : TT) (ta tb : TE) : TE := fun σ H Q => t σ H fun c H1 => if c = true then ta σ H1 Q else tb σ H1 Q
theorem pe_ifExp (hc : PT X c tA) (ha : PE X a ta) (hb : PE X b tb) : PE X (.IfExp c a b pos) (tIf tA ta tb) := by
  intro pins s σ H Q I h
  refine wpAny_IfExp (thn (hc pins s σ H _ I h) fun d s1 ⟨H1, I1, q1⟩ => ?_)
  cases d with
  | true => exact ha pins s1 σ H1 Q I1 q1
  | false => exact hb pins s1 σ H1 Q I1 q1
end
end L2

namespace L2
open PySem PySem.Spec PyProof.Rows

/-! ### a list, a tuple that is read: tracked, frozen, or an object of the module -/
noncomputable def SqL (K : PySem.W.Frag) (H : Hp) (a : Addr) (xs : List V) : Prop :=
  Rd H a (.lst xs) ∨
    ∃ (o : Obj) (its : Array Value) (n : Nat), K.lookup a = some o ∧ o.cls = .type "list" ∧ o.dict = none ∧ o.data = .seq its n ∧ its.size ≤ sizeLine ∧ Vals xs its.toList
noncomputable def SqT (K : PySem.W.Frag) (H : Hp) (a : Addr) (xs : List V) : Prop :=
  Rd H a (.tup xs) ∨
    ∃ (o : Obj) (its : Array Value) (n : Nat), K.lookup a = some o ∧ o.cls = .type "tuple" ∧ o.data = .seq its n ∧ its.size ≤ sizeLine ∧ Vals xs its.toList
noncomputable def absV : Value → Option V
  | .none => some .non
  | .bool b => some (.bl b)
  | .int i _ => some (.int i)
  | .str x _ => some (.str x)
  | .bytes b _ => some (.byt b)
  | .float b _ => some (.flt b)
  | .ref a => some (.ref a)
  | .type n => some (.ty n)
  | _ => none
theorem RelV.abs (r : RelV x u) : absV u = some x := by
  cases x with
  | non => cases r; rfl
  | bl _ => cases r; rfl
  | int _ => obtain ⟨t, rfl⟩ := r; rfl
  | str _ => obtain ⟨t, rfl⟩ := r; rfl
  | byt _ => obtain ⟨t, rfl⟩ := r; rfl
  | flt _ => obtain ⟨t, rfl⟩ := r; rfl
  | ref _ => cases r; rfl
  | ty _ => cases r; rfl
theorem RelV.inj (r : RelV x u) (q : RelV y u) : x = y := Option.some.inj (r.abs.symm.trans q.abs)
theorem Vals.inj : ∀ {xs ys : List V} {us : List Value}, Vals xs us → Vals ys us → xs = ys
  | _, _, _, .nil, .nil => rfl
  | _, _, _, .cons r t, .cons r' t' => by rw [r.inj r', Vals.inj t t']
section
variable {X : Cx} {pins : List (Addr × Obj)} {σ : St} {H : Hp} {s : Shared} {a : Addr} {xs ys : List V}
theorem SqL.of {K : PySem.W.Frag} (h : H a = some (.lst xs)) : SqL K H a xs := .inl (.inl h)
theorem SqT.of {K : PySem.W.Frag} (h : H a = some (.tup xs)) : SqT K H a xs := .inl (.inl h)
theorem Inv.list (I : Inv X pins σ H s) (h : SqL X.K H a xs) : ∃ its : List Value, Vals xs its ∧ PlainL s.heap a its.toArray ∧ xs.length ≤ sizeLine := by
  rcases h with h | ⟨o, its, n, hk, hc, hd, hs, hz, r⟩
  · obtain ⟨z, its, n, r, e⟩ := h.ok I.hok
    exact ⟨its, r, ⟨_, n, e, rfl, rfl, rfl⟩, z⟩
  · refine ⟨its.toList, r, ⟨o, n, I.kIn a o hk, hc, hd, by simpa using hs⟩, ?_⟩
    have e := r.length
    simp only [Array.length_toList] at e
    omega
theorem Inv.tuple (I : Inv X pins σ H s) (h : SqT X.K H a xs) : ∃ its : List Value, Vals xs its ∧ IsTup s.heap a its.toArray ∧ xs.length ≤ sizeLine := by
  rcases h with h | ⟨o, its, n, hk, hc, hs, hz, r⟩
  · obtain ⟨z, its, r, p⟩ := h.ok I.hok
    exact ⟨its, r, p, z⟩
  · refine ⟨its.toList, r, ⟨o, I.kIn a o hk, hc, n, by simpa using hs⟩, ?_⟩
    have e := r.length
    simp only [Array.length_toList] at e
    omega
theorem Inv.list_inj (I : Inv X pins σ H s) (h : SqL X.K H a xs) (h' : SqL X.K H a ys) : xs = ys := by
  obtain ⟨its, r, ⟨o, n, e, _, _, d⟩, _⟩ := I.list h
  obtain ⟨its', r', ⟨o', n', e', _, _, d'⟩, _⟩ := I.list h'
  rw [e] at e'; cases e'
  rw [d] at d'
  injection d' with d1 _
  have : its = its' := by simpa using congrArg Array.toList d1
  subst this
  exact r.inj r'
end

/-! ### another wish about exceptions -/
noncomputable abbrev Cx.wish (X : Cx) (E : Value → Shared → Prop) : Cx := { X with xe := E }
/-- no exception leaves -/
noncomputable abbrev Cx.nox (X : Cx) : Cx := X.wish fun _ _ => False
theorem Cx.Ok.wish {X : Cx} (ok : X.Ok) (E : Value → Shared → Prop) : (X.wish E).Ok :=
  ⟨ok.mod, ok.kind, ok.glob, ok.blt, ok.above, ok.inj, ok.has, ok.cab, ok.hd, ok.frames, ok.stk, ok.exf, ok.bs, ok.bsz, ok.noex, ok.exfs, ok.funs, ok.frf⟩
theorem Cx.Ok.unwish {X : Cx} {E : Value → Shared → Prop} (ok : (X.wish E).Ok) : X.Ok :=
  ⟨ok.mod, ok.kind, ok.glob, ok.blt, ok.above, ok.inj, ok.has, ok.cab, ok.hd, ok.frames, ok.stk, ok.exf, ok.bs, ok.bsz, ok.noex, ok.exfs, ok.funs, ok.frf⟩
section
variable {X : Cx} {pins : List (Addr × Obj)} {σ : St} {H : Hp} {s : Shared} {E : Value → Shared → Prop}
theorem Inv.wish (I : Inv X pins σ H s) (E : Value → Shared → Prop) : Inv (X.wish E) pins σ H s := ⟨I.ok.wish E, I.os, I.bare, I.base, I.loc, I.cell, I.free, I.freeC, I.pin, I.hok, I.len⟩
theorem Inv.unwish (I : Inv (X.wish E) pins σ H s) : Inv X pins σ H s := ⟨I.ok.unwish, I.os, I.bare, I.base, I.loc, I.cell, I.free, I.freeC, I.pin, I.hok, I.len⟩
theorem SP.unwish (h : SP (X.wish E) pins D f s') : SP X pins D f s' := by
  cases f with
  | next => obtain ⟨σ', H', I, q⟩ := h; exact ⟨σ', H', I.unwish, q⟩
  | brk => obtain ⟨σ', H', I, q⟩ := h; exact ⟨σ', H', I.unwish, q⟩
  | cont => obtain ⟨σ', H', I, q⟩ := h; exact ⟨σ', H', I.unwish, q⟩
  | ret u => obtain ⟨v, σ', H', I, r, q⟩ := h; exact ⟨v, σ', H', I.unwish, r, q⟩
theorem PSs.nox {st : List Stmt} {t : TS} (h : PSs X.nox st t) : PSs X st t := fun pins s σ H D I hw =>
  wpAny_mono (h pins s σ H D (I.wish _) hw) (fun _ _ q => q.unwish) fun _ _ z => False.elim z
end

/-! ### blocks and small statements -/
section
variable {X : Cx} {st : Stmt} {rest : List Stmt} {t u : TS} {e : Expr} {te : TE} {pos : Pos}
noncomputable def tNext : TS := fun D σ H => D.nx σ H
noncomputable def tSeq (t u : TS) : TS := fun D σ H => t { D with nx := u D } σ H
theorem pss_nil : PSs X [] tNext := fun _ _ σ H _ I h => wpAny_execs_nil ⟨σ, H, I, h⟩
theorem pss_cons (h1 : PS X st t) (h2 : PSs X rest u) : PSs X (st :: rest) (tSeq t u) := by
  intro pins s σ H D I h
  refine wpAny_execs_cons (thn (h1 pins s σ H { D with nx := u D } I h) fun f s1 q => ?_)
  cases f with
  | next =>
    obtain ⟨σ', H', I', q⟩ := q
    exact h2 pins s1 σ' H' D I' q
  | ret v => exact q
  | brk => exact q
  | cont => exact q
theorem pss_one (h1 : PS X st t) : PSs X [st] t := by
  intro pins s σ H D I h
  refine wpAny_execs_cons (thn (h1 pins s σ H D I h) fun f s1 q => ?_)
  cases f with
  | next => exact wpAny_execs_nil q
  | ret v => exact q
  | brk => exact q
  | cont => exact q
/-- in a def's body nothing is shown -/
theorem Inv.quiet (I : Inv X pins σ H s) : interactive X.env = false := by simp [interactive, I.ok.kind]
/-- an expression whose value is dropped -/
noncomputable def tDrop (te : TE) : TS := fun D σ H => te σ H fun _ H1 => D.nx σ H1
theorem ps_expr (he : PE X e te) (hs : swapsWith e none pos.line X.env = pure false := by rfl) : PS X (.Expr e pos) (tDrop te) := by
  intro pins s σ H D I h
  exact wpAny_Expr_any (thn (he pins s σ H _ I h) fun v s1 ⟨x, H1, I1, r1, q1⟩ => ⟨σ, H1, I1, q1⟩) I.quiet hs
noncomputable def tRet (te : TE) : TS := fun D σ H => te σ H D.rt
theorem ps_ret (he : PE X e te) : PS X (.Return (some e) pos) (tRet te) := by
  intro pins s σ H D I h
  exact wpAny_Return_some (thn (he pins s σ H _ I h) fun v s1 ⟨x, H1, I1, r1, q1⟩ => ⟨x, σ, H1, I1, r1, q1⟩)
noncomputable def tIfS (c : TT) (t u : TS) : TS := fun D σ H => c σ H fun b H1 => if b = true then t D σ H1 else u D σ H1
theorem ps_if (hc : PT X c tc) (ha : PSs X a t) (hb : PSs X b u) : PS X (.If c a b pos) (tIfS tc t u) := by
  intro pins s σ H D I h
  refine wpAny_If (thn (hc pins s σ H _ I h) fun d s1 ⟨H1, I1, q1⟩ => ?_)
  cases d with
  | true => exact ha pins s1 σ H1 D I1 q1
  | false => exact hb pins s1 σ H1 D I1 q1
end

/-! ### targets -/
noncomputable abbrev TG := V → St → Hp → (St → Hp → Prop) → Prop
noncomputable abbrev TGs := List V → St → Hp → (St → Hp → Prop) → Prop
noncomputable def PG (X : Cx) (target : Expr) (t : TG) : Prop :=
  ∀ (pins : List (Addr × Obj)) (s : Shared) (σ : St) (H : Hp) (v : V) (u : Value) (Q : St → Hp → Prop), Inv X pins σ H s → RelV v u → t v σ H Q →
    wpAny (model X.prog X.w) X.A (assign target X.env u) (fun _ s' => ∃ σ' H', Inv X pins σ' H' s' ∧ Q σ' H') X.xe s
/-- several targets, one after another -/
noncomputable def PGs (X : Cx) (ts : List Expr) (t : TGs) : Prop :=
  ∀ (pins : List (Addr × Obj)) (s : Shared) (σ : St) (H : Hp) (vs : List V) (us : List Value) (Q : St → Hp → Prop), Inv X pins σ H s → Vals vs us → t vs σ H Q →
    wpAny (model X.prog X.w) X.A (assignInOrder ((assignEach ts X.env).map (·.2)) us) (fun _ s' => ∃ σ' H', Inv X pins σ' H' s' ∧ Q σ' H') X.xe s
/-- o[i] = v, by values -/
noncomputable abbrev TSet := V → V → V → Hp → (Hp → Prop) → Prop
noncomputable def PSet (X : Cx) (t : TSet) : Prop :=
  ∀ (pins : List (Addr × Obj)) (s : Shared) (σ : St) (H : Hp) (o i v : V) (ov iv u : Value) (Q : Hp → Prop), Inv X pins σ H s → RelV o ov → RelV i iv → RelV v u → t o i v H Q →
    wpAny (model X.prog X.w) X.A (setItem ov iv u) (fun _ s' => ∃ H', Inv X pins σ H' s' ∧ Q H') X.xe s
/-- a op= b, by values -/
noncomputable abbrev TIp := V → V → Hp → VK → Prop
noncomputable def PIp (X : Cx) (op : Operator) (t : TIp) : Prop :=
  ∀ (pins : List (Addr × Obj)) (s : Shared) (σ : St) (H : Hp) (x y : V) (v u : Value) (Q : VK), Inv X pins σ H s → RelV x v → RelV y u → t x y H Q →
    wpAny (model X.prog X.w) X.A (inplaceOp op v u) (EP X pins σ Q) X.xe s
section
variable {X : Cx} {pos : Pos}
noncomputable def gName (i : Nat) : TG := fun v σ H Q => Q (σ.set i (some v)) H
theorem pg_name (hN : X.N.Nodup) (hi : X.N[i]? = some x) (hx : Loc X.env.scope x) (hf : X.fn x = true ∨ X.env.scope.names.lookup x = some .local := by first | exact .inl rfl | exact .inr rfl | assumption) : PG X (.Name x pos) (gName i) := by
  intro pins s σ H v u Q I r h
  exact wpAny_assign_Name (store_ok I hN hi hx r (fun s' I' => ⟨_, H, I', h⟩) hf)
noncomputable def gNil : TGs := fun vs σ H Q => vs = [] ∧ Q σ H
noncomputable def gCons (t : TG) (u : TGs) : TGs := fun vs σ H Q => ∃ v r, vs = v :: r ∧ t v σ H fun σ' H' => u r σ' H' Q
theorem pgs_nil : PGs X [] gNil := by
  intro pins s σ H vs us Q I r h
  obtain ⟨e, h⟩ := h
  subst e
  cases r
  exact assignInOrder_nil ⟨σ, H, I, h⟩
theorem pgs_cons (h1 : PG X e t) (h2 : PGs X es u)
    (hs : (assignEach (e :: es) X.env).map (·.2) = assign e X.env :: (assignEach es X.env).map (·.2) := by rfl) : PGs X (e :: es) (gCons t u) := by
  intro pins s σ H vs us Q I r h
  obtain ⟨v, vr, e1, h⟩ := h
  subst e1
  cases r with
  | cons r rr =>
    rw [hs]
    refine assignInOrder_cons (thn (h1 pins s σ H _ _ _ I r h) fun _ s1 ⟨σ1, H1, I1, q1⟩ => ?_)
    exact h2 pins s1 σ1 H1 _ _ Q I1 rr q1
/-- (a, b, ..) = a tuple of that length -/
noncomputable def gTup (K : PySem.W.Frag) (n : Nat) (t : TGs) : TG := fun v σ H Q => ∃ a xs, v = .ref a ∧ SqT K H a xs ∧ xs.length = n ∧ t xs σ H Q
theorem pg_tup (hc : X.calm = true) (h : PGs X es t)
    (hn : (assignEach es X.env).length = n := by rfl) (hst : (assignEach es X.env).findIdx? (·.1) = none := by rfl) : PG X (.Tuple es k pos) (gTup X.K n t) := by
  intro pins s σ H v u Q I r hw
  obtain ⟨a, xs, e1, hq, hl, hw⟩ := hw
  subst e1
  cases r
  obtain ⟨its, rv, ht, hz⟩ := I.tuple hq
  refine assign_Tuple_tuple (I.ok.hd hc) ht (by simp [hn, ← hl, rv.length]) hst fun h' hx => ?_
  have I1 : Inv X pins σ H { s with heap := h' } := I.kept (t' := s.toks) fun b o e => hx b o (Nat.ne_of_lt (Heap.lt_size e)) e
  exact h pins _ σ H xs _ Q I1 (by simpa using rv) hw
/-- o[i] = .. -/
noncomputable def gSub (to ti : TE) (t : TSet) : TG := fun v σ H Q => to σ H fun o H1 => ti σ H1 fun i H2 => t o i v H2 fun H3 => Q σ H3
theorem pg_sub (ho : PE X o to) (hi : PE X i ti) (hs : PSet X t)
    (ha : ∀ v, assign (.Subscript o i pos) X.env v = (do
      let ov ← holding [v] (eval o X.env)
      let iv ← holding [v, ov] (eval i X.env)
      standAt pos
      holding [v, ov, iv] (setItem ov iv v)
      release [v, ov, iv] []) := by intro _; rfl) : PG X (.Subscript o i pos) (gSub to ti t) := by
  intro pins s σ H v u Q I r h
  rw [ha]
  refine wpAny_bind (wpAny_holding (thn (ho pins s σ H _ I h) fun ov s1 ⟨x, H1, I1, r1, q1⟩ => ?_))
  refine wpAny_bind (wpAny_holding (thn (hi pins s1 σ H1 _ I1 q1) fun iv s2 ⟨y, H2, I2, r2, q2⟩ => ?_))
  refine wpAny_bind (wpAny_standAt (wpAny_bind (wpAny_holding (thn (hs pins s2 σ H2 x y v ov iv u _ I2 r1 r2 r q2) fun _ s3 ⟨H3, I3, q3⟩ => ?_))))
  exact wpAny_release ⟨σ, H3, I3, q3⟩
/-- target = value -/
noncomputable def tAsg (te : TE) (g : TG) : TS := fun D σ H => te σ H fun x H1 => g x σ H1 D.nx
theorem ps_asg (he : PE X e te) (hg : PG X tg g) (hs : swapsWithSole [tg] e pos.line X.env = pure false := by rfl) (hw : swappedStores [tg] e X.env = pure none := by rfl)
    (h1 : (assignEach [tg] X.env).map (·.2) = [assign tg X.env] := by rfl) : PS X (.Assign [tg] e pos) (tAsg te g) := by
  intro pins s σ H D I h
  refine wpAny_Assign_stores (thn (he pins s σ H _ I h) fun v s1 ⟨x, H1, I1, r1, q1⟩ => ?_) hs hw
  rw [h1]
  exact thn (hg pins s1 σ H1 x v _ I1 r1 q1) fun _ s2 q => q
/-- name = value -/
theorem ps_set (hN : X.N.Nodup) (hi : X.N[i]? = some x) (hx : Loc X.env.scope x) (he : PE X e te) (hs : swapsWith e (some (.Name x pos')) pos.line X.env = pure false := by rfl) (hf : X.fn x = true ∨ X.env.scope.names.lookup x = some .local := by first | exact .inl rfl | exact .inr rfl | assumption) :
    PS X (.Assign [.Name x pos'] e pos) (tAsg te (gName i)) := by
  intro pins s σ H D I h
  refine wpAny_Assign_Name (thn (he pins s σ H _ I h) fun v s1 ⟨y, H1, I1, r1, q1⟩ => ?_) hs
  exact store_ok I1 hN hi hx r1 (fun s2 I2 => ⟨_, H1, I2, q1⟩) hf
/-- name op= e -/
noncomputable def tAug (i : Nat) (te : TE) (ti : TIp) : TS := fun D σ H => ∃ x, σ[i]? = some (some x) ∧ te σ H fun y H1 => ti x y H1 fun z H2 => D.nx (σ.set i (some z)) H2
theorem ps_aug (hN : X.N.Nodup) (hi : X.N[i]? = some x) (hx : Loc X.env.scope x) (he : PE X e te) (ho : PIp X op ti) (hf : X.fn x = true ∨ X.env.scope.names.lookup x = some .local := by first | exact .inl rfl | exact .inr rfl | assumption) :
    PS X (.AugAssign (.Name x pos') op e pos) (tAug i te ti) := by
  intro pins s σ H D I h
  obtain ⟨v, e1, h⟩ := h
  obtain ⟨m, hn, hl⟩ := I.loc
  have vis : Vis X.env.scope x := by rcases hx with k | k; exact .inl k; exact .inr (.inl k)
  obtain ⟨u, r, l⟩ := hl i x v hi e1 vis
  refine wpAny_AugAssign_Name ?_
  have go : wpAny (model X.prog X.w) X.A (eval e X.env) (fun w s₂ => wpAny (model X.prog X.w) X.A (inplaceOp op u w) (fun r s₃ => wpAny (model X.prog X.w) X.A (storeName X.env x r) (fun _ => SP X pins D .next) X.xe s₃) X.xe s₂) X.xe s := by
    refine thn (he pins s σ H _ I h) fun w s1 ⟨y, H1, I1, r1, q1⟩ => ?_
    refine thn (ho pins s1 σ H1 v y u w _ I1 r r1 q1) fun z s2 ⟨zv, H2, I2, r2, q2⟩ => ?_
    exact store_ok I2 hN hi hx r2 (fun s3 I3 => ⟨_, H2, I3, q2⟩) hf
  rcases l with ⟨hk, hm⟩ | ⟨hk, c, hc, hcell⟩
  · exact wpAny_loadName_local I.ok.kind hk hn hm go
  · rcases hk with hk | hk
    · exact wpAny_loadName_cell I.ok.kind hk hc hcell go
    · rcases hx with k | k
      · have : X.env.scope.names.lookup x = some .free := hk
        rw [k] at this; cases this
      · have : X.env.scope.names.lookup x = some .free := hk
        rw [k] at this; cases this
/-- o[i] op= e -/
noncomputable def tAugS (to ti te : TE) (tget : V → V → Hp → VK → Prop) (tip : TIp) (tset : TSet) : TS := fun D σ H => to σ H fun o H1 => ti σ H1 fun i H2 => tget o i H2 fun x H3 => te σ H3 fun y H4 => tip x y H4 fun z H5 => tset o i z H5 fun H6 => D.nx σ H6
/-- o[i], by values -/
noncomputable def PGet (X : Cx) (t : V → V → Hp → VK → Prop) : Prop :=
  ∀ (pins : List (Addr × Obj)) (s : Shared) (σ : St) (H : Hp) (o i : V) (ov iv : Value) (Q : VK), Inv X pins σ H s → RelV o ov → RelV i iv → t o i H Q →
    wpAny (model X.prog X.w) X.A (getItem ov iv) (EP X pins σ Q) X.xe s
theorem ps_augS (ho : PE X o to) (hi : PE X i ti) (hg : PGet X tget) (he : PE X e te) (hp : PIp X op tip) (hs : PSet X tset)
    (ha : ∀ ov iv new, augStore i ov iv new = (do holding [new, ov, iv] (setItem ov iv new); release [new, ov, iv] []; pure .next) := by intros; rfl) : PS X (.AugAssign (.Subscript o i tpos) op e pos) (tAugS to ti te tget tip tset) := by
  intro pins s σ H D I h
  refine wpAny_AugAssign_SubscriptAny (thn (ho pins s σ H _ I h) fun ov s1 ⟨x1, H1, I1, r1, q1⟩ => ?_) ha
  refine thn (hi pins s1 σ H1 _ I1 q1) fun iv s2 ⟨x2, H2, I2, r2, q2⟩ => ?_
  refine thn (hg pins s2 σ H2 x1 x2 ov iv _ I2 r1 r2 q2) fun old s3 ⟨x3, H3, I3, r3, q3⟩ => ?_
  refine thn (he pins s3 σ H3 _ I3 q3) fun v s4 ⟨x4, H4, I4, r4, q4⟩ => ?_
  refine thn (hp pins s4 σ H4 x3 x4 old v _ I4 r3 r4 q4) fun new s5 ⟨x5, H5, I5, r5, q5⟩ => ?_
  exact thn (hs pins s5 σ H5 x1 x2 x5 ov iv new _ I5 r1 r2 r5 q5) fun _ s6 ⟨H6, I6, q6⟩ => ⟨σ, H6, I6, q6⟩
end

/-! ### while -/
section
variable {X : Cx} {pos : Pos}
/-- the invariant W with its measure -/
noncomputable def tWhile (c : TT) (tb : TS) : TS := fun D σ H => ∃ W : Nat → St → Hp → Prop, (∃ m, W m σ H) ∧ ∀ m σ H, W m σ H →
  c σ H fun b H1 => if b = true then ∃ N : St → Hp → Prop, (∀ σ' H', N σ' H' → ∃ m', m' < m ∧ W m' σ' H') ∧ tb { D with nx := N, ct := N, bk := D.nx } σ H1 else D.nx σ H1
theorem ps_while (hp : PassesOwn (model X.prog X.w) X.A X.env X.xe) (hc : PT X c tc) (hb : PSs X body tb) : PS X (.While c body [] pos) (tWhile tc tb) := by
  intro pins s σ H D I h
  obtain ⟨W, ⟨m0, w0⟩, turn⟩ := h
  refine wpAny_While (codeAny_whileLoop (fun n s' => ∃ σ' H', Inv X pins σ' H' s' ∧ W n σ' H') ?_ m0 ⟨σ, H, I, w0⟩)
  rintro n s1 ⟨σ1, H1, I1, w1⟩
  refine wpAny_passesOwn hp (thn (hc pins s1 σ1 H1 _ I1 (turn n σ1 H1 w1)) fun b s2 ⟨H2, I2, q2⟩ => ?_)
  cases b with
  | true =>
    obtain ⟨N, hN, q2⟩ := q2
    rw [if_pos rfl]
    refine wpAny_passesOwn hp (thn (hb pins s2 σ1 H2 _ I2 q2) fun f s3 q3 => ?_)
    cases f with
    | next =>
      obtain ⟨σ3, H3, I3, n3⟩ := q3
      obtain ⟨m', hm, w3⟩ := hN σ3 H3 n3
      exact ⟨m', hm, σ3, H3, I3, w3⟩
    | cont =>
      obtain ⟨σ3, H3, I3, n3⟩ := q3
      obtain ⟨m', hm, w3⟩ := hN σ3 H3 n3
      exact ⟨m', hm, σ3, H3, I3, w3⟩
    | brk => exact q3
    | ret v => exact q3
  | false =>
    rw [if_neg Bool.false_ne_true]
    exact wpAny_execs_nil ⟨σ1, H2, I2, q2⟩
end

/-! ### what a loop or a comprehension walks -/
/-- at turn i: it yields x (the heap may grow), or it stops -/
structure It where
  go : Nat → Hp → Prop
  yld : Nat → Hp → V → Hp → Prop
  stop : Nat → Hp → Prop
/-- the iterator's own objects may turn: they are not the frame's, not pinned, younger than the entry (or a comprehension's own) -/
noncomputable def FpOk (X : Cx) (pins : List (Addr × Obj)) (H : Hp) (b : Addr) : Prop :=
  H b = none ∧ b ≠ X.env.locals ∧ b ∉ X.fs ∧ (b ∈ X.ex ∨ X.s₀.heap.objs.size ≤ b) ∧ (∀ x c, X.env.cells.lookup x = some c → c ≠ b) ∧ ∀ p ∈ X.pn ++ pins, p.1 ≠ b
theorem Inv.fpOk {X : Cx} {pins : List (Addr × Obj)} {σ : St} {H H' : Hp} {s : Shared} {b : Addr} (I : Inv X pins σ H s) (hb : s.heap.objs.size ≤ b) (hn : H' b = none) : FpOk X pins H' b := by
  refine ⟨hn, Nat.ne_of_gt (Nat.lt_of_lt_of_le I.lt hb), I.nofs hb, .inr (Nat.le_trans I.sz hb), fun x c e z => ?_, fun p hp z => ?_⟩
  · obtain ⟨v, q⟩ := I.cell x c e
    exact absurd (Nat.lt_of_lt_of_le q.lt (by rw [z]; exact hb)) (Nat.lt_irrefl _)
  · exact absurd (Nat.lt_of_lt_of_le (Heap.lt_size (I.pin p hp).1) (by rw [z]; exact hb)) (Nat.lt_irrefl _)
structure Turn (P : Program) (w : World) (K : PySem.W.Frag) (tg : Expr) (J : It) (fp : List Addr) (it : Addr) (tn : Nat → Heap → Prop) : Prop where
  mem : it ∈ fp
  obj : ∀ i h, tn i h → ∀ b ∈ fp, ∃ o, h.get? b = some o ∧ ∀ v, o.data ≠ .cell v
  keep : ∀ i h h', tn i h → (∀ b ∈ fp, ∀ o, h.get? b = some o → h'.get? b = some o) → tn i h'
  item : ∀ (X : Cx), X.prog = P → X.w = w → X.K = K → X.calm = true → ∀ (i : Nat) (pins : List (Addr × Obj)) (s : Shared) (σ : St) (H : Hp) (E : Value → Shared → Prop), Inv X pins σ H s → (∀ b ∈ fp, FpOk X pins H b) → tn i s.heap → J.go i H →
    wpAny (model P w) X.A (pyNext (.ref it)) (fun r s1 => ∃ u, r = some u ∧
      wpAny (model P w) X.A (letOwnedTupleGo tg (.ref it) u) (fun _ s2 => ∃ x H', Inv X pins σ H' s2 ∧ RelV x u ∧ J.yld i H x H' ∧ tn (i + 1) s2.heap ∧ ∀ b ∈ fp, H' b = none) E s1) E s
  done : ∀ (X : Cx), X.prog = P → X.w = w → X.K = K → X.calm = true → ∀ (i : Nat) (pins : List (Addr × Obj)) (s : Shared) (σ : St) (H : Hp) (E : Value → Shared → Prop), Inv X pins σ H s → (∀ b ∈ fp, FpOk X pins H b) → tn i s.heap → J.stop i H →
    wpAny (model P w) X.A (pyNext (.ref it)) (fun r s1 => r = none ∧ Inv X pins σ H s1) E s
  self : ∀ (A : Around) (i : Nat) (s : Shared) (Q : Value → Shared → Prop) (E : Value → Shared → Prop), tn i s.heap → Q (.ref it) s → wpAny (model P w) A (pyIter (.ref it)) Q E s
noncomputable abbrev TI := St → Hp → (It → Hp → Prop) → Prop
/-- an iterator has come -/
noncomputable def PIE (X : Cx) (pins : List (Addr × Obj)) (σ : St) (tg : Expr) (R : It → Hp → Prop) (itv : Value) (s2 : Shared) : Prop :=
  ∃ (it : Addr) (fp : List Addr) (tn : Nat → Heap → Prop) (J : It) (H' : Hp), itv = .ref it ∧ Inv X pins σ H' s2 ∧ Turn X.prog X.w X.K tg J fp it tn ∧ tn 0 s2.heap ∧ (∀ b ∈ fp, FpOk X pins H' b) ∧ R J H'
noncomputable def PI (X : Cx) (tg iter : Expr) (wi : TI) : Prop :=
  ∀ (pins : List (Addr × Obj)) (s : Shared) (σ : St) (H : Hp) (R : It → Hp → Prop), Inv X pins σ H s → wi σ H R →
    wpAny (model X.prog X.w) X.A (eval iter X.env) (fun v s1 => wpAny (model X.prog X.w) X.A (pyIter v) (PIE X pins σ tg R) X.xe s1) X.xe s

/-- the step ahead of the store is nothing for an iterator that keeps no tuple -/
theorem go_of (ho : s.heap.get? it = some o) (hc : o.cls = .type n) (hd : o.data = .fields vs)
    (hn : ["enumerate", "zip", "dict_itemiterator", "dict_reverseitemiterator", "odict_iterator", "itertools.zip_longest", "itertools.pairwise"].contains n = false) (hQ : Q () s) : wpAny M A (letOwnedTupleGo tg (.ref it) u) Q E s := by
  unfold letOwnedTupleGo
  cases tg <;> first
    | exact wpAny_pure hQ
    | (cases u <;> first
        | exact wpAny_pure hQ
        | (refine wpAny_bind (wpAny_load ho ?_)
           rw [hc, hd]
           show wpAny M A (if (["enumerate", "zip", "dict_itemiterator", "dict_reverseitemiterator", "odict_iterator", "itertools.zip_longest", "itertools.pairwise"].contains n && vs[0]? == some (rawInt _)) = true then _ else _) Q E s
           rw [if_neg (by intro h; rw [hn, Bool.false_and] at h; cases h)]
           exact wpAny_pure hQ))

/-- the list at a, as it stands at each turn (a loop may append to it) -/
noncomputable def Itl (K : PySem.W.Frag) (a : Addr) : It :=
  ⟨fun i H => ∃ xs x, SqL K H a xs ∧ xs[i]? = some x, fun i H x H' => H' = H ∧ ∀ xs, SqL K H a xs → xs[i]? = some x, fun i H => ∃ xs, SqL K H a xs ∧ xs.length ≤ i⟩
/-- lo, lo + 1, .. (n of them) -/
noncomputable def Itr (lo : Int) (n : Nat) : It := ⟨fun i _ => i < n, fun i H x H' => H' = H ∧ x = .int (lo + i), fun i _ => n ≤ i⟩
theorem turn_list {P : Program} {w : World} {K : PySem.W.Frag} {tg : Expr} (a it : Addr) : Turn P w K tg (Itl K a) [it] it (fun i h => h.IsListIter it a i) where
  mem := by simp
  obj := fun i h st b hb => by
    have e : b = it := by simpa using hb
    subst e
    obtain ⟨o, e, c, d⟩ := st
    exact ⟨o, e, fun v z => by rw [d] at z; cases z⟩
  keep := fun i h h' st k => st.at fun o e => k it (by simp) o e
  item := by
    intro X hP hw hK hc i pins s σ H E I hf st hg
    subst hP hw hK
    obtain ⟨xs, x, hq, hx⟩ := hg
    obtain ⟨its, rv, p, hz⟩ := I.list hq
    obtain ⟨u, hu, ru⟩ := rv.get hx
    obtain ⟨f0, f1, f2, f3, f4, f5⟩ := hf it (by simp)
    refine wpAny_pyNext_list_item st p.isList (x := u) (by simpa using hu) fun h' st' sb => ?_
    have I1 : Inv X pins σ H { s with heap := h' } := I.turned (t' := s.toks) (fun b o hb e => (sb.2 b hb).trans e) f0 f1 f3 f4 f5
    obtain ⟨o, e, c, d⟩ := id st'
    exact ⟨u, rfl, go_of (s := { s with heap := h' }) e c d (by decide) ⟨x, H, I1, ru, ⟨rfl, fun ys hy => by rw [I.list_inj hy hq]; exact hx⟩, st', fun b hb => (hf b hb).1⟩⟩
  done := by
    intro X hP hw hK hc i pins s σ H E I hf st hg
    subst hP hw hK
    obtain ⟨xs, hq, hx⟩ := hg
    obtain ⟨its, rv, p, hz⟩ := I.list hq
    obtain ⟨f0, f1, f2, f3, f4, f5⟩ := hf it (by simp)
    have hl := rv.length
    exact wpAny_pyNext_list_end (I.ok.hd hc) st p.isList (by simp; omega) fun h' eb => ⟨rfl, I.turned (t' := s.toks) (fun b o hb e => eb b o hb e) f0 f1 f3 f4 f5⟩
  self := fun _ _ _ _ _ st h => wpAny_pyIter_listiter st h
theorem turn_range {P : Program} {w : World} {K : PySem.W.Frag} {tg : Expr} (it : Addr) (lo : Int) (n : Nat) : Turn P w K tg (Itr lo n) [it] it (fun i h => IsRangeIter h it (lo + (i : Nat) * 1) ((n : Int) - (i : Nat)) 1) where
  mem := by simp
  obj := fun i h st b hb => by
    have e : b = it := by simpa using hb
    subst e
    exact ⟨_, st, fun v z => by
      have z' : Data.fields _ = Data.cell v := z
      cases z'⟩
  keep := fun i h h' st k => k it (by simp) _ st
  item := by
    intro X hP hw hK hc i pins s σ H E I hf st hg
    subst hP hw hK
    obtain ⟨f0, f1, f2, f3, f4, f5⟩ := hf it (by simp)
    have W := Walks.range (prog := X.prog) (w := X.w) (I.ok.hd hc) it lo 1 n
    refine W.item i s _ _ hg st fun v h' tk hv st' kk => ?_
    obtain ⟨t, rfl⟩ := hv
    have I1 : Inv X pins σ H { s with heap := h', toks := tk } := I.turned (fun b o hb e => kk b o (by simpa using hb) e) f0 f1 f3 f4 f5
    refine ⟨_, rfl, go_of (s := { s with heap := h', toks := tk }) (n := "range_iterator") st' rfl rfl (by decide) ⟨.int (lo + i), H, I1, ⟨t, ?_⟩, ⟨rfl, rfl⟩, st', fun b hb => (hf b hb).1⟩⟩
    rw [Int.mul_one]
  done := by
    intro X hP hw hK hc i pins s σ H E I hf st hg
    subst hP hw hK
    obtain ⟨f0, f1, f2, f3, f4, f5⟩ := hf it (by simp)
    exact wpAny_pyNext_range_end (I.ok.hd hc) st (by have : n ≤ i := hg; omega) fun h' eb => ⟨rfl, I.turned (t' := s.toks) (fun b o hb e => eb b o hb e) f0 f1 f3 f4 f5⟩
  self := fun _ _ _ _ _ st h => wpAny_pyIter_rangeiter st h
end L2

namespace L2
open PySem PySem.Spec PyProof.Rows
section
variable {X : Cx} {tg : Expr}
noncomputable def iList (K : PySem.W.Frag) (tl : TE) : TI := fun σ H R => tl σ H fun x H1 => ∃ a, x = .ref a ∧ (∃ xs, SqL K H1 a xs) ∧ R (Itl K a) H1
theorem pi_list {l : Expr} {tl : TE} (hl : PE X l tl) : PI X tg l (iList X.K tl) := by
  intro pins s σ H R I h
  refine thn (hl pins s σ H _ I h) fun v s1 ⟨x, H1, I1, r1, q1⟩ => ?_
  obtain ⟨a, e, ⟨xs, hq⟩, q⟩ := q1
  subst e
  cases r1
  obtain ⟨its, rv, p, hz⟩ := I1.list hq
  refine wpAny_pyIter_list p.isList ?_
  refine ⟨s1.heap.objs.size, [s1.heap.objs.size], _, _, H1, rfl, I1.kept (t' := s1.toks) fun b o e => Heap.get?_push_of_some _ e, turn_list a _, ⟨_, Heap.get?_push_size _ rfl, rfl, rfl⟩, fun b hb => ?_, q⟩
  have e : b = s1.heap.objs.size := by simpa using hb
  subst e
  exact I1.fpOk (Nat.le_refl _) (I1.hok.fresh (Nat.le_refl _))
/-- a range object just made, walked -/
theorem range_it {pins : List (Addr × Obj)} {σ : St} {H : Hp} {s : Shared} {R : It → Hp → Prop} {E : Value → Shared → Prop} {lo hi : Int} {t u v : Tok} {tk : Nat} (I : Inv X pins σ H s) (h1 : -(2 ^ 62) ≤ lo) (h2 : lo < 2 ^ 62) (h3 : -(2 ^ 62) ≤ hi) (h4 : hi < 2 ^ 62)
    (q : R (Itr lo (hi - lo).toNat) H) : wpAny (model X.prog X.w) X.A (pyIter (.ref s.heap.objs.size)) (PIE X pins σ tg R) E { s with heap := s.heap.push { cls := .type "range", data := .fields #[.int lo t, .int hi u, .int 1 v] }, toks := tk } := by
  refine wpAny_pyIter_range (IsRange.new ..) (small_one h1 h2 h3 h4) ?_
  have I1 : Inv X pins σ H { s with heap := s.heap.push { cls := .type "range", data := .fields #[.int lo t, .int hi u, .int 1 v] }, toks := tk } := I.kept fun b o e => Heap.get?_push_of_some _ e
  refine ⟨(s.heap.push { cls := .type "range", data := .fields #[.int lo t, .int hi u, .int 1 v] }).objs.size, [(s.heap.push { cls := .type "range", data := .fields #[.int lo t, .int hi u, .int 1 v] }).objs.size], _, _, H, rfl,
    I1.kept (t' := tk) fun b o e => Heap.get?_push_of_some _ e, turn_range _ lo (hi - lo).toNat, ?_, fun b hb => ?_, q⟩
  · have e1 : lo + ((0 : Nat) : Int) * 1 = lo := by simp
    have e2 : (((hi - lo).toNat : Nat) : Int) - ((0 : Nat) : Int) = Builtin.Range.rangeSize lo hi 1 := by rw [rangeSize_one]; split <;> omega
    show IsRangeIter _ _ (lo + ((0 : Nat) : Int) * 1) ((((hi - lo).toNat : Nat) : Int) - ((0 : Nat) : Int)) 1
    rw [e1, e2]
    exact Heap.get?_push_size _ rfl
  · have e : b = (s.heap.push { cls := .type "range", data := .fields #[.int lo t, .int hi u, .int 1 v] }).objs.size := by simpa using hb
    subst e
    exact I1.fpOk (Nat.le_refl _) (I1.hok.fresh (Nat.le_refl _))
noncomputable def iRng1 (ta : TA) : TI := fun σ H R => ta σ H fun vs H1 => ∃ j : Int, vs = [.int j] ∧ -(2 ^ 62) ≤ j ∧ j < 2 ^ 62 ∧ R (Itr 0 j.toNat) H1
noncomputable def iRng2 (ta : TA) : TI := fun σ H R => ta σ H fun vs H1 => ∃ i j : Int, vs = [.int i, .int j] ∧ (-(2 ^ 62) ≤ i ∧ i < 2 ^ 62 ∧ -(2 ^ 62) ≤ j ∧ j < 2 ^ 62) ∧ R (Itr i (j - i).toNat) H1
theorem pi_range1 {a : Expr} {ta : TA} {p pos : Pos} (hg : Gl X "range") (hm : X.mg "range" = none) (ha : PA X [a] ta) (hs : starEach [a] X.env = [(false, eval a X.env)] := by rfl) : PI X tg (.Call (.Name "range" p) [a] [] pos) (iRng1 ta) := by
  intro pins s σ H R I h
  refine Call_ (ld_blt I hg hm boot_range (PyProof.Rows.callWith_type1 (thn (ha pos pins s σ H _ I h) fun us s1 ⟨vs, H1, I1, r1, q1⟩ => ?_) hs rfl))
  obtain ⟨j, e, q1, q2, q⟩ := q1
  subst e
  cases r1 with
  | cons r rr =>
    cases rr
    obtain ⟨t, rfl⟩ := r
    exact call_range_1 (range_it I1 (by omega) (by omega) q1 q2 (by simpa using q))
theorem pi_range2 (hg : Gl X "range") (hm : X.mg "range" = none) (ha : PA X [a, b] ta) (hs : starEach [a, b] X.env = [(false, eval a X.env), (false, eval b X.env)] := by rfl) (hs2 : starEach [b] X.env = [(false, eval b X.env)] := by rfl) :
    PI X tg (.Call (.Name "range" p) [a, b] [] pos) (iRng2 ta) := by
  intro pins s σ H R I h
  refine Call_ (ld_blt I hg hm boot_range (PyProof.Rows.callWith_type1 (thn (ha pos pins s σ H _ I h) fun us s1 ⟨vs, H1, I1, r1, q1⟩ => ?_) (by rw [hs, hs2]) (by rw [hs2]; rfl)))
  obtain ⟨i, j, e, ⟨q1, q2, q3, q4⟩, q⟩ := q1
  subst e
  cases r1 with
  | cons r rr =>
    cases rr with
    | cons r' rr =>
      cases rr
      obtain ⟨t, rfl⟩ := r
      obtain ⟨t', rfl⟩ := r'
      exact call_range_2 (range_it I1 q1 q2 q3 q4 q)

/-! ### for -/
/-- W: the invariant by the turn and a measure; N: what the body is to reach -/
noncomputable def tFor (wi : TI) (g : TG) (tb : TS) : TS := fun D σ H => wi σ H fun J H1 => ∃ W : Nat → Nat → St → Hp → Prop, (∃ m, W 0 m σ H1) ∧ ∀ i m σ H, W i m σ H →
  (J.stop i H ∧ D.nx σ H) ∨ (J.go i H ∧ ∃ N : St → Hp → Prop, (∀ σ' H', N σ' H' → ∃ m', m' < m ∧ W (i + 1) m' σ' H') ∧ ∀ x H', J.yld i H x H' → g x σ H' fun σ2 H2 => tb { D with nx := N, ct := N, bk := D.nx } σ2 H2)
/-- the records at fp as they stand -/
noncomputable def pinsAt (fp : List Addr) (h : Heap) : List (Addr × Obj) := fp.filterMap fun b => (h.get? b).map fun o => (b, o)
theorem mem_pinsAt (hb : b ∈ fp) (e : h.get? b = some o) : (b, o) ∈ pinsAt fp h := List.mem_filterMap.mpr ⟨b, hb, by rw [e]; rfl⟩
theorem of_pinsAt (hp : p ∈ pinsAt fp h) : p.1 ∈ fp ∧ h.get? p.1 = some p.2 := by
  obtain ⟨b, hb, e⟩ := List.mem_filterMap.mp hp
  cases q : h.get? b with
  | none => rw [q] at e; cases e
  | some o =>
    rw [q] at e
    have e' : (b, o) = p := Option.some.inj e
    subst e'
    exact ⟨hb, q⟩
theorem Inv.pinned (I : Inv X pins σ H s) (hf : ∀ b ∈ fp, FpOk X pins H b) (ho : ∀ b ∈ fp, ∃ o, s.heap.get? b = some o ∧ ∀ v, o.data ≠ .cell v) : Inv X (pins ++ pinsAt fp s.heap) σ H s :=
  I.pins_of fun p hp => (List.mem_append.mp hp).elim (fun z => I.pin p (List.mem_append_right _ z)) fun z => by
    obtain ⟨hb, e⟩ := of_pinsAt z
    obtain ⟨f0, f1, f2, _⟩ := hf p.1 hb
    obtain ⟨o, e', d⟩ := ho p.1 hb
    rw [e] at e'; cases e'
    exact ⟨e, f0, f1, f2, d⟩
theorem Inv.unpinned (I : Inv X (pins ++ pl) σ H s) : Inv X pins σ H s := I.pins_of fun p hp => I.pin p (List.mem_append_right _ (List.mem_append_left _ hp))
theorem ps_for (hp : PassesOwn (model X.prog X.w) X.A X.env X.xe) (hc : X.calm = true) (hi : PI X tg iter wi) (hg : PG X tg g) (hb : PSs X body tb)
    (hs : ∀ x, foldedSetIterable iter X.env x = pure x := by intro _; rfl) : PS X (.For tg iter body [] pos) (tFor wi g tb) := by
  intro pins s σ H D I h
  refine wpAny_For (thn (hi pins s σ H _ I h) fun v s1 h1 => thn h1 fun itv s2 h2 => ?_) hs
  obtain ⟨it, fp, tn, J, H2, e, I2, T, st2, f2, W, ⟨m0, w0⟩, turn⟩ := h2
  subst e
  -- what stays true of the iterator's objects through the loop
  have stat : ∀ {H' : Hp}, (∀ b ∈ fp, H' b = none) → ∀ b ∈ fp, FpOk X pins H' b := fun hn b hb => ⟨hn b hb, (f2 b hb).2⟩
  refine codeAny_forLoop_any (fun n s' => ∃ i σ' H', Inv X pins σ' H' s' ∧ tn i s'.heap ∧ (∀ b ∈ fp, H' b = none) ∧ W i n σ' H') ?_ m0 ⟨0, σ, H2, I2, st2, fun b hb => (f2 b hb).1, w0⟩
  rintro n s3 ⟨i, σ3, H3, I3, st3, fr3, w3⟩
  rcases turn i n σ3 H3 w3 with ⟨stop, qn⟩ | ⟨go, N, hN, step⟩
  · refine wpAny_passesOwn hp (thn (T.done X rfl rfl rfl hc i pins s3 σ3 H3 X.xe I3 (stat fr3) st3 stop) fun r s4 ⟨hr, I4⟩ => ?_)
    subst hr
    exact wpAny_execs_nil ⟨σ3, H3, I4, qn⟩
  · refine wpAny_passesOwn hp (thn (T.item X rfl rfl rfl hc i pins s3 σ3 H3 X.xe I3 (stat fr3) st3 go) fun r s4 ⟨u, hr, h4⟩ => ?_)
    subst hr
    refine wpAny_passesOwn hp (thn h4 fun _ s5 ⟨x, H5, I5, r5, y5, st5, fr5⟩ => ?_)
    have I5' := I5.pinned (stat fr5) (T.obj _ _ st5)
    refine wpAny_passesOwn hp (thn (hg _ s5 σ3 H5 x u _ I5' r5 (step x H5 y5)) fun _ s6 ⟨σ6, H6, I6, q6⟩ => ?_)
    refine wpAny_passesOwn hp (thn (hb _ s6 σ6 H6 _ I6 q6) fun f s7 q7 => ?_)
    have again : ∀ {σ7 : St} {H7 : Hp}, Inv X (pins ++ pinsAt fp s5.heap) σ7 H7 s7 → N σ7 H7 → ∃ m, m < n ∧ ∃ i σ' H', Inv X pins σ' H' s7 ∧ tn i s7.heap ∧ (∀ b ∈ fp, H' b = none) ∧ W i m σ' H' := fun {σ7 H7} I7 n7 => by
      obtain ⟨m', hm, w7⟩ := hN σ7 H7 n7
      refine ⟨m', hm, i + 1, σ7, H7, I7.unpinned, T.keep _ _ _ st5 fun b hb o e => (I7.pin (b, o) (List.mem_append_right _ (List.mem_append_right _ (mem_pinsAt hb e)))).1, fun b hb => ?_, w7⟩
      obtain ⟨o, e, d⟩ := T.obj _ _ st5 b hb
      exact (I7.pin (b, o) (List.mem_append_right _ (List.mem_append_right _ (mem_pinsAt hb e)))).2.1
    cases f with
    | next => obtain ⟨σ7, H7, I7, n7⟩ := q7; exact again I7 n7
    | cont => obtain ⟨σ7, H7, I7, n7⟩ := q7; exact again I7 n7
    | brk => obtain ⟨σ7, H7, I7, q7⟩ := q7; exact ⟨σ7, H7, I7.unpinned, q7⟩
    | ret v => obtain ⟨x7, σ7, H7, I7, r7, q7⟩ := q7; exact ⟨x7, σ7, H7, I7.unpinned, r7, q7⟩
end

/-! ### the forms one uses -/
/-- over a list that the body leaves as it is -/
theorem for_list {K : PySem.W.Frag} {a : Addr} {xs : List V} {g : TG} {tb : TS} {D : Ends} {σ : St} {H : Hp} (Pv : Nat → St → Hp → Prop) (h0 : Pv 0 σ H) (hl : ∀ i σ H, i ≤ xs.length → Pv i σ H → SqL K H a xs)
    (hs : ∀ i x σ H, xs[i]? = some x → Pv i σ H → g x σ H fun σ2 H2 => tb { D with nx := Pv (i + 1), ct := Pv (i + 1), bk := D.nx } σ2 H2) (hd : ∀ σ H, Pv xs.length σ H → D.nx σ H) :
    ∃ W : Nat → Nat → St → Hp → Prop, (∃ m, W 0 m σ H) ∧ ∀ i m σ H, W i m σ H →
      ((Itl K a).stop i H ∧ D.nx σ H) ∨ ((Itl K a).go i H ∧ ∃ N : St → Hp → Prop, (∀ σ' H', N σ' H' → ∃ m', m' < m ∧ W (i + 1) m' σ' H') ∧ ∀ x H', (Itl K a).yld i H x H' → g x σ H' fun σ2 H2 => tb { D with nx := N, ct := N, bk := D.nx } σ2 H2) := by
  refine ⟨fun i m σ H => m = xs.length - i ∧ i ≤ xs.length ∧ Pv i σ H, ⟨xs.length, by simp, Nat.zero_le _, h0⟩, ?_⟩
  rintro i m σ H ⟨rfl, hi, p⟩
  have q := hl i σ H hi p
  by_cases hlt : i < xs.length
  · refine .inr ⟨⟨xs, xs[i], q, by simp [hlt]⟩, Pv (i + 1), fun σ' H' p' => ⟨xs.length - (i + 1), by omega, rfl, hlt, p'⟩, fun x H' y => ?_⟩
    obtain ⟨e, y⟩ := y
    subst e
    exact hs i x σ _ (y xs q) p
  · have e : i = xs.length := by omega
    subst e
    exact .inl ⟨⟨xs, q, Nat.le_refl _⟩, hd σ H p⟩
theorem for_range {lo : Int} {n : Nat} {g : TG} {tb : TS} {D : Ends} {σ : St} {H : Hp} (Pv : Nat → St → Hp → Prop) (h0 : Pv 0 σ H)
    (hs : ∀ i σ H, i < n → Pv i σ H → g (.int (lo + i)) σ H fun σ2 H2 => tb { D with nx := Pv (i + 1), ct := Pv (i + 1), bk := D.nx } σ2 H2) (hd : ∀ σ H, Pv n σ H → D.nx σ H) :
    ∃ W : Nat → Nat → St → Hp → Prop, (∃ m, W 0 m σ H) ∧ ∀ i m σ H, W i m σ H →
      ((Itr lo n).stop i H ∧ D.nx σ H) ∨ ((Itr lo n).go i H ∧ ∃ N : St → Hp → Prop, (∀ σ' H', N σ' H' → ∃ m', m' < m ∧ W (i + 1) m' σ' H') ∧ ∀ x H', (Itr lo n).yld i H x H' → g x σ H' fun σ2 H2 => tb { D with nx := N, ct := N, bk := D.nx } σ2 H2) := by
  refine ⟨fun i m σ H => m = n - i ∧ i ≤ n ∧ Pv i σ H, ⟨n, by simp, Nat.zero_le _, h0⟩, ?_⟩
  rintro i m σ H ⟨rfl, hi, p⟩
  by_cases hlt : i < n
  · refine .inr ⟨hlt, Pv (i + 1), fun σ' H' p' => ⟨n - (i + 1), by omega, rfl, hlt, p'⟩, fun x H' y => ?_⟩
    obtain ⟨e, y⟩ := y
    subst e y
    exact hs i σ _ hlt p
  · have e : i = n := by omega
    subst e
    exact .inl ⟨Nat.le_refl _, hd σ H p⟩
end L2

namespace L2
open PySem PySem.Spec PyProof.Rows

noncomputable abbrev R2 := V → V → Hp → VK → Prop
/-- a two-place operation on values: f is binaryOp op, inplaceOp op or compareOp op -/
noncomputable def OpR (X : Cx) (f : Value → Value → Sem Value) (r : R2) : Prop :=
  ∀ (pins : List (Addr × Obj)) (s : Shared) (σ : St) (H : Hp) (x y : V) (v u : Value) (Q : VK), Inv X pins σ H s → RelV x v → RelV y u → r x y H Q →
    wpAny (model X.prog X.w) X.A (f v u) (EP X pins σ Q) X.xe s
/-- a one-place operation -/
noncomputable def UnR (X : Cx) (f : Value → Sem Value) (r : V → Hp → VK → Prop) : Prop :=
  ∀ (pins : List (Addr × Obj)) (s : Shared) (σ : St) (H : Hp) (x : V) (v : Value) (Q : VK), Inv X pins σ H s → RelV x v → r x H Q →
    wpAny (model X.prog X.w) X.A (f v) (EP X pins σ Q) X.xe s
/-- a call of a value that is known (a builtin, a type) with values -/
noncomputable def CallR (X : Cx) (f : Value) (r : List V → Hp → VK → Prop) : Prop :=
  ∀ (pins : List (Addr × Obj)) (s : Shared) (σ : St) (H : Hp) (xs : List V) (us : List Value) (Q : VK), Inv X pins σ H s → Vals xs us → r xs H Q →
    wpAny (model X.prog X.w) X.A (call f us) (EP X pins σ Q) X.xe s
/-- a value's truth -/
noncomputable def TruR (X : Cx) (r : V → Hp → (Bool → Hp → Prop) → Prop) : Prop :=
  ∀ (pins : List (Addr × Obj)) (s : Shared) (σ : St) (H : Hp) (x : V) (v : Value) (Q : Bool → Hp → Prop), Inv X pins σ H s → RelV x v → r x H Q →
    wpAny (model X.prog X.w) X.A (truthy v) (TP X pins σ Q) X.xe s

noncomputable def tOp (r : R2) (ta tb : TE) : TE := fun σ H Q => ta σ H fun x H1 => tb σ H1 fun y H2 => r x y H2 Q
noncomputable def tUn (r : V → Hp → VK → Prop) (ta : TE) : TE := fun σ H Q => ta σ H fun x H1 => r x H1 Q
/-- ints in, under C, and a value out -/
noncomputable def rI (C : Int → Int → Prop) (g : Int → Int → V) : R2 := fun x y H Q => ∃ i j, x = .int i ∧ y = .int j ∧ C i j ∧ Q (g i j) H
noncomputable def rI0 (g : Int → Int → V) : R2 := fun x y H Q => ∃ i j, x = .int i ∧ y = .int j ∧ Q (g i j) H
noncomputable def rU (g : Int → V) : V → Hp → VK → Prop := fun x H Q => ∃ i, x = .int i ∧ Q (g i) H

section
variable {X : Cx} {a b c : Expr} {ta tb tc : TE} {pos : Pos}

theorem binT (ha : PE X a ta) (hb : PE X b tb) {pins : List (Addr × Obj)} {R : V → V → Hp → Prop} (I : Inv X pins σ H s)
    (h : ta σ H fun x H1 => tb σ H1 fun y H2 => R x y H2) {Q : Value → Shared → Prop} {f : Value → Value → Sem Value}
    (hf : ∀ v u s2 x y H2, Inv X pins σ H2 s2 → RelV x v → RelV y u → R x y H2 → wpAny (model X.prog X.w) X.A (f v u) Q X.xe s2) :
    wpAny (model X.prog X.w) X.A (eval a X.env) (fun v s₁ => wpAny (model X.prog X.w) X.A (eval b X.env) (fun u s₂ => wpAny (model X.prog X.w) X.A (f v u) Q X.xe s₂) X.xe s₁) X.xe s := by
  refine thn (ha pins s σ H _ I h) fun v s1 ⟨x, H1, I1, r1, q1⟩ => ?_
  refine thn (hb pins s1 σ H1 _ I1 q1) fun u s2 ⟨y, H2, I2, r2, q2⟩ => ?_
  exact hf v u s2 x y H2 I2 r1 r2 q2

theorem pe_op {op : Operator} {r : R2} (ho : OpR X (binaryOp op) r) (ha : PE X a ta) (hb : PE X b tb) : PE X (.BinOp a op b pos) (tOp r ta tb) := by
  intro pins s σ H Q I h
  exact wpAny_BinOp (binT ha hb I h fun v u s2 x y H2 I2 rx ry q => ho pins s2 σ H2 x y v u Q I2 rx ry q)
theorem pe_un (ho : UnR X (unaryOp op) r) (ha : PE X a ta) : PE X (.UnaryOp op a pos) (tUn r ta) := by
  intro pins s σ H Q I h
  exact UnaryOp_ (thn (ha pins s σ H _ I h) fun v s1 ⟨x, H1, I1, r1, q1⟩ => ho pins s1 σ H1 x v Q I1 r1 q1)
/-! ### ints -/
theorem opI {f : Value → Value → Sem Value} {C : Int → Int → Prop} {g : Int → Int → Int}
    (rule : ∀ (i j : Int) (t u : Tok) (s : Shared) (Q : Value → Shared → Prop) (E : Value → Shared → Prop), C i j → Q (.int (g i j) s.toks) { s with toks := s.toks + 1 } → wpAny (model X.prog X.w) X.A (f (.int i t) (.int j u)) Q E s) :
    OpR X f (rI C fun i j => .int (g i j)) := by
  intro pins s σ H x y v u Q I rx ry h
  obtain ⟨i, j, rfl, rfl, hc, q⟩ := h
  obtain ⟨t, rfl⟩ := rx
  obtain ⟨t', rfl⟩ := ry
  exact rule i j t t' s _ _ hc ⟨.int (g i j), H, I.tok _, ⟨_, rfl⟩, q⟩
theorem opI0 {f : Value → Value → Sem Value} {g : Int → Int → Int}
    (rule : ∀ (i j : Int) (t u : Tok) (s : Shared) (Q : Value → Shared → Prop) (E : Value → Shared → Prop), Q (.int (g i j) s.toks) { s with toks := s.toks + 1 } → wpAny (model X.prog X.w) X.A (f (.int i t) (.int j u)) Q E s) :
    OpR X f (rI0 fun i j => .int (g i j)) := by
  intro pins s σ H x y v u Q I rx ry h
  obtain ⟨i, j, rfl, rfl, q⟩ := h
  obtain ⟨t, rfl⟩ := rx
  obtain ⟨t', rfl⟩ := ry
  exact rule i j t t' s _ _ ⟨.int (g i j), H, I.tok _, ⟨_, rfl⟩, q⟩
theorem opB0 {f : Value → Value → Sem Value} {g : Int → Int → Bool}
    (rule : ∀ (i j : Int) (t u : Tok) (s : Shared) (Q : Value → Shared → Prop) (E : Value → Shared → Prop), Q (.bool (g i j)) s → wpAny (model X.prog X.w) X.A (f (.int i t) (.int j u)) Q E s) :
    OpR X f (rI0 fun i j => .bl (g i j)) := by
  intro pins s σ H x y v u Q I rx ry h
  obtain ⟨i, j, rfl, rfl, q⟩ := h
  obtain ⟨t, rfl⟩ := rx
  obtain ⟨t', rfl⟩ := ry
  exact rule i j t t' s _ _ ⟨.bl (g i j), H, I, rfl, q⟩

noncomputable def CPow (i j : Int) : Prop := 0 ≤ j ∧ j ≤ 1000000 ∧ i.natAbs < 2 ^ 64
noncomputable def CMul (i j : Int) : Prop := (-(2 ^ 64) < i ∧ i < 2 ^ 64) ∨ (-(2 ^ 64) < j ∧ j < 2 ^ 64)
theorem two_pow_nn (k : Nat) : (0 : Int) ≤ 2 ^ k := by
  rw [two_pow_cast]
  exact Int.natCast_nonneg _

theorem op_add : OpR X (binaryOp .Add) (rI0 fun i j => .int (i + j)) := opI0 fun _ _ _ _ _ _ _ q => add_int q
theorem op_sub : OpR X (binaryOp .Sub) (rI0 fun i j => .int (i - j)) := opI0 fun _ _ _ _ _ _ _ q => sub_int q
/-- % by a positive divisor of any size -/
theorem op_mod : OpR X (binaryOp .Mod) (rI (fun _ j => 0 < j) fun i j => .int (i % j)) := opI fun i j _ _ _ _ _ hc q => by
  have h1 : (0 : Int) < j := hc
  exact mod_int' (by omega) (by rw [Int.fmod_eq_emod_of_nonneg i (by omega)]; exact q)
theorem op_pow : OpR X (binaryOp .Pow) (rI CPow fun i j => .int (i ^ j.toNat)) := opI fun _ _ _ _ _ _ _ hc q => pow_int_small hc.1 hc.2.1 hc.2.2 q
theorem iop_add : OpR X (inplaceOp .Add) (rI0 fun i j => .int (i + j)) := opI0 fun _ _ _ _ _ _ _ q => iadd_int q
theorem iop_shr : OpR X (inplaceOp .RShift) (rI (fun _ j => 0 ≤ j) fun i j => .int (i / 2 ^ j.toNat)) := opI fun i j _ _ _ _ _ hc q =>
  irshift_int hc (by rw [Int.fdiv_eq_ediv_of_nonneg i (two_pow_nn _)]; exact q)
theorem unI {f : Value → Sem Value} {g : Int → Int}
    (rule : ∀ (i : Int) (t : Tok) (s : Shared) (Q : Value → Shared → Prop) (E : Value → Shared → Prop), Q (.int (g i) s.toks) { s with toks := s.toks + 1 } → wpAny (model X.prog X.w) X.A (f (.int i t)) Q E s) :
    UnR X f (rU fun i => .int (g i)) := by
  intro pins s σ H x v Q I rx h
  obtain ⟨i, rfl, q⟩ := h
  obtain ⟨t, rfl⟩ := rx
  exact rule i t s _ _ ⟨.int (g i), H, I.tok _, ⟨_, rfl⟩, q⟩
theorem un_neg : UnR X (unaryOp .USub) (rU fun i => .int (-i)) := unI fun _ _ _ _ _ q => neg_int q
/-! ### bools among ints: n += (a < b) -/
end

/-! ### comparisons -/
/-- the scalars that == tells apart as data does -/
noncomputable def scal : V → V → Bool
  | .non, .non => true | .non, .int _ => true | .int _, .non => true | .non, .bl _ => true | .bl _, .non => true | .non, .str _ => true | .str _, .non => true
  | .int _, .int _ => true | .bl _, .bl _ => true | .str _, .str _ => true | .byt _, .byt _ => true
  | .int _, .str _ => true | .str _, .int _ => true | .bl _, .str _ => true | .str _, .bl _ => true
  | _, _ => false
noncomputable def rEq : R2 := fun x y H Q => scal x y = true ∧ Q (.bl (decide (x = y))) H
noncomputable def rNe : R2 := fun x y H Q => scal x y = true ∧ Q (.bl (!decide (x = y))) H

theorem dec_int : decide (V.int i = V.int j) = (i == j) := by
  rw [Bool.eq_iff_iff]
  simp
theorem dec_bl : decide (V.bl i = V.bl j) = (i == j) := by
  rw [Bool.eq_iff_iff]
  simp
theorem dec_str : decide (V.str i = V.str j) = (i == j) := by
  rw [Bool.eq_iff_iff]
  simp
theorem dec_byt : decide (V.byt i = V.byt j) = (i.toList == j.toList) := by
  rw [Bool.eq_iff_iff]
  cases i
  cases j
  simp

section
variable {X : Cx} {a b c : Expr} {ta tb tc : TE} {pos : Pos}
theorem fin_bl (I : Inv X pins σ H s) (q : Q (.bl k) H) (e : k = k') : EP X pins σ Q (.bool k') s := by
  subst e
  exact ⟨.bl k, H, I, rfl, q⟩
theorem op_eq : OpR X (compareOp .Eq) rEq := by
  intro pins s σ H x y v u Q I rx ry h
  obtain ⟨hs, q⟩ := h
  cases x with
  | non =>
    cases rx
    cases y with
    | non => cases ry; exact PySem.EqNone.eq_none_none (fin_bl I q (by simp))
    | bl j => cases ry; exact PySem.EqNone.eq_none_bool (fin_bl I q (by simp))
    | int j => obtain ⟨t', rfl⟩ := ry; exact PySem.EqNone.eq_none_int (fin_bl I q (by simp))
    | str j => obtain ⟨t', rfl⟩ := ry; exact PySem.EqNone.eq_none_str (fin_bl I q (by simp))
    | _ => exact absurd (show false = true from hs) Bool.false_ne_true
  | bl i =>
    cases rx
    cases y with
    | non => cases ry; exact PySem.EqNone.eq_bool_none (fin_bl I q (by simp))
    | bl j => cases ry; exact eq_bool (fin_bl I q dec_bl)
    | str j => obtain ⟨t', rfl⟩ := ry; exact PySem.EqMixed.eq_bool_str (fin_bl I q (by simp))
    | _ => exact absurd (show false = true from hs) Bool.false_ne_true
  | int i =>
    obtain ⟨t, rfl⟩ := rx
    cases y with
    | non => cases ry; exact PySem.EqNone.eq_int_none (fin_bl I q (by simp))
    | int j => obtain ⟨t', rfl⟩ := ry; exact eq_int (fin_bl I q dec_int)
    | str j => obtain ⟨t', rfl⟩ := ry; exact PySem.EqMixed.eq_int_str (fin_bl I q (by simp))
    | _ => exact absurd (show false = true from hs) Bool.false_ne_true
  | str i =>
    obtain ⟨t, rfl⟩ := rx
    cases y with
    | non => cases ry; exact PySem.EqNone.eq_str_none (fin_bl I q (by simp))
    | bl j => cases ry; exact PySem.EqMixed.eq_str_bool (fin_bl I q (by simp))
    | int j => obtain ⟨t', rfl⟩ := ry; exact PySem.EqMixed.eq_str_int (fin_bl I q (by simp))
    | str j => obtain ⟨t', rfl⟩ := ry; exact eq_str (fin_bl I q dec_str)
    | _ => exact absurd (show false = true from hs) Bool.false_ne_true
  | byt i =>
    obtain ⟨t, rfl⟩ := rx
    cases y with
    | byt j => obtain ⟨t', rfl⟩ := ry; exact PySem.W.eq_bytes (fin_bl I q dec_byt)
    | _ => exact absurd (show false = true from hs) Bool.false_ne_true
  | _ => cases y <;> exact absurd (show false = true from hs) Bool.false_ne_true
theorem op_ne : OpR X (compareOp .NotEq) rNe := by
  intro pins s σ H x y v u Q I rx ry h
  obtain ⟨hs, q⟩ := h
  cases x with
  | non =>
    cases rx
    cases y with
    | non => cases ry; exact PySem.EqNone.ne_none_none (fin_bl I q (by simp))
    | bl j => cases ry; exact PySem.EqNone.ne_none_bool (fin_bl I q (by simp))
    | int j => obtain ⟨t', rfl⟩ := ry; exact PySem.EqNone.ne_none_int (fin_bl I q (by simp))
    | str j => obtain ⟨t', rfl⟩ := ry; exact PySem.EqNone.ne_none_str (fin_bl I q (by simp))
    | _ => exact absurd (show false = true from hs) Bool.false_ne_true
  | bl i =>
    cases rx
    cases y with
    | non => cases ry; exact PySem.EqNone.ne_bool_none (fin_bl I q (by simp))
    | bl j => cases ry; exact ne_bool (fin_bl I q (congrArg not dec_bl))
    | str j => obtain ⟨t', rfl⟩ := ry; exact PySem.EqMixed.ne_bool_str (fin_bl I q (by simp))
    | _ => exact absurd (show false = true from hs) Bool.false_ne_true
  | int i =>
    obtain ⟨t, rfl⟩ := rx
    cases y with
    | non => cases ry; exact PySem.EqNone.ne_int_none (fin_bl I q (by simp))
    | int j => obtain ⟨t', rfl⟩ := ry; exact ne_int (fin_bl I q (congrArg not dec_int))
    | str j => obtain ⟨t', rfl⟩ := ry; exact PySem.EqMixed.ne_int_str (fin_bl I q (by simp))
    | _ => exact absurd (show false = true from hs) Bool.false_ne_true
  | str i =>
    obtain ⟨t, rfl⟩ := rx
    cases y with
    | non => cases ry; exact PySem.EqNone.ne_str_none (fin_bl I q (by simp))
    | bl j => cases ry; exact PySem.EqMixed.ne_str_bool (fin_bl I q (by simp))
    | int j => obtain ⟨t', rfl⟩ := ry; exact PySem.EqMixed.ne_str_int (fin_bl I q (by simp))
    | str j => obtain ⟨t', rfl⟩ := ry; exact ne_str (fin_bl I q (congrArg not dec_str))
    | _ => exact absurd (show false = true from hs) Bool.false_ne_true
  | byt i =>
    obtain ⟨t, rfl⟩ := rx
    cases y with
    | byt j => obtain ⟨t', rfl⟩ := ry; exact PySem.W.ne_bytes (fin_bl I q (congrArg not dec_byt))
    | _ => exact absurd (show false = true from hs) Bool.false_ne_true
  | _ => cases y <;> exact absurd (show false = true from hs) Bool.false_ne_true

theorem op_lt : OpR X (compareOp .Lt) (rI0 fun i j => .bl (decide (i < j))) := opB0 fun _ _ _ _ _ _ _ q => lt_int q
theorem op_le : OpR X (compareOp .LtE) (rI0 fun i j => .bl (decide (i ≤ j))) := opB0 fun _ _ _ _ _ _ _ q => le_int q
theorem op_gt : OpR X (compareOp .Gt) (rI0 fun i j => .bl (decide (j < i))) := opB0 fun _ _ _ _ _ _ _ q => gt_int q
theorem nomark (b : Expr) (h : op ≠ .In := by decide) (h2 : op ≠ .NotIn := by decide) : behindInMarks op b = false := by
  have e1 : (op == CmpOp.In) = false := by cases op <;> first | rfl | exact absurd rfl h
  have e2 : (op == CmpOp.NotIn) = false := by cases op <;> first | rfl | exact absurd rfl h2
  cases b <;> simp [behindInMarks, e1, e2]
/-- a reading of a value as a test -/
noncomputable def tTest (t : TE) : TT := fun σ H Q => t σ H fun x H' => ∃ k, x = .bl k ∧ Q k H'
theorem pt_cmpR (ho : OpR X (compareOp op) r) (ha : PE X a ta) (hb : PE X b tb) (hm : behindInMarks op b = false) : PT X (.Compare a [op] [b] pos) (tTest (tOp r ta tb)) := by
  intro pins s σ H Q I h
  refine wpAny_isTrue_Compare1 (thn (ha pins s σ H _ I h) fun v s1 ⟨x, H1, I1, r1, q1⟩ => thn (hb pins s1 σ H1 _ I1 q1) fun u s2 ⟨y, H2, I2, r2, q2⟩ =>
    thn (ho pins s2 σ H2 x y v u _ I2 r1 r2 q2) fun c s3 ⟨z, H3, I3, r3, k, e, q3⟩ => ?_) hm
  subst e
  cases r3
  exact wpAny_truthy_bool ⟨H3, I3, q3⟩
/-! ### truth -/
/-- a value's truth by the abstract heap -/
noncomputable def TruV (K : PySem.W.Frag) (x : V) (H : Hp) (k : Bool) : Prop :=
  match x with
  | .non => k = false
  | .bl b => k = b
  | .int i => k = (i != 0)
  | .str y => y.length ≤ sizeLine ∧ k = ((y.length : Int) != 0)
  | .byt y => y.size ≤ sizeLine ∧ k = ((y.size : Int) != 0)
  | .ref p => (∃ xs, SqL K H p xs ∧ k = !xs.isEmpty) ∨ (∃ xs, SqT K H p xs ∧ k = !xs.isEmpty) ∨ ∃ kvs, H p = some (.dK kvs) ∧ k = !kvs.isEmpty
  | _ => False
theorem isEmpty_kv {κ : Type} {kvs : List (κ × V)} {vs : List (κ × Value)} (r : KV kvs vs) : (!vs.isEmpty) = !kvs.isEmpty := by
  cases r <;> rfl
theorem isEmpty_of (r : Vals xs its) : (!its.toArray.isEmpty) = !xs.isEmpty := by
  cases r <;> simp
theorem line63 : (sizeLine : Nat) < 2 ^ 63 := by rw [sizeLine_eq]; decide
theorem tru_ok : TruR X (fun x H Q => ∃ k, TruV X.K x H k ∧ Q k H) := by
  intro pins s σ H x v Q I rx h
  obtain ⟨k, e, q⟩ := h
  have hl := line63
  have hs : sizeLine = 16777216 := sizeLine_eq
  cases x with
  | non =>
    cases rx
    have e' : k = false := e
    subst e'
    exact truthy_none ⟨H, I, q⟩
  | bl b =>
    cases rx
    have e' : k = b := e
    subst e'
    exact wpAny_truthy_bool ⟨H, I, q⟩
  | int i =>
    obtain ⟨t, rfl⟩ := rx
    have e' : k = (i != 0) := e
    subst e'
    exact PySem.P.truthy_int ⟨H, I, q⟩
  | str y =>
    obtain ⟨t, rfl⟩ := rx
    obtain ⟨hy, e'⟩ : y.length ≤ sizeLine ∧ k = ((y.length : Int) != 0) := e
    subst e'
    exact PySem.P.truthy_str (by omega) ⟨H, I.tok _, q⟩
  | byt y =>
    obtain ⟨t, rfl⟩ := rx
    obtain ⟨hy, e'⟩ : y.size ≤ sizeLine ∧ k = ((y.size : Int) != 0) := e
    subst e'
    exact PySem.W.truthy_bytes (by omega) ⟨H, I.tok _, q⟩
  | ref p =>
    cases rx
    have e' : (∃ xs, SqL X.K H p xs ∧ k = !xs.isEmpty) ∨ (∃ xs, SqT X.K H p xs ∧ k = !xs.isEmpty) ∨ ∃ kvs, H p = some (.dK kvs) ∧ k = !kvs.isEmpty := e
    rcases e' with ⟨xs, hx, e'⟩ | ⟨xs, hx, e'⟩ | ⟨kvs, hx, e'⟩
    · subst e'
      obtain ⟨its, r, pl, hz⟩ := I.list hx
      have hlen := r.length
      exact wpAny_truthy_list pl.isList (by simp only [List.size_toArray]; omega) ⟨H, I.tok _, by rw [isEmpty_of r]; exact q⟩
    · subst e'
      obtain ⟨its, r, pl, hz⟩ := I.tuple hx
      have hlen := r.length
      exact truthy_tuple pl (by simp only [List.size_toArray]; omega) ⟨H, I.tok _, by rw [isEmpty_of r]; exact q⟩
    · subst e'
      obtain ⟨hz, hS, vs, r, m⟩ : kvs.length ≤ sizeLine ∧ (p == sysModules) = false ∧ ∃ vs, KV kvs vs ∧ s.heap.DictOf (mixKind X.prog X.w) p vs := I.hok p _ hx
      have hlen : kvs.length = vs.length := Paired.length r
      exact wpAny_truthy_dict hS m (by omega) ⟨H, I.tok _, by rw [isEmpty_kv r]; exact q⟩
  | _ => exact (show False from e).elim
/-- any expression whose test is its value's truth (a name, a call, a subscript, a field ..: he by fun _ => rfl) -/
theorem pt_truth (ha : PE X a ta) (he : ∀ whole, isTrue a X.env whole = (do let v ← whole; standAt a.pos; holding [v] (truthy v))) :
    PT X a (fun σ H Q => ta σ H fun x H' => ∃ k, TruV X.K x H' k ∧ Q k H') := by
  intro pins s σ H Q I h
  exact isTrue_plain (thn (ha pins s σ H _ I h) fun v s1 ⟨x, H1, I1, r1, q1⟩ => tru_ok pins s1 σ H1 x v Q I1 r1 q1) (he _)

/-! ### strs and bytes -/
/-! ### scalar builtins, by CallR -/
theorem vals1 (r : Vals [x] us) : ∃ u, us = [u] ∧ RelV x u := by
  cases r with
  | cons r1 r2 => cases r2; exact ⟨_, rfl, r1⟩
theorem vals2 (r : Vals [x, y] us) : ∃ u w', us = [u, w'] ∧ RelV x u ∧ RelV y w' := by
  cases r with
  | cons r1 r2 =>
    cases r2 with
    | cons r3 r4 => cases r4; exact ⟨_, _, rfl, r1, r3⟩
end
end L2

namespace L2
open PySem PySem.Spec PyProof.Rows

/-! ### an instance, its attributes a map -/
structure ObjM (h : Heap) (x dx C : Addr) (mA : Str → Option Value) : Prop where
  obj : h.get? x = some (PySem.W.instObj C dx)
  ns : h.Ns1 dx mA
  ne : dx ≠ x

theorem lookIn_ns {h : Heap} {dx : Addr} {mA : Str → Option Value} (n : h.Ns1 dx mA) : ∃ od, h.get? dx = some od ∧ ∀ name, PySem.W.lookIn name od = some (mA name) := by
  obtain ⟨o, es, ep, ho, hd, hk, _, hm⟩ := n
  refine ⟨o, ho, fun name => ?_⟩
  have e := hm name
  unfold nsFind findBy at e
  rw [← Array.find?_toList] at e
  unfold PySem.W.lookIn
  rw [hd]
  dsimp only
  split
  · rename_i y q
    rw [q] at e
    exact congrArg some e
  · rename_i q
    rw [q] at e
    have a : es.toList.any (·.refKey) = false := by
      rw [List.any_eq_false]
      intro y hy
      obtain ⟨z, t, hkey⟩ := hk y (Array.mem_toList_iff.mp hy)
      simp [DictEntry.refKey, hkey]
    have a' : ¬ es.toList.any (·.refKey) = true := by rw [a]; exact Bool.false_ne_true
    rw [if_neg a']
    exact congrArg some e

theorem ObjM.look (I : ObjM h x dx C mA) : ∃ od, PySem.W.InstAt h x (PySem.W.instObj C dx) C (some od) ∧ ∀ name, PySem.W.lookIn name od = some (mA name) :=
  let ⟨od, ho, hl⟩ := lookIn_ns I.ns
  ⟨od, ⟨I.obj, rfl, rfl, ho⟩, hl⟩

section
variable {prog : Program} {w : World} {A : Around} {E : Value → Shared → Prop} {s : Shared} {K : PySem.W.Frag} {x dx C f : Addr} {mA : Str → Option Value} {name : Str} {v : Value}

theorem get_meth (X : K.In s.heap) (I : ObjM s.heap x dx C mA) (hg : PySem.W.plainGet K C name = true)
    (hf : PySem.W.findIn K (.ref C) name = some (some (.ref f))) (ht : PySem.W.isFn K (.ref f) = true) (hv : mA name = none) (h : Q (.ref f, [.ref x]) s) :
    wpAny (model prog w) A (getMethod (.ref x) name pl) Q E s := by
  obtain ⟨od, J, hl⟩ := I.look
  exact PySem.W.method_fn X J (PySem.W.plainGet_of hg).1 (PySem.W.plainGet_of hg).2 hf (beq_iff_eq.mp ht) (by show (PySem.W.lookIn name od).map (·.isSome) = some false; rw [hl, hv]; rfl) h

theorem set_map (X : K.In s.heap) (I : ObjM s.heap x dx C mA)
    (hs : PySem.W.findIn K (.ref C) "__setattr__" = some (some (.builtin "object.__setattr__"))) (hp : PySem.W.plainOver K C = true) (ht : PySem.W.takerIn K C name = some none) (hh : PySem.W.hasDictIn K C = true)
    (hw : PySem.Within mA ns) (hsz : ns.length ≤ sizeLine)
    (h : ∀ h', ObjM h' x dx C (fun y => if y = name then some v else mA y) → Heap.SameBut dx s.heap h' → Q () { s with heap := h', toks := s.toks + 2 }) :
    wpAny (model prog w) A (setAttr (.ref x) name v) Q E s := by
  obtain ⟨od, J, hl⟩ := I.look
  refine PySem.W.set_plain X J hs (PySem.W.osa_open (s := { s with toks := s.toks + 1 }) (r := none) X J hp ht fun b => ?_)
  obtain ⟨cd, hc, hd'⟩ := PySem.W.any_some hh
  have hx : s.heap.get? x = some ⟨.ref C, some dx, .plain, #[]⟩ := I.obj
  refine wpAny_bind (wpAny_pure (wpAny_bind (wpAny_bind (wpAny_loadPart hx (wpAny_bind (PySem.W.Looks.here (s := { s with toks := s.toks + 1 }) (PySem.W.looks_clsIn X hc) ?_))))))
  rw [hd']
  refine wpAny_pure (a := some dx) (wpAny_bind (wpAny_pure (wpAny_bind ?_)))
  refine wpAny_nsSet1 (s := { s with toks := s.toks + 1 }) I.ns fun h' hn2 hs2 => ?_
  obtain ⟨oD, esD, epD, hoD, hdD, hcD⟩ := hn2.count (PySem.Within.cons name v hw)
  refine wpAny_bind (wpAny_lookBehind hoD (by rw [hdD]; exact pastItsLine_dict (Nat.le_trans hcD (by rw [List.length_cons]; omega))) ?_)
  exact wpAny_pure (h _ ⟨(hs2.2 _ (Ne.symm I.ne)).trans I.obj, hn2, I.ne⟩ hs2)

/-- C(..): the dict at the heap's end, the instance behind it; then its __init__ -/
theorem make_map (X : K.In s.heap) (hm : PySem.W.makesIn K C = true)
    (hi : PySem.W.findIn K (.ref C) "__init__" = some (some (.ref f))) (hf : PySem.W.typeIn K (.ref f) = some (.type "function"))
    (h : codeAny (model prog w) (A.under (.builtin "type.__call__" ⟨.ref C :: vs, kw⟩)) (.call (.ref f) ⟨.ref (s.heap.objs.size + 1) :: vs, kw⟩) (PySem.W.InitBack (s.heap.objs.size + 1) R)
      { s with heap := (s.heap.push PySem.W.emptyDict).push (PySem.W.instObj C s.heap.objs.size) }) :
    codeAny (model prog w) A (.call (.ref C) ⟨vs, kw⟩) R s := by
  obtain ⟨hh, g, d, t, os⟩ := s
  exact PySem.W.make_core (PySem.W.makes_of X hm) (PySem.W.looks_findIn X hi) (fun self => PySem.W.bind_fn X self hf) (.inl rfl) h
end

/-! ### the attributes as a list of pairs -/
noncomputable def putF (f : Str) (v : V) : List (Str × V) → List (Str × V)
  | [] => [(f, v)]
  | (g, x) :: r => if g = f then (g, v) :: r else (g, x) :: putF f v r
theorem lookup_putF (f g : Str) (v : V) : ∀ fs : List (Str × V), (putF f v fs).lookup g = if g = f then some v else fs.lookup g
  | [] => by
    show List.lookup g [(f, v)] = _
    by_cases h : g = f
    · have hb : (g == f) = true := beq_iff_eq.mpr h
      simp only [List.lookup, hb, if_pos h]
    · have hb : (g == f) = false := beq_eq_false_iff_ne.mpr h
      simp only [List.lookup, hb, if_neg h]
  | (k, x) :: r => by
    have ih := lookup_putF f g v r
    rw [show putF f v ((k, x) :: r) = (if k = f then (k, v) :: r else (k, x) :: putF f v r) from rfl]
    by_cases hk : k = f
    · rw [if_pos hk]
      by_cases h : g = k
      · have hb : (g == k) = true := beq_iff_eq.mpr h
        simp only [List.lookup, hb, if_pos (h.trans hk)]
      · have hb : (g == k) = false := beq_eq_false_iff_ne.mpr h
        simp only [List.lookup, hb, if_neg (fun e : g = f => h (e.trans hk.symm))]
    · rw [if_neg hk]
      by_cases h : g = k
      · have hb : (g == k) = true := beq_iff_eq.mpr h
        simp only [List.lookup, hb, if_neg (fun e : g = f => hk (h.symm.trans e))]
      · have hb : (g == k) = false := beq_eq_false_iff_ne.mpr h
        simp only [List.lookup, hb]
        exact ih
theorem keys_putF (f : Str) (v : V) : ∀ fs : List (Str × V), f ∈ (putF f v fs).map (·.1) ∧ ∀ g, g ∈ fs.map (·.1) → g ∈ (putF f v fs).map (·.1)
  | [] => ⟨by simp [putF], fun g h => by simp at h⟩
  | (k, x) :: r => by
    obtain ⟨i1, i2⟩ := keys_putF f v r
    rw [show putF f v ((k, x) :: r) = (if k = f then (k, v) :: r else (k, x) :: putF f v r) from rfl]
    by_cases hk : k = f
    · rw [if_pos hk]
      subst hk
      exact ⟨by simp, fun g h => by simpa using h⟩
    · rw [if_neg hk]
      refine ⟨?_, fun g h => ?_⟩
      · rw [List.map_cons]
        exact List.mem_cons_of_mem _ i1
      · rw [List.map_cons] at h ⊢
        rcases List.mem_cons.mp h with e | e
        · exact List.mem_cons.mpr (.inl e)
        · exact List.mem_cons_of_mem _ (i2 g e)
theorem length_putF (f : Str) (v : V) : ∀ fs : List (Str × V), (putF f v fs).length ≤ fs.length + 1
  | [] => by simp [putF]
  | (k, x) :: r => by
    have ih := length_putF f v r
    rw [show putF f v ((k, x) :: r) = (if k = f then (k, v) :: r else (k, x) :: putF f v r) from rfl]
    by_cases hk : k = f
    · rw [if_pos hk, List.length_cons, List.length_cons]; omega
    · rw [if_neg hk, List.length_cons, List.length_cons]; omega

theorem RelO.none_of (r : RelO none o) : o = none := by
  cases o with
  | none => rfl
  | some u => exact (show False from r).elim
section
variable {P : Program} {w : World} {H H' : Hp} {h h' : Heap} {a C dx : Addr} {fs fs' : List (Str × V)}
theorem ins_get (hok : HOk P w H h) (e : H a = some (.ins C dx fs)) : ∃ mA, ObjM h a dx C mA ∧ (∀ f, RelO (fs.lookup f) (mA f)) ∧ PySem.Within mA (fs.map (·.1)) ∧ fs.length ≤ 1000 ∧ H dx = some (.own a) := by
  obtain ⟨d, z, ne, ob, mA, n, r, q⟩ := (show ObjOk P w H h a (.ins C dx fs) from hok a _ e)
  exact ⟨mA, ⟨ob, n, ne⟩, r, q, z, d⟩
end

/-! ### what of the text a class must have -/
structure Cls (K : PySem.W.Frag) (C : Addr) : Prop where
  pg : PySem.W.plainGet K C Str.empty = true
  hd : PySem.W.hasDictIn K C = true
  po : PySem.W.plainOver K C = true
  sa : PySem.W.findIn K (.ref C) "__setattr__" = some (some (.builtin "object.__setattr__"))
theorem Cls.get {K : PySem.W.Frag} {C : Addr} (c : Cls K C) (f : Str) : PySem.W.plainGet K C f = true := c.pg
/-- no class of it has the name -/
noncomputable def NoAttr (K : PySem.W.Frag) (C : Addr) (f : Str) : Prop := PySem.W.findIn K (.ref C) f = some none
theorem NoAttr.taker {K : PySem.W.Frag} {C : Addr} {f : Str} (n : NoAttr K C f) : PySem.W.takerIn K C f = some none := by
  unfold PySem.W.takerIn
  rw [show PySem.W.findIn K (.ref C) f = some none from n]
  rfl
/-- a method: a plain def of the class or of one above it -/
structure Meth (K : PySem.W.Frag) (C : Addr) (m : Str) (f : Addr) : Prop where
  at_ : PySem.W.findIn K (.ref C) m = some (some (.ref f))
  fn : PySem.W.isFn K (.ref f) = true
  kp : PySem.W.keepIn K (.ref f) = true

section
variable {X : Cx} {pins : List (Addr × Obj)} {σ : St} {H : Hp} {s : Shared} {a C dx : Addr} {fs : List (Str × V)} {f : Str} {v : V} {A : Around} {E : Value → Shared → Prop}

theorem getmeth_ok (I : Inv X pins σ H s) (e : H a = some (.ins C dx fs)) (c : Cls X.K C) (k : Meth X.K C m g) (l : fs.lookup m = none)
    (h : Q (.ref g, [.ref a]) s) : wpAny (model X.prog X.w) A (getMethod (.ref a) m pl) Q E s := by
  obtain ⟨mA, O, r, _, _, _⟩ := ins_get I.hok e
  have hn : mA m = none := RelO.none_of (by rw [← l]; exact r m)
  exact get_meth I.kIn O (c.get m) k.at_ k.fn hn h

theorem setattr_ok (I : Inv X pins σ H s) (e : H a = some (.ins C dx fs)) (c : Cls X.K C) (n : NoAttr X.K C f) (hl : fs.length < 1000) (ry : RelV y u)
    (h : ∀ s', Inv X pins σ (upd H a (.ins C dx (putF f y fs))) s' → Q () s') : wpAny (model X.prog X.w) A (setAttr (.ref a) f u) Q E s := by
  obtain ⟨mA, O, r, wi, _, ho⟩ := ins_get I.hok e
  have hz : (fs.map (·.1)).length ≤ sizeLine := by rw [List.length_map, sizeLine_eq]; omega
  refine set_map I.kIn O c.sa c.po n.taker c.hd wi hz fun h' O' sb => h _ ?_
  have hd : ∃ o, h'.get? dx = some o := let ⟨o, _, _, e', _⟩ := O'.ns; ⟨o, e'⟩
  refine I.write (x := a) (e := dx) (by rw [e]; exact True.intro) (.inr ho) (fun b q hb z => (sb.2 b hb).trans z) hd ?_
  refine ⟨by rw [upd_ne O.ne]; exact ho, ?_, O.ne, O'.obj, _, O'.ns, fun g => ?_, fun g hg => ?_⟩
  · have := length_putF f y fs; omega
  · show RelO ((putF f y fs).lookup g) (if g = f then some u else mA g)
    rw [lookup_putF]
    by_cases q : g = f
    · rw [if_pos q, if_pos q]; exact ry
    · rw [if_neg q, if_neg q]; exact r g
  · by_cases q : g = f
    · rw [q]; exact (keys_putF f y fs).1
    · refine (keys_putF f y fs).2 g (wi g fun z => hg ?_)
      show (if g = f then some u else mA g) = none
      rw [if_neg q]; exact z

/-- a new instance, tracked, without attributes -/
theorem Inv.made (I : Inv X pins σ H s) : Inv X pins σ (upd (upd H s.heap.objs.size (.own (s.heap.objs.size + 1))) (s.heap.objs.size + 1) (.ins C s.heap.objs.size []))
    { s with heap := (s.heap.push PySem.W.emptyDict).push (PySem.W.instObj C s.heap.objs.size) } := by
  have e1 : (s.heap.push PySem.W.emptyDict).get? s.heap.objs.size = some PySem.W.emptyDict := Heap.get?_push_size s.heap rfl
  have e2 : ((s.heap.push PySem.W.emptyDict).push (PySem.W.instObj C s.heap.objs.size)).get? (s.heap.objs.size + 1) = some (PySem.W.instObj C s.heap.objs.size) := by
    have := Heap.get?_push_size (s.heap.push PySem.W.emptyDict) (o := PySem.W.instObj C s.heap.objs.size) rfl
    rwa [Heap.size_push] at this
  have e3 : (s.heap.push PySem.W.emptyDict).Ns s.heap.objs.size (fun _ => none) := ⟨PySem.W.emptyDict, #[], _, e1, rfl, (fun e he => absurd he (by simp)), fun _ => rfl⟩
  have I1 := I.laid (a := s.heap.objs.size) (o := .own (s.heap.objs.size + 1)) (h' := s.heap.push PySem.W.emptyDict) (t' := s.toks) (fun b u q => Heap.get?_push_of_some _ q) (Nat.le_refl _) ⟨_, e1⟩
  refine I1.laid (a := s.heap.objs.size + 1) (o := .ins C s.heap.objs.size []) (t' := s.toks) (fun b u q => Heap.get?_push_of_some _ q) (Nat.le_of_eq (Heap.size_push _ _)) ?_
  have ne : s.heap.objs.size ≠ s.heap.objs.size + 1 := Nat.ne_of_lt (Nat.lt_succ_self _)
  refine ⟨by rw [upd_ne ne, upd_same], Nat.zero_le _, ne, e2, fun _ => none, (Heap.Ns1.of_empty e3).at fun o q => Heap.get?_push_of_some _ q, fun _ => True.intro, fun y hy => absurd rfl hy⟩

end

/-! ### readings and rules -/
/-- e.f = value -/
noncomputable def sFld (K : PySem.W.Frag) (ta tv : TE) (f : Str) : TS := fun D σ H => tv σ H fun y H1 => ta σ H1 fun x H2 => ∃ a C dx fs, x = .ref a ∧ H2 a = some (.ins C dx fs) ∧ Cls K C ∧ NoAttr K C f ∧ fs.length < 1000 ∧
  D.nx σ (upd H2 a (.ins C dx (putF f y fs)))
section
variable {X : Cx} {o e value : Expr} {f : Str} {pos pos' tpos : Pos} {ta tv : TE}
theorem ps_fld (ha : PE X o ta) (hv : PE X value tv) (hs : swapsWith value (some (.Attribute o f pos')) pos.line X.env = pure false) : PS X (.Assign [.Attribute o f pos'] value pos) (sFld X.K ta tv f) := by
  intro pins s σ H D I h
  refine plainObj_wpAny_Assign_Attribute (thn (hv pins s σ H _ I h) fun u s1 ⟨y, H1, I1, ry, q⟩ => thn (ha pins s1 σ H1 _ I1 q) fun ov s2 ⟨x, H2, I2, rx, a, C, dx, fs, ex, ea, c, n, l, q2⟩ => ?_) hs
  subst ex
  obtain rfl : ov = Value.ref a := rx
  exact setattr_ok I2 ea c n l ry fun s3 I3 => ⟨σ, _, I3, q2⟩
end

/-! ### isinstance -/
section
variable {X : Cx} {pins : List (Addr × Obj)} {σ : St} {H : Hp} {s : Shared} {A : Around} {E : Value → Shared → Prop} {Q : Value → Shared → Prop} {c : Value} {b : Bool}
/-- the type of a value, as the fragment's deciders take it; for an instance its class -/
inductive TyOf (K : PySem.W.Frag) (H : Hp) : V → Value → Prop where
  | non : TyOf K H .non (.type "NoneType")
  | bl (x : Bool) : TyOf K H (.bl x) (.type "bool")
  | int (i : Int) : TyOf K H (.int i) (.type "int")
  | str (x : Str) : TyOf K H (.str x) (.type "str")
  | flt (x : UInt64) : TyOf K H (.flt x) (.type "float")
  | lst {a : Addr} {xs : List V} (e : H a = some (.lst xs)) : TyOf K H (.ref a) (.type "list")
  | frz {a : Addr} {o : Obj} {xs : List V} (e : H a = some (.frz o (.lst xs))) : TyOf K H (.ref a) (.type "list")
  | tup {a : Addr} {xs : List V} (e : H a = some (.tup xs)) : TyOf K H (.ref a) (.type "tuple")
  | dK {a : Addr} {kvs : List (Key × V)} (e : H a = some (.dK kvs)) : TyOf K H (.ref a) (.type "dict")
  | dT {a : Addr} {kvs : List (List Key × V)} (e : H a = some (.dT kvs)) : TyOf K H (.ref a) (.type "dict")
  | ins {a C dx : Addr} {fs : List (Str × V)} (e : H a = some (.ins C dx fs)) (cl : Cls K C) (ha : PySem.W.findIn K (.ref C) "__class__" = some (some (.builtin "object.__class__")))
      (hn : PySem.W.specialIn K (.builtin "object.__class__") "__get__" = some (some (.builtin "getset_descriptor.__get__"))) (htk : PySem.W.takesIn K (.builtin "object.__class__") = some true)
      (hm : PySem.W.mroIn K C (.type "object") = some true) : TyOf K H (.ref a) (.ref C)
/-- isinstance(x, c) for one class c, a built-in or an own one: kitOne's answer -/
theorem isinst_ok (I : Inv X pins σ H s) (rx : RelV x u) (ty : TyOf X.K H x t) (e : PySem.W.kitOne X.K t c = some b) (h : ∀ tk, Q (.bool b) { s with toks := tk }) :
    wpAny (model X.prog X.w) A (call (.builtin "isinstance") [u, c]) Q E s := by
  cases ty with
  | non => cases (show u = Value.none from rx); exact PySem.W.kia_one PySem.W.kitx_none I.kIn True.intro e (fun z => nomatch z) h
  | bl y => cases (show u = Value.bool y from rx); exact PySem.W.kia_one PySem.W.kitx_bool I.kIn True.intro e (fun z => nomatch z) h
  | int i => obtain ⟨t, q⟩ := (show ∃ t, u = Value.int i t from rx); cases q; exact PySem.W.kia_one PySem.W.kitx_int I.kIn True.intro e (fun z => nomatch z) h
  | str y => obtain ⟨t, q⟩ := (show ∃ t, u = Value.str y t from rx); cases q; exact PySem.W.kia_one PySem.W.kitx_str I.kIn True.intro e (fun z => nomatch z) h
  | flt y => obtain ⟨t, q⟩ := (show ∃ t, u = Value.float y t from rx); cases q; exact PySem.W.kia_one PySem.W.kitx_float I.kIn True.intro e (fun z => nomatch z) h
  | @lst a xs ea =>
    cases (show u = Value.ref a from rx)
    obtain ⟨_, _, n, _, h1⟩ := (show ObjOk X.prog X.w H s.heap a (.lst xs) from I.hok a _ ea)
    exact PySem.W.kia_one PySem.W.kitx_list I.kIn ⟨_, h1, rfl⟩ e (fun z => nomatch z) h
  | @frz a ob xs ea =>
    cases (show u = Value.ref a from rx)
    obtain ⟨_, _, _, n, _, h1⟩ := (show ObjOk X.prog X.w H s.heap a (.frz ob (.lst xs)) from I.hok a _ ea)
    exact PySem.W.kia_one PySem.W.kitx_list I.kIn ⟨_, h1, rfl⟩ e (fun z => nomatch z) h
  | @tup a xs ea =>
    cases (show u = Value.ref a from rx)
    obtain ⟨_, _, _, p⟩ := (show ObjOk X.prog X.w H s.heap a (.tup xs) from I.hok a _ ea)
    obtain ⟨o, h1, h2, _⟩ := p
    exact PySem.W.kia_one PySem.W.kitx_tuple I.kIn ⟨o, h1, h2⟩ e (fun z => nomatch z) h
  | @dK a kvs ea =>
    cases (show u = Value.ref a from rx)
    obtain ⟨_, _, vs, _, p⟩ := (show ObjOk X.prog X.w H s.heap a (.dK kvs) from I.hok a _ ea)
    obtain ⟨o, es, ep, h1, h2, _⟩ := p
    exact PySem.W.kia_one PySem.W.kitx_dict I.kIn ⟨o, h1, h2.1⟩ e (fun z => nomatch z) h
  | @dT a kvs ea =>
    cases (show u = Value.ref a from rx)
    obtain ⟨_, _, xs, _, o, es, ep, h1, h2, _⟩ := (show ObjOk X.prog X.w H s.heap a (.dT kvs) from I.hok a _ ea)
    exact PySem.W.kia_one PySem.W.kitx_dict I.kIn ⟨o, h1, h2.1⟩ e (fun z => nomatch z) h
  | @ins a C dx fs ea cl ha hn htk hm =>
    cases (show u = Value.ref a from rx)
    obtain ⟨mA, O, _⟩ := ins_get I.hok ea
    obtain ⟨od, J, _⟩ := O.look
    exact PySem.W.kia_one (PySem.W.kitx_own (cl.get _) cl.hd ha hn htk hm) I.kIn J e (fun z => nomatch z) h
end
end L2

namespace L2
open PySem PySem.Spec PyProof.Rows

/-! ### room -/
structure Room (k : Nat) (A : Around) : Prop where
  hd : A.handled = none
  dp : A.depth + 3 * k + 5 < recursionLimit
  un : A.units + 16 * k + 200 < cLine
theorem Room.mono (r : Room k A) (h : j ≤ k) : Room j A := ⟨r.hd, by have := r.dp; omega, by have := r.un; omega⟩
theorem Room.deeper (r : Room (k + 1) A) (env : Env) : Room k (A.deeper env) :=
  ⟨r.hd, by have := r.dp; show A.depth + 1 + 3 * k + 5 < _; omega, by have := r.un; show A.units + 3 + 16 * k + 200 < _; omega⟩
theorem Room.in1 (r : Room (k + 1) A) : Room k A.in1 :=
  ⟨r.hd, by have := r.dp; show A.depth + 3 * k + 5 < _; omega, by have := r.un; show A.units + 1 + 16 * k + 200 < _; omega⟩
theorem make_depth {A : Around} {C : Addr} {us : List Value} {kw : List (Str × Value)} : (A.under (.builtin "type.__call__" ⟨.ref C :: us, kw⟩)).depth = A.depth + 1 := by
  first | rfl | simp [Around.under, Code.weight, Code.isCreation, Code.isGuard, Code.isCaller, Code.frames, Code.isFrame, guardIds]
theorem make_units {A : Around} {C : Addr} {us : List Value} {kw : List (Str × Value)} : (A.under (.builtin "type.__call__" ⟨.ref C :: us, kw⟩)).units = A.units + 1 := by
  first | rfl | simp [Around.under, Code.cUnits, Code.frames, Code.isFrame]
theorem Room.make (r : Room (k + 1) A) (C : Addr) (us : List Value) (kw : List (Str × Value)) : Room k (A.under (.builtin "type.__call__" ⟨.ref C :: us, kw⟩)) :=
  ⟨r.hd, by have := r.dp; rw [make_depth]; omega, by have := r.un; rw [make_units]; omega⟩
theorem Room.depth (r : Room k A) : A.depth < recursionLimit := by have := r.dp; omega
/-! ### argument lists and displays -/
noncomputable def tNil : TA := fun _ H Q => Q [] H
noncomputable def tCons (ta : TE) (tr : TA) : TA := fun σ H Q => ta σ H fun x H1 => tr σ H1 fun xs H2 => Q (x :: xs) H2
section
variable {X : Cx} {e : Expr} {es : List Expr} {te : TE} {t : TA} {pos : Pos}
theorem pa_nil : PA X [] tNil := fun _ _ _ _ H Q I h => Calls.spliced_nil ⟨[], H, I, .nil, h⟩
theorem pa_cons (ha : PE X e te) (hr : PA X es t) (hs : starEach (e :: es) X.env = (false, eval e X.env) :: starEach es X.env := by rfl) : PA X (e :: es) (tCons te t) := by
  intro pos pins s σ H Q I h
  rw [hs]
  show wpAny _ _ (spliced ((false, eval e X.env) :: backTo pos (starEach es X.env))) _ _ s
  refine Calls.spliced_cons (thn (ha pins s σ H _ I h) fun u s1 ⟨x, H1, I1, r1, q1⟩ => ?_)
  exact thn (hr pos pins s1 σ H1 _ I1 q1) fun us s2 ⟨xs, H2, I2, r2, q2⟩ => ⟨x :: xs, H2, I2, .cons r1 r2, q2⟩

noncomputable def tLst (t : TA) : TE := fun σ H Q => t σ H fun xs H1 => xs.length ≤ sizeLine ∧ ∀ p, H1 p = none → Q (.ref p) (upd H1 p (.lst xs))
theorem pe_lst (h : PA X es t) : PE X (.List es pos) (tLst t) := by
  intro pins s σ H Q I hq
  refine wpAny_List_spliced (thn (h pos pins s σ H _ I hq) fun us s1 ⟨xs, H1, I1, r, z, q⟩ => ⟨by rw [← r.length]; exact z, ?_⟩)
  have hf : H1 s1.heap.objs.size = none := I1.hok.fresh (Nat.le_refl _)
  refine ⟨.ref s1.heap.objs.size, upd H1 s1.heap.objs.size (.lst xs), I1.laid (t' := s1.toks) (fun b u e => Heap.get?_push_of_some _ e) (Nat.le_refl _) ?_, rfl, q _ hf⟩
  exact ⟨z, us, 0, r, Heap.get?_push_size _ rfl⟩
end

/-! ### what a def promises -/
/-- a def's promise: the bound arguments in the parameters' order, the heap, the wanted end, the wanted exception -/
noncomputable abbrev Sp := List V → Hp → VK → XK → Prop
/-- how an exception lies behind a call (file 08 gives it): the callers' frames, abstract heap and state ahead of the call, the wish, the exception, the state -/
noncomputable abbrev CXT := List Env → Hp → Shared → XK → Value → Shared → Prop

/-- the state at a call -/
structure Env0 (P : Program) (w : World) (K : PySem.W.Frag) (mg : Str → Option Value) (base : Heap) (A : Around) (outer : List Env) (s : Shared) (H : Hp) : Prop where
  frames : A.frames = some outer
  mod : Mod K mg base
  bs : ∀ b o, base.get? b = some o → s.heap.get? b = some o ∧ H b = none
  bsz : base.objs.size ≤ s.heap.objs.size
  funs : s.heap.FunFrames base outer
  frf : Frf K H (frs outer)
  hok : HOk P w H s.heap
  bare : AllBare s.gens
/-- a call's end -/
noncomputable def CE (outer : List Env) (P : Program) (w : World) (H : Hp) (s : Shared) (Q : VK) (u : Value) (s' : Shared) : Prop :=
  ∃ v H', s'.os = s.os ∧ AllBare s'.gens ∧ Un (frs outer) [] H H' s.heap s'.heap ∧ HOk P w H' s'.heap ∧ RelV v u ∧ Q v H'
noncomputable def CR (CX : CXT) (outer : List Env) (P : Program) (w : World) (H : Hp) (s : Shared) (Q : VK) (E : XK) (r : Result) (s' : Shared) : Prop :=
  match r with
  | .ok (.ret u) => CE outer P w H s Q u s'
  | .ok _ => False
  | .error e => CX outer H s E e s'
structure FnOk (P : Program) (w : World) (K : PySem.W.Frag) (mg : Str → Option Value) (base : Heap) (CX : CXT) (k : Nat) (f : Addr) (fd : FuncData) (ps : List Str) (sp : Sp) : Prop where
  len : ∀ vs H Q E, sp vs H Q E → vs.length = ps.length
  run : ∀ (A : Around) (outer : List Env) (s : Shared) (H : Hp) (args : Args) (us : List Value) (vs : List V) (Q : VK) (E : XK), Room k A → Env0 P w K mg base A outer s H → BindsTo s fd args (ps.zip us) → Vals vs us → sp vs H Q E →
    codeAny (model P w) A (.call (.ref f) args) (CR CX outer P w H s Q E) s
theorem FnOk.mono {P : Program} {w : World} {K : PySem.W.Frag} {mg : Str → Option Value} {base : Heap} {CX : CXT} {j k : Nat} {f : Addr} {fd : FuncData} {ps : List Str} {sp : Sp} (F : FnOk P w K mg base CX j f fd ps sp) (h : j ≤ k) :
    FnOk P w K mg base CX k f fd ps sp := ⟨F.len, fun A outer s H args us vs Q E hr => F.run A outer s H args us vs Q E (hr.mono h)⟩
/-- a weaker promise -/
theorem FnOk.imp {P : Program} {w : World} {K : PySem.W.Frag} {mg : Str → Option Value} {base : Heap} {CX : CXT} {k : Nat} {f : Addr} {fd : FuncData} {ps : List Str} {sp sp' : Sp} (F : FnOk P w K mg base CX k f fd ps sp)
    (h : ∀ vs H Q E, sp' vs H Q E → sp vs H Q E) : FnOk P w K mg base CX k f fd ps sp' :=
  ⟨fun vs H Q E q => F.len vs H Q E (h _ _ _ _ q), fun A outer s H args us vs Q E hr he hb hv hs => F.run A outer s H args us vs Q E hr he hb hv (h _ _ _ _ hs)⟩

theorem Env0.make {P : Program} {w : World} {K : PySem.W.Frag} {mg : Str → Option Value} {base : Heap} {A : Around} {outer : List Env} {s : Shared} {H : Hp} (e : Env0 P w K mg base A outer s H) (C : Addr) (us : List Value) (kw : List (Str × Value)) :
    Env0 P w K mg base (A.under (.builtin "type.__call__" ⟨.ref C :: us, kw⟩)) outer s H := ⟨by first | exact e.frames | (simpa [Around.under, Code.envs, Code.isFrame, pushEnvs] using e.frames), e.mod, e.bs, e.bsz, e.funs, e.frf, e.hok, e.bare⟩
theorem Env0.in1 {P : Program} {w : World} {K : PySem.W.Frag} {mg : Str → Option Value} {base : Heap} {A : Around} {outer : List Env} {s : Shared} {H : Hp} (e : Env0 P w K mg base A outer s H) :
    Env0 P w K mg base A.in1 outer s H := ⟨e.frames, e.mod, e.bs, e.bsz, e.funs, e.frf, e.hok, e.bare⟩

section
variable {X : Cx} {pins : List (Addr × Obj)} {σ : St} {H : Hp} {s s' : Shared}
/-- from a body: what a callee wants -/
theorem Inv.env0 (I : Inv X pins σ H s) : Env0 X.prog X.w X.K X.mg X.base X.A X.stack s H :=
  ⟨I.ok.frames, I.ok.mod, I.bs, Nat.le_trans I.ok.bsz I.sz, I.stack, ⟨I.stkFree, fun x h => let ⟨ps, e⟩ := I.ok.frf.t x h; let ⟨more, e'⟩ := I.base.tbls x.2.1 _ e; ⟨ps ++ more, e'⟩⟩, I.hok, I.bare⟩
/-- behind a call -/
theorem Inv.after (I : Inv X pins σ H s) (h : CE X.stack X.prog X.w H s Q u s') : EP X pins σ Q u s' := by
  obtain ⟨v, H', os, bare, un, hok, r, q⟩ := h
  obtain ⟨hh, g, d, t, os'⟩ := s'
  obtain rfl : os' = s.os := os
  exact ⟨v, H', I.call (h' := hh) (g' := g) (d' := d) (t' := t) (ch := []) un hok bare (fun b z => absurd z (by simp)), r, q⟩
end

/-! ### calls -/
/-- f(..): the written arguments, then the defaults dvs; E: what is wanted of an exception -/
noncomputable def tCall (sp : Sp) (dvs : List V) (E : XK) (t : TA) : TE := fun σ H Q => t σ H fun vs H1 => sp (vs ++ dvs) H1 Q E
/-- o.m(..) of an instance of the class at C -/
noncomputable def tMeth (C : Addr) (m : Str) (sp : Sp) (dvs : List V) (E : XK) (ta : TE) (t : TA) : TE := fun σ H Q => ta σ H fun x H1 => ∃ a dx fs, x = .ref a ∧ H1 a = some (.ins C dx fs) ∧ fs.lookup m = none ∧
  t σ H1 fun vs H2 => sp (x :: (vs ++ dvs)) H2 Q E
/-- C(..): a new instance and its dict, then __init__ -/
noncomputable def tMake (C : Addr) (sp : Sp) (dvs : List V) (E : XK) (t : TA) : TE := fun σ H Q => t σ H fun vs H1 => ∀ x dx, H1 x = none → H1 dx = none → dx ≠ x →
  sp (.ref x :: (vs ++ dvs)) (upd (upd H1 dx (.own x)) x (.ins C dx [])) (fun v H2 => v = .non ∧ Q (.ref x) H2) E

/-- how the parameters are bound: us the positional arguments, kw the keywords' values by name, ds the defaults that fill up -/
noncomputable def Binds (K : PySem.W.Frag) (fd : FuncData) (ps : List Str) (ds : List Value) : Prop :=
  ∀ (s : Shared) (us : List Value), K.In s.heap → (us ++ ds).length = ps.length → BindsTo s fd ⟨us, []⟩ (ps.zip (us ++ ds))
/-- every parameter is given -/
theorem Binds.all {K : PySem.W.Frag} {fd : FuncData} {ps : List Str} (h : ∀ us : List Value, us.length = ps.length → bindArgs fd ⟨us, []⟩ = pure (ps.zip us)) : Binds K fd ps [] := fun s us _ hl => by
  rw [List.append_nil] at hl ⊢
  exact .of_eq (h us hl)

/-- an exception of a callee reaches what this body wants of exceptions -/
noncomputable def Passes (CX : CXT) (X : Cx) (E : XK) : Prop := ∀ (pins : List (Addr × Obj)) (σ : St) (H : Hp) (s : Shared) (e : Value) (s' : Shared), Inv X pins σ H s → CX X.stack H s E e s' → X.xe e s'

section
variable {X : Cx} {CX : CXT} {k : Nat} {f C : Addr} {fd : FuncData} {ps : List Str} {sp : Sp} {dvs : List V} {ds : List Value} {E : XK} {x m : Str} {p pos apos : Pos} {e o : Expr} {es : List Expr} {ta : TE} {t : TA}

/-- the callee runs -/
theorem run_fn (F : FnOk X.prog X.w X.K X.mg X.base CX k f fd ps sp) (hr : Room k X.A) (hb : Binds X.K fd ps ds) (hd : Vals dvs ds) (hx : Passes CX X E)
    (I : Inv X pins σ H s) (r : Vals vs us) (h : sp (vs ++ dvs) H Q E) : wpAny (model X.prog X.w) X.A (call (.ref f) us) (EP X pins σ Q) X.xe s := by
  have r2 : Vals (vs ++ dvs) (us ++ ds) := r.append hd
  have hl : (us ++ ds).length = ps.length := by rw [← r2.length]; exact F.len _ _ _ _ h
  refine wpAny_call (codeAny_mono (F.run X.A X.stack s H ⟨us, []⟩ (us ++ ds) (vs ++ dvs) Q E hr I.env0 (hb s us I.kIn hl) r2 h) fun r s' hq => ?_)
  cases r with
  | error e => exact hx pins σ H s e s' I hq
  | ok fl =>
    cases fl with
    | ret u => exact I.after hq
    | next => exact False.elim hq
    | brk => exact False.elim hq
    | cont => exact False.elim hq

theorem pe_call (F : FnOk X.prog X.w X.K X.mg X.base CX k f fd ps sp) (hr : Room k X.A) (hg : Gl X x) (hm : X.mg x = some (.ref f)) (hk : PySem.W.keepIn X.K (.ref f) = true) (hb : Binds X.K fd ps ds) (hd : Vals dvs ds) (hx : Passes CX X E)
    (ha : PA X (e :: es) t) (hdb : (x == ("__debug__" : Str)) = false := by decide) (he : starEach (e :: es) X.env = (false, eval e X.env) :: starEach es X.env := by rfl) (hpl : (backTo pos (starEach es X.env)).any (·.1) = false := by rfl) :
    PE X (.Call (.Name x p) (e :: es) [] pos) (tCall sp dvs E t) := by
  intro pins s σ H Q I h
  refine wpAny_Call_Name_kw (ld_glob I hg hm ?_ hdb)
  refine PySem.W.callWith_K (h₀ := X.base) I.ok.mod.kin hk (thn (ha pos pins s σ H _ I h) fun us s1 ⟨vs, H1, I1, r, q⟩ => ⟨I1.kIn, ?_⟩) he hpl
  exact run_fn F hr hb hd hx I1 r q
/-- o.m(e, ..) -/
theorem pe_meth (he : PE X o ta) (c : Cls X.K C) (hm : Meth X.K C m f) (F : FnOk X.prog X.w X.K X.mg X.base CX k f fd ps sp) (hr : Room k X.A) (hb : Binds X.K fd ps ds) (hd : Vals dvs ds) (hx : Passes CX X E) (ha : PA X (e :: es) t)
    (hst : starEach (e :: es) X.env = (false, eval e X.env) :: starEach es X.env := by rfl) (hpl : (backTo pos (starEach es X.env)).any (·.1) = false := by rfl)
    (ht : eval (.Call (.Attribute o m apos) (e :: es) [] pos) X.env = (do
      let ov ← eval o X.env
      standAt apos.atName
      let (f, first) ← holding [ov] (getMethod ov m pl)
      callWith pos f first (backTo pos (starEach (e :: es) X.env)) (backToKw pos (keywordEach [] X.env))) := by rfl) :
    PE X (.Call (.Attribute o m apos) (e :: es) [] pos) (tMeth C m sp dvs E ta t) := by
  intro pins s σ H Q I h
  refine PySem.W.methodCall_KW (pl := pl) (thn (he pins s σ H _ I h) fun u s1 ⟨x, H1, I1, rx, a, dx, fs, ex, ea, l, q⟩ => ?_) ht
  subst ex
  obtain rfl : u = Value.ref a := rx
  refine getmeth_ok I1 ea c hm l ?_
  refine PySem.W.callWith_K (first := [.ref a]) (h₀ := X.base) I.ok.mod.kin hm.kp (thn (ha pos pins s1 σ H1 _ I1 q) fun us s2 ⟨vs, H2, I2, r, q2⟩ => ⟨I2.kIn, ?_⟩) hst hpl
  exact run_fn (us := .ref a :: us) (vs := .ref a :: vs) F hr hb hd hx I2 (.cons rfl r) q2
/-- what a class must have to be made -/
structure Mk (K : PySem.W.Frag) (C f : Addr) : Prop where
  makes : PySem.W.makesIn K C = true
  init : PySem.W.findIn K (.ref C) "__init__" = some (some (.ref f))
  fn : PySem.W.isFn K (.ref f) = true
  kp : PySem.W.keepIn K (.ref C) = true

theorem run_make (M : Mk X.K C f) (F : FnOk X.prog X.w X.K X.mg X.base CX k f fd ps sp) (hr : Room (k + 1) X.A) (hb : Binds X.K fd ps ds) (hd : Vals dvs ds)
    (hx : Passes CX X E) (I : Inv X pins σ H s) (r : Vals vs us)
    (h : ∀ x dx, H x = none → H dx = none → dx ≠ x → sp (.ref x :: (vs ++ dvs)) (upd (upd H dx (.own x)) x (.ins C dx [])) (fun v H2 => v = .non ∧ Q (.ref x) H2) E) :
    wpAny (model X.prog X.w) X.A (call (.ref C) us) (EP X pins σ Q) X.xe s := by
  have hq := h (s.heap.objs.size + 1) s.heap.objs.size (I.hok.fresh (Nat.le_succ _)) (I.hok.fresh (Nat.le_refl _)) (Nat.ne_of_lt (Nat.lt_succ_self _))
  have I2 := Inv.made (C := C) I
  have r2 : Vals (V.ref (s.heap.objs.size + 1) :: (vs ++ dvs)) (Value.ref (s.heap.objs.size + 1) :: (us ++ ds)) := .cons rfl (r.append hd)
  have hl : (Value.ref (s.heap.objs.size + 1) :: us ++ ds).length = ps.length := by
    have e := r2.length
    rw [F.len _ _ _ _ hq] at e
    exact e.symm
  refine wpAny_call (make_map (f := f) I.kIn M.makes M.init (beq_iff_eq.mp M.fn) (codeAny_mono (F.run _ X.stack _ _ ⟨Value.ref (s.heap.objs.size + 1) :: us, []⟩ (Value.ref (s.heap.objs.size + 1) :: (us ++ ds)) _ _ E (hr.make C us [])
    (I2.env0.make C us []) (hb _ (Value.ref (s.heap.objs.size + 1) :: us) I2.kIn hl) r2 hq) fun r s' hq' => ?_))
  cases r with
  | error e => exact hx pins σ _ _ e s' I2 hq'
  | ok fl =>
    cases fl with
    | ret u =>
      obtain ⟨v, H', I3, rv, ev, q3⟩ := I2.after hq'
      subst ev
      exact ⟨rv, ⟨V.ref (s.heap.objs.size + 1), H', I3, rfl, q3⟩⟩
    | next => exact False.elim hq'
    | brk => exact False.elim hq'
    | cont => exact False.elim hq'
theorem pe_make0 (M : Mk X.K C f) (F : FnOk X.prog X.w X.K X.mg X.base CX k f fd ps sp) (hr : Room (k + 1) X.A) (hg : Gl X x) (hm : X.mg x = some (.ref C)) (hb : Binds X.K fd ps ds) (hd : Vals dvs ds) (hx : Passes CX X E)
    (hdb : (x == ("__debug__" : Str)) = false := by decide) : PE X (.Call (.Name x p) [] [] pos) (tMake C sp dvs E tNil) := by
  intro pins s σ H Q I h
  refine wpAny_Call_Name_kw (ld_glob I hg hm ?_ hdb)
  exact PySem.W.callWith_K0 I.kIn M.kp (run_make (us := []) M F hr hb hd hx I .nil h)
end

/-! ### keywords -/
section
variable {X : Cx} {CX : CXT} {k : Nat} {f C : Addr} {fd : FuncData} {ps ks : List Str} {sp : Sp} {E : XK} {x m : Str} {p pos apos kpos : Pos} {e o : Expr} {es : List Expr} {kws : List Keyword} {te ta : TE} {t tk : TA} {nm : Option Str}
variable {g : List Value → List Value → List Value} {gV : List V → List V → List V}
end

/-! ### a def's body keeps its promise -/
/-- names: the parameters first -/
structure FnScope (N P : List Str) (sc : Scope) : Prop where
  kind : sc.kind = .function
  co : sc.isCoroutine = false
  gen : sc.isGenerator = false
  nd : N.Nodup
  pre : N.take P.length = P
  par : ∀ x ∈ P, sc.names.lookup x = some .local ∨ sc.names.lookup x = some .cell
  nofree : ∀ y ∈ sc.names, y.2 ≠ .free

theorem bindL_out {kindOf : Str → Option NameKind} : ∀ {binds : List (Str × Value)} {m : Str → Option Value}, (∀ v, (x, v) ∉ binds) → bindL kindOf binds m x = m x
  | [], _, _ => rfl
  | (n, v) :: r, m, h => by
    unfold bindL
    rw [bindL_out fun w hw => h w (List.mem_cons_of_mem _ hw)]
    split
    · have : x ≠ n := by rintro rfl; exact h v List.mem_cons_self
      simp [this]
    · rfl
theorem bindC_out {kindOf : Str → Option NameKind} : ∀ {binds : List (Str × Value)} {m : Str → Option Value}, (∀ v, (x, v) ∉ binds) → bindC kindOf binds m x = m x
  | [], _, _ => rfl
  | (n, v) :: r, m, h => by
    unfold bindC
    rw [bindC_out fun w hw => h w (List.mem_cons_of_mem _ hw)]
    split
    · rfl
    · have : x ≠ n := by rintro rfl; exact h v List.mem_cons_self
      simp [this]
theorem bindL_get {kindOf : Str → Option NameKind} : ∀ {P : List Str} {vs : List Value} {i : Nat} {m : Str → Option Value}, P.Nodup → P[i]? = some x → vs[i]? = some v → kindOf x = some .local →
    bindL kindOf (P.zip vs) m x = some v
  | [], _, _, _, _, h, _, _ => by simp at h
  | _ :: _, [], _, _, _, _, h, _ => by simp at h
  | p :: P, w :: vs, 0, m, nd, h1, h2, hk => by
    simp at h1 h2; subst h1; subst h2
    show bindL kindOf ((p, w) :: P.zip vs) m p = _
    unfold bindL
    rw [bindL_out fun v hv => (List.nodup_cons.mp nd).1 (List.of_mem_zip hv).1, if_pos hk]
    simp
  | p :: P, w :: vs, i + 1, m, nd, h1, h2, hk => by
    show bindL kindOf ((p, w) :: P.zip vs) m x = _
    unfold bindL
    exact bindL_get (i := i) (List.nodup_cons.mp nd).2 (by simpa using h1) (by simpa using h2) hk
theorem bindC_get {kindOf : Str → Option NameKind} : ∀ {P : List Str} {vs : List Value} {i : Nat} {m : Str → Option Value}, P.Nodup → P[i]? = some x → vs[i]? = some v → kindOf x ≠ some .local →
    bindC kindOf (P.zip vs) m x = some v
  | [], _, _, _, _, h, _, _ => by simp at h
  | _ :: _, [], _, _, _, _, h, _ => by simp at h
  | p :: P, w :: vs, 0, m, nd, h1, h2, hk => by
    simp at h1 h2; subst h1; subst h2
    show bindC kindOf ((p, w) :: P.zip vs) m p = _
    unfold bindC
    rw [bindC_out fun v hv => (List.nodup_cons.mp nd).1 (List.of_mem_zip hv).1, if_neg hk]
    simp
  | p :: P, w :: vs, i + 1, m, nd, h1, h2, hk => by
    show bindC kindOf ((p, w) :: P.zip vs) m x = _
    unfold bindC
    exact bindC_get (i := i) (List.nodup_cons.mp nd).2 (by simpa using h1) (by simpa using h2) hk

/-- the names' values at the entry -/
noncomputable def start (N : List Str) (vs : List V) : St := vs.map some ++ List.replicate (N.length - vs.length) none

/-- the context of a def's body, at its entry; an exception leaves the frame, then lies as CX says -/
noncomputable def cxOf (CX : CXT) (P : Program) (w : World) (K : PySem.W.Frag) (mg : Str → Option Value) (base : Heap) (N : List Str) (qual : Str) (scope : Scope) (f : Addr) (cd : Value) (A : Around) (outer : List Env) (s : Shared) (H : Hp) (E : XK) : Cx where
  prog := P
  w := w
  K := K
  mg := mg
  base := base
  A := A.deeper (envOfC qual scope s.heap.objs.size f cd)
  N := N
  s₀ := s
  H₀ := H
  env := envOfC qual scope s.heap.objs.size f cd
  outer := outer
  stack := envOfC qual scope s.heap.objs.size f cd :: outer
  ex := []
  calm := true
  fn := fun _ => true
  pn := []
  xe := fun e s' => wpAny (model P w) (A.deeper (envOfC qual scope s.heap.objs.size f cd)) (leaving (envOfC qual scope s.heap.objs.size f cd) e) (fun _ s'' => CX outer H s E e s'') (fun e' s'' => CX outer H s E e' s'') s'

theorem cell_has {sc : Scope} {n : Nat} {x : Str} (h : sc.names.lookup x = some .cell) : ∃ c, (cellsFrom n sc.names []).lookup x = some c := by
  have q := PySem.W.cellsFrom_some sc.names n [] (.inl h)
  exact Option.isSome_iff_exists.mp q

theorem inv_start {CX : CXT} {P : Program} {w : World} {K : PySem.W.Frag} {mg : Str → Option Value} {base : Heap} {N ps : List Str} {qual : Str} {scope : Scope} {f : Addr} {cd : Value} {A : Around} {outer : List Env} {s s1 : Shared} {H : Hp} {E : XK} {us : List Value} {vs : List V}
    (S : FnScope N ps scope) (hd : A.handled = none) (e0 : Env0 P w K mg base A outer s H) (hl : vs.length = ps.length) (r : Vals vs us)
    (x : InCallC s s.heap.objs.size (bindL (envOfC qual scope s.heap.objs.size f cd).kindOf (ps.zip us) fun _ => none) (cellsFrom (s.heap.objs.size + 1) scope.names []) (bindC (envOfC qual scope s.heap.objs.size f cd).kindOf (ps.zip us) fun _ => none) s1) :
    Inv (cxOf CX P w K mg base N qual scope f cd A outer s H E) [] (start N vs) H s1 := by
  have hpl : ps.length ≤ N.length := by have := congrArg List.length S.pre; rw [List.length_take] at this; omega
  obtain ⟨h1, tk, rfl, hk⟩ := x.done
  have noA : ∀ b : Addr, b ∉ (cxOf CX P w K mg base N qual scope f cd A outer s H E).ex := fun b z => absurd (show b ∈ ([] : List Addr) from z) (by simp)
  refine ⟨⟨e0.mod, S.kind, rfl, rfl, Nat.le_refl _, fun y z c h1 h2 => ?_, fun y hy => ?_, fun y c _ h => ?_, fun _ => hd, Around.frames_deeper e0.frames, .inr ⟨rfl, rfl⟩, fun b z => absurd z (noA b), e0.bs, e0.bsz, fun b _ _ => noA b, fun b z => absurd z (noA b), e0.funs, e0.frf⟩,
    rfl, e0.bare, Un.kept hk, ⟨_, x.toInCall.ns, fun i y v h1 h2 h3 => ?_⟩, fun y c h => ⟨_, x.cell y c h⟩, e0.hok.fresh (Nat.le_refl _), fun y c h => ?_, fun p hp => absurd (show p ∈ ([] : List (Addr × Obj)) from hp) (by simp), e0.hok.kept hk, ?_⟩
  · exact name_of_addr x.apart (PySem.mem_of_lookup h1) (PySem.mem_of_lookup h2)
  · have hy : scope.names.lookup y = some .cell ∨ scope.names.lookup y = some .free := hy
    rcases hy with hy | hy
    · exact cell_has hy
    · exact absurd rfl (S.nofree _ (PySem.mem_of_lookup hy))
  · exact Nat.le_of_lt (x.above y c (PySem.mem_of_lookup h))
  · have hi : i < vs.length := by
      unfold start at h2
      by_cases hi : i < vs.length
      · exact hi
      · rw [List.getElem?_append_right (by simpa using hi)] at h2
        rw [List.getElem?_replicate] at h2
        split at h2 <;> cases h2
    have ha : vs[i]? = some v := by
      unfold start at h2
      rw [List.getElem?_append_left (by simpa using hi), List.getElem?_map] at h2
      cases e : vs[i]? with
      | none => rw [e] at h2; cases h2
      | some a => rw [e] at h2; cases h2; rfl
    obtain ⟨u, hu, rv⟩ := r.get ha
    have hp : ps[i]? = some y := by
      rw [← S.pre, List.getElem?_take_of_lt (by omega)]; exact h1
    have ndP : ps.Nodup := by rw [← S.pre]; exact S.nd.sublist (List.take_sublist _ _)
    refine ⟨u, rv, ?_⟩
    rcases S.par y (List.mem_of_getElem? hp) with k | k
    · exact .inl ⟨k, bindL_get ndP hp hu k⟩
    · obtain ⟨c, e⟩ := cell_has (n := s.heap.objs.size + 1) k
      refine .inr ⟨.inl k, c, e, ?_⟩
      have q := x.cell y c e
      rw [bindC_get ndP hp hu (by show scope.names.lookup y ≠ _; rw [k]; decide)] at q
      exact q
  · exact e0.hok.fresh (Nat.le_of_lt (x.above y c (PySem.mem_of_lookup h)))
  · unfold start
    show _ = N.length
    rw [List.length_append, List.length_map, List.length_replicate]
    omega

/-- THE RULE: a def (or a method) of the text, by its body. The body's reading t is chosen for each entry; it is run at the parameters' values -/
theorem fn_of {CX : CXT} {P : Program} {w : World} {K : PySem.W.Frag} {mg : Str → Option Value} {base : Heap} {k : Nat} {f : Addr} {name qual : Str} {params : Arguments} {body : List Stmt} {scope : Scope} {dV kV doc pm cdv ct oc : Value} {an od : Option Addr}
    {osl : Array (Option Value)} {N ps : List Str} {sp : Sp} (lk : K.lookup f = some ⟨oc, od, .func (PySem.W.fnOf name qual params body scope dV kV doc pm an cdv ct), osl⟩) (hcd : PySem.W.codeIn K cdv qual = true) (S : FnScope N ps scope)
    (len : ∀ vs H Q E, sp vs H Q E → vs.length = ps.length)
    (hbody : ∀ (A : Around) (outer : List Env) (s : Shared) (H : Hp) (vs : List V) (Q : VK) (E : XK), Room k (A.deeper (envOfC qual scope s.heap.objs.size f cdv)) → sp vs H Q E →
      ∃ t, PSs (cxOf CX P w K mg base N qual scope f cdv A outer s H E) body t ∧ t { nx := fun _ H' => Q .non H', rt := Q } (start N vs) H) :
    FnOk P w K mg base CX (k + 1) f (PySem.W.fnOf name qual params body scope dV kV doc pm an cdv ct) ps sp := by
  refine ⟨len, fun A outer s H args us vs Q E hr e0 hb r hsp => ?_⟩
  have hl := len _ _ _ _ hsp
  have KX : K.In s.heap := e0.mod.kin.keeps fun b o e => (e0.bs b o e).1
  have lim : s.heap.NoLimit := e0.mod.nolimit.keeps fun b o e => (e0.bs b o e).1
  have hkind : ∀ y ∈ ps.zip us, scope.names.lookup y.1 = some .local ∨ (scope.names.lookup y.1 = some .cell ∧ ((cellsFrom (s.heap.objs.size + 1) scope.names []).lookup y.1).isSome = true) := fun ⟨n, v⟩ hy => by
    rcases S.par n (List.of_mem_zip hy).1 with q | q
    · exact .inl q
    · exact .inr ⟨q, PySem.W.cellsFrom_some _ _ _ (.inl q)⟩
  refine codeAny_call_function hr.depth (KX _ _ lk) rfl S.co S.gen rfl (PySem.W.codeRec_of KX hcd) (hb _ _ _ _ ?_)
  refine wpAny_newFunctionEnv_cells S.kind hkind fun env he s1 x => ?_
  subst he
  refine ⟨lim.keeps x.toInCall.keep, codeAny_func ?_⟩
  obtain ⟨t, ht, hq⟩ := hbody A outer s H vs Q E (hr.deeper _) hsp
  have I : Inv (cxOf CX P w K mg base N qual scope f cdv A outer s H E) [] (start N vs) H s1 := inv_start S hr.hd e0 hl r x
  refine wpAny_mono (ht [] s1 (start N vs) H _ I hq) (fun fl s' hs => ?_) fun e s' hs => hs
  have fin : ∀ {σ' : St} {H' : Hp} {v : V} {u : Value}, Inv (cxOf CX P w K mg base N qual scope f cdv A outer s H E) [] σ' H' s' → RelV v u → Q v H' → CE outer P w H s Q u s' :=
    fun {σ' H' v u} J rv q => ⟨v, H', J.os, J.bare, J.base, J.hok, rv, q⟩
  cases fl with
  | ret u =>
    obtain ⟨v, σ', H', J, rv, q⟩ := hs
    exact fin J rv q
  | next =>
    obtain ⟨σ', H', J, q⟩ := hs
    exact fin (v := V.non) (u := Value.none) J rfl q
  | brk =>
    obtain ⟨_, _, _, q⟩ := hs
    exact False.elim q
  | cont =>
    obtain ⟨_, _, _, q⟩ := hs
    exact False.elim q
end L2

namespace L2
open PySem PySem.Spec PyProof.Rows
section
variable {X : Cx} {x : Str} {p pos : Pos} {e : Expr} {es : List Expr} {t : TA} {id T : String} {r : List V → Hp → VK → Prop}

noncomputable def tCB (r : List V → Hp → VK → Prop) (t : TA) : TE := fun σ H Q => t σ H fun vs H1 => r vs H1 Q
/-- f(e, ..), f a built-in function -/
theorem pe_callB (hc : CallR X (.builtin id) r) (hg : Gl X x) (hm : X.mg x = none) (hv : bootBuiltins x = some (.builtin id)) (ha : PA X (e :: es) t) (hn : x ≠ "__name__" := by decide) (hdb : (x == ("__debug__" : Str)) = false := by decide)
    (he : starEach (e :: es) X.env = (false, eval e X.env) :: starEach es X.env := by rfl) (hpl : (backTo pos (starEach es X.env)).any (·.1) = false := by rfl) : PE X (.Call (.Name x p) (e :: es) [] pos) (tCB r t) := by
  intro pins s σ H Q I h
  refine wpAny_Call_Name_kw (ld_blt I hg hm hv ?_ hn hdb)
  exact PyProof.Rows.callWith_builtin1 (thn (ha pos pins s σ H _ I h) fun us s1 ⟨vs, H1, I1, r1, q1⟩ => hc pins s1 σ H1 vs us Q I1 r1 q1) he hpl
/-- T(e, ..), T a built-in type -/
theorem pe_callTy (hc : CallR X (.type T) r) (hg : Gl X x) (hm : X.mg x = none) (hv : bootBuiltins x = some (.type T)) (ha : PA X (e :: es) t) (hn : x ≠ "__name__" := by decide) (hdb : (x == ("__debug__" : Str)) = false := by decide)
    (he : starEach (e :: es) X.env = (false, eval e X.env) :: starEach es X.env := by rfl) (hpl : (backTo pos (starEach es X.env)).any (·.1) = false := by rfl) : PE X (.Call (.Name x p) (e :: es) [] pos) (tCB r t) := by
  intro pins s σ H Q I h
  refine wpAny_Call_Name_kw (ld_blt I hg hm hv ?_ hn hdb)
  exact PyProof.Rows.callWith_type1 (thn (ha pos pins s σ H _ I h) fun us s1 ⟨vs, H1, I1, r1, q1⟩ => hc pins s1 σ H1 vs us Q I1 r1 q1) he hpl
end
end L2

namespace HT
open PySem PyProof.Rows

section
open PySem.SeqAt
open PySem.AutoSeq1 (wpAny_loadPart')
open PySem.MeetsSeq PySem.MeetsSeq2 PySem.MeetsSeq3

end

section
variable {prog : Program} {w : World} {A : Around} {E : Value → Shared → Prop} {s : Shared}

/-! ### t[a:b], not the whole -/
/-- a slice's bound as a place among n (d where it is left out) -/
noncomputable def sIx (n d : Nat) : Option Int → Nat
  | none => d
  | some v => if v < 0 then (v + (n : Int)).toNat else min v.toNat n
theorem sIx_nat (n d k : Nat) : sIx n d (some (k : Int)) = min k n := by
  show (if (k : Int) < 0 then ((k : Int) + (n : Int)).toNat else min (k : Int).toNat n) = min k n
  rw [if_neg (by omega), Int.toNat_natCast]
end
end HT

namespace L2
open PySem PySem.Spec PyProof.Rows

/-! ### the parts of a slice -/
noncomputable abbrev TO := St → Hp → (Option Int → Hp → Prop) → Prop
/-- a slice's part (left out, or an int) -/
noncomputable def PO (X : Cx) (e : Option Expr) (t : TO) : Prop :=
  ∀ (pins : List (Addr × Obj)) (s : Shared) (σ : St) (H : Hp) (Q : Option Int → Hp → Prop), Inv X pins σ H s → t σ H Q →
    wpAny (model X.prog X.w) X.A (evalPart e X.env) (fun u s' => ∃ o H', Inv X pins σ H' s' ∧ IsPart u o ∧ Q o H') X.xe s
noncomputable def tNoPart : TO := fun _ H Q => Q none H
noncomputable def tPart (t : TE) : TO := fun σ H Q => t σ H fun x H1 => ∃ i, x = .int i ∧ Q (some i) H1

section
variable {X : Cx} {e : Expr} {te : TE} {lo hi : Option Expr} {tl th : TO} {pos p2 : Pos}

theorem po_none : PO X none tNoPart := by
  intro pins s σ H Q I h
  rw [evalPart_none]
  exact wpAny_pure ⟨none, H, I, .none, h⟩
theorem po_some (h : PE X e te) : PO X (some e) (tPart te) := by
  intro pins s σ H Q I hw
  rw [evalPart_some]
  refine thn (h pins s σ H _ I hw) fun u s1 ⟨x, H1, I1, r1, q1⟩ => ?_
  obtain ⟨i, rfl, q⟩ := q1
  obtain ⟨t, rfl⟩ := r1
  exact ⟨some i, H1, I1, .int i t, q⟩

/-- what a slice of a value is, by values: the slice object stands at sl -/
noncomputable def SlR (X : Cx) (r : V → Option Int → Option Int → Hp → VK → Prop) : Prop :=
  ∀ (pins : List (Addr × Obj)) (s : Shared) (σ : St) (H : Hp) (x : V) (v vl vu : Value) (lo hi : Option Int) (sl : Addr) (Q : VK), Inv X pins σ H s → RelV x v → s.heap.IsSliceOf sl vl vu .none → IsPart vl lo → IsPart vu hi → r x lo hi H Q →
    ∃ T id, typeLookup (.type T) "__getitem__" = pure (some (.builtin id)) ∧ s.TypeIs v T ∧ wpAny (model X.prog X.w) X.A (getItem v (.ref sl)) (EP X pins σ Q) X.xe s
noncomputable def tSl (r : V → Option Int → Option Int → Hp → VK → Prop) (te : TE) (tl th : TO) : TE := fun σ H Q => te σ H fun x H1 => tl σ H1 fun l H2 => th σ H2 fun u H3 => r x l u H3 Q
/-- a[lo:hi], any a -/
theorem pe_slice (hr : SlR X r) (he : PE X e te) (hl : PO X lo tl) (hu : PO X hi th) : PE X (.Subscript e (.Slice lo hi none p2) pos) (tSl r te tl th) := by
  intro pins s σ H Q I h
  refine Subscript_ (thn (he pins s σ H _ I h) fun v s1 ⟨x, H1, I1, r1, q1⟩ => ?_)
  refine wpAny_Slice (thn (hl pins s1 σ H1 _ I1 q1) fun vl s2 ⟨l, H2, I2, pl, q2⟩ => thn (hu pins s2 σ H2 _ I2 q2) fun vu s3 ⟨u, H3, I3, pu, q3⟩ => ?_)
  rw [evalPart_none]
  refine wpAny_pure ?_
  have I4 : Inv X pins σ H3 { s3 with heap := s3.heap.push { cls := .type "slice", data := .fields #[vl, vu, .none] } } := I3.kept (t' := s3.toks) fun b ob q => Heap.get?_push_of_some _ q
  obtain ⟨T, id, hT, ht, hg⟩ := hr pins { s3 with heap := s3.heap.push { cls := .type "slice", data := .fields #[vl, vu, .none] } } σ H3 x v vl vu l u s3.heap.objs.size Q I4 r1 (Heap.IsSliceOf.new ..) pl pu q3
  show wpAny (model X.prog X.w) X.A (subscriptTail e (.Slice lo hi none p2) v (.ref s3.heap.objs.size)) (EP X pins σ Q) X.xe { s3 with heap := s3.heap.push { cls := .type "slice", data := .fields #[vl, vu, .none] } }
  exact tail_any (ops := [.ref s3.heap.objs.size, v]) ht hT hg (by with_unfolding_all rfl)

/-- the items of xs[lo:hi] -/
noncomputable def cutV (xs : List V) (lo hi : Option Int) : List V := (xs.drop (HT.sIx xs.length 0 lo)).take (HT.sIx xs.length xs.length hi - HT.sIx xs.length 0 lo)
theorem cutV_length (xs : List V) (lo hi : Option Int) : (cutV xs lo hi).length ≤ xs.length := by
  unfold cutV
  rw [List.length_take, List.length_drop]
  omega
/-! ### t < u, t + u -/
end
end L2

namespace L2
open PySem PySem.Spec PyProof.Rows

/-! ### places -/
/-- the place that an index of any sign means -/
noncomputable def ixN (n : Nat) (i : Int) : Option Nat := if 0 ≤ i then (if i < n then some i.toNat else none) else if -(n : Int) ≤ i then some (i + n).toNat else none
noncomputable def atI {α : Type} (xs : List α) (i : Int) : Option α := (ixN xs.length i).bind fun j => xs[j]?
theorem ixN_seq (h : ixN n i = some j) : seqIndex? i n = some j ∧ j < n ∧ -(n : Int) ≤ i ∧ i < n := by
  unfold ixN at h
  by_cases h0 : 0 ≤ i
  · rw [if_pos h0] at h
    by_cases h1 : i < n
    · rw [if_pos h1] at h
      have e : i.toNat = j := Option.some.inj h
      exact ⟨by rw [seqIndex_of h0 h1, e], by omega, by omega, h1⟩
    · rw [if_neg h1] at h; cases h
  · rw [if_neg h0] at h
    by_cases h1 : -(n : Int) ≤ i
    · rw [if_pos h1] at h
      have e : (i + n).toNat = j := Option.some.inj h
      exact ⟨by rw [seqIndex_neg (by omega) h1, e], by omega, h1, by omega⟩
    · rw [if_neg h1] at h; cases h
theorem atI_get {α : Type} {xs : List α} {i : Int} {v : α} (h : atI xs i = some v) : ∃ j, seqIndex? i xs.length = some j ∧ xs[j]? = some v ∧ j < xs.length ∧ -(xs.length : Int) ≤ i ∧ i < xs.length := by
  unfold atI at h
  cases e : ixN xs.length i with
  | none => rw [e] at h; cases h
  | some j =>
    rw [e] at h
    obtain ⟨h1, h2, h3, h4⟩ := ixN_seq e
    exact ⟨j, h1, h, h2, h3, h4⟩
theorem atI_nat {α : Type} {xs : List α} {j : Nat} {v : α} (h : xs[j]? = some v) : atI xs (j : Int) = some v := by
  have hj : j < xs.length := (List.getElem?_eq_some_iff.mp h).1
  have e : ixN xs.length (j : Int) = some j := by
    unfold ixN
    rw [if_pos (by omega), if_pos (by omega)]; simp
  unfold atI; rw [e]; exact h
/-! ### what may be subscripted -/
/-- what stands as an index of a plain subscript -/
noncomputable def PlainIx (b : Expr) : Prop := ∀ o i, subscripted b false o i = operate [o, i] (getItem o i)
/-- a subscript by values -/
noncomputable def IxR (X : Cx) (r : R2) : Prop :=
  ∀ (value slice : Expr) (pins : List (Addr × Obj)) (s : Shared) (σ : St) (H : Hp) (x y : V) (v u : Value) (Q : VK), Inv X pins σ H s → RelV x v → RelV y u → r x y H Q →
    subscripted slice false v u = operate [v, u] (getItem v u) → wpAny (model X.prog X.w) X.A (subscriptTail value slice v u) (EP X pins σ Q) X.xe s
/-- a call of a builtin's method by values: the receiver, the arguments -/
noncomputable def MtR (X : Cx) (id : String) (r : V → List V → Hp → VK → Prop) : Prop :=
  ∀ (pins : List (Addr × Obj)) (s : Shared) (σ : St) (H : Hp) (x : V) (xs : List V) (v : Value) (us : List Value) (Q : VK), Inv X pins σ H s → RelV x v → Vals xs us → r x xs H Q →
    wpAny (model X.prog X.w) X.A (call (.builtin id) (v :: us)) (EP X pins σ Q) X.xe s
section
variable {X : Cx} {a b : Expr} {ta tb : TE} {pos : Pos}
theorem IxR.or (h : IxR X r) (h' : IxR X r') : IxR X (fun x y H Q => r x y H Q ∨ r' x y H Q) := by
  intro value slice pins s σ H x y v u Q I rx ry q hs
  rcases q with q | q
  · exact h value slice pins s σ H x y v u Q I rx ry q hs
  · exact h' value slice pins s σ H x y v u Q I rx ry q hs
/-- a[b] -/
theorem pe_ix (hr : IxR X r) (ha : PE X a ta) (hb : PE X b tb) (hs : PlainIx b) : PE X (.Subscript a b pos) (tOp r ta tb) := by
  intro pins s σ H Q I h
  exact Subscript_ (binT ha hb I h fun v u s2 x y H2 I2 rx ry q => hr a b pins s2 σ H2 x y v u Q I2 rx ry q (hs _ _))

noncomputable def rIxL (K : PySem.W.Frag) : R2 := fun x y H Q => ∃ p xs i v, x = .ref p ∧ y = .int i ∧ SqL K H p xs ∧ atI xs i = some v ∧ Q v H
noncomputable def rIxT (K : PySem.W.Frag) : R2 := fun x y H Q => ∃ p xs i v, x = .ref p ∧ y = .int i ∧ SqT K H p xs ∧ atI xs i = some v ∧ Q v H
noncomputable def rIxS : R2 := fun x y H Q => ∃ z i c, x = .str z ∧ y = .int i ∧ z.length ≤ sizeLine ∧ atI z.cps.toList i = some c ∧ Q (.str ⟨#[c]⟩) H
theorem ix_list : IxR X (rIxL X.K) := by
  intro value slice pins s σ H x y v u Q I rx ry h hs
  obtain ⟨p, xs, i, z, rfl, rfl, hq, he, q⟩ := h
  cases rx
  obtain ⟨t, rfl⟩ := ry
  obtain ⟨its, r, pl, hz⟩ := I.list hq
  obtain ⟨j, h1, h2, h3, h4, h5⟩ := atI_get he
  obtain ⟨w, ew, rw'⟩ := r.get h2
  have hl := r.length
  have hn := line63
  have fin : EP X pins σ Q w s := ⟨z, H, I, rw', q⟩
  by_cases h0 : 0 ≤ i
  · have hj : i.toNat = j := by
      rw [seqIndex_of h0 h5] at h1
      exact Option.some.inj h1
    exact item_listR pl.isList h0 (by omega) (by rw [hj]; simpa using ew) fin hs
  · have hj : (i + (its.toArray.size : Int)).toNat = j := by
      rw [seqIndex_neg (by omega) h4] at h1
      rw [List.size_toArray, ← hl]
      exact Option.some.inj h1
    exact subscriptTail_builtinR (x := w) pl.isList.typeIs slot_list_getitem.lookup
      (wpAny_getItem_list_neg (Q := fun r s' => r = w ∧ EP X pins σ Q r s') pl.isList (by omega) (by rw [List.size_toArray] <;> omega) (by omega) (by rw [hj]; simpa using ew) ⟨rfl, fin⟩) hs
theorem ix_tup : IxR X (rIxT X.K) := by
  intro value slice pins s σ H x y v u Q I rx ry h hs
  obtain ⟨p, xs, i, z, rfl, rfl, hq, he, q⟩ := h
  cases rx
  obtain ⟨t, rfl⟩ := ry
  obtain ⟨its, r, pl, hz⟩ := I.tuple hq
  obtain ⟨j, h1, h2, h3, h4, h5⟩ := atI_get he
  obtain ⟨w, ew, rw'⟩ := r.get h2
  have hl := r.length
  have hn := line63
  have fin : EP X pins σ Q w s := ⟨z, H, I, rw', q⟩
  exact subscriptTail_builtinR (x := w) pl.typeIs slot_tuple_getitem.lookup
    (getItem_tuple (j := j) (Q := fun r s' => r = w ∧ EP X pins σ Q r s') pl (by omega) (by omega) (by rw [List.size_toArray, ← hl]; exact h1) (by simpa using ew) ⟨rfl, fin⟩) hs
theorem ix_str : IxR X rIxS := by
  intro value slice pins s σ H x y v u Q I rx ry h hs
  obtain ⟨z, i, c, rfl, rfl, hz, he, q⟩ := h
  obtain ⟨t, rfl⟩ := rx
  obtain ⟨t', rfl⟩ := ry
  obtain ⟨j, h1, h2, h3, h4, h5⟩ := atI_get he
  have hl : z.cps.toList.length = z.length := by simp [Str.length]
  rw [hl] at h1 h4 h5
  have hn := line63
  exact tail_any (typeIs_str s z t) slot_str_getitem.lookup (getItem_str (c := c) (by
    have e1 : decide (i < -(2 ^ 63 : Int)) = false := decide_eq_false (by omega)
    have e2 : decide (i ≥ 2 ^ 63) = false := decide_eq_false (by omega)
    rw [e1, e2, Bool.or_false]) (by rw [h1]; simpa using h2) ⟨.str ⟨#[c]⟩, H, I.tok _, ⟨_, rfl⟩, q⟩) hs
/-- list, tuple or str -/
noncomputable def rIx (K : PySem.W.Frag) : R2 := fun x y H Q => rIxL K x y H Q ∨ rIxT K x y H Q ∨ rIxS x y H Q
theorem ix_seq : IxR X (rIx X.K) := ix_list.or (ix_tup.or ix_str)

/-! ### xs[i] = v, any sign -/
/-- the list's object behind a store -/
theorem mapSeq_set (its : List Value) (n j : Nat) (u : Value) : Obj.mapSeq (·.setIfInBounds j u) { cls := .type "list", data := .seq its.toArray n } = { cls := .type "list", data := .seq (its.set j u).toArray n } := by
  simp [Obj.mapSeq]
theorem Inv.lst (I : Inv X pins σ H s) (h : H p = some (.lst xs)) :
    ∃ (its : List Value) (n : Nat), Vals xs its ∧ s.heap.get? p = some { cls := .type "list", data := .seq its.toArray n } ∧ xs.length ≤ sizeLine := by
  obtain ⟨z, its, n, r, e⟩ := I.hok p _ h
  exact ⟨its, n, r, e, z⟩
/-- the list at p is written by an update of its object -/
theorem Inv.lstUpd {pins : List (Addr × Obj)} {σ : St} {H : Hp} {s : Shared} {p : Addr} {xs ys : List V} {its its' : List Value} {n n' : Nat} {f : Obj → Obj} (I : Inv X pins σ H s) (h : H p = some (.lst xs))
    (ho : s.heap.get? p = some { cls := .type "list", data := .seq its.toArray n }) (hf : f { cls := .type "list", data := .seq its.toArray n } = { cls := .type "list", data := .seq its'.toArray n' }) (r : Vals ys its') (hz : ys.length ≤ sizeLine) (t : Nat) :
    Inv X pins σ (upd H p (.lst ys)) { s with heap := s.heap.update p f, toks := t } := by
  have e : (s.heap.update p f).get? p = some { cls := .type "list", data := .seq its'.toArray n' } := by
    rw [Heap.get?_update_self f ho (by rw [hf] <;> rfl), hf]
  refine I.write (x := p) (e := p) (by rw [h]; trivial) (.inl rfl) (fun b u hb q => (Heap.get?_update_other _ _ (Ne.symm hb)).trans q) ⟨_, e⟩ ?_
  exact ⟨hz, its', n', r, e⟩
noncomputable def rSetL : V → V → V → Hp → (Hp → Prop) → Prop := fun o i v H Q => ∃ p xs k j, o = .ref p ∧ i = .int k ∧ H p = some (.lst xs) ∧ ixN xs.length k = some j ∧ Q (upd H p (.lst (xs.set j v)))
theorem set_list : PSet X rSetL := by
  intro pins s σ H o i v ov iv u Q I ro ri rv h
  obtain ⟨p, xs, k, j, rfl, rfl, hp, hj, q⟩ := h
  cases ro
  obtain ⟨t, rfl⟩ := ri
  obtain ⟨its, n, r, ho, hz⟩ := I.lst hp
  obtain ⟨h1, h2, h3, h4⟩ := ixN_seq hj
  have hl := r.length
  have hn := line63
  have I' : Inv X pins σ (upd H p (.lst (xs.set j v))) { s with heap := s.heap.update p (Obj.mapSeq (·.setIfInBounds j u)) } :=
    I.lstUpd hp ho (mapSeq_set its n j u) (r.set rv j) (by rw [List.length_set]; exact hz) s.toks
  by_cases h0 : 0 ≤ k
  · have hk : k.toNat = j := by
      rw [seqIndex_of h0 h4] at h1
      exact Option.some.inj h1
    exact PySem.W.ki_setAt ho h0 (by omega) (by rw [List.size_toArray, ← hl]; exact h4) (by rw [hk]; exact ⟨_, I', q⟩)
  · have hk : (k + (its.toArray.size : Int)).toNat = j := by
      rw [seqIndex_neg (by omega) h3] at h1
      rw [List.size_toArray, ← hl]
      exact Option.some.inj h1
    exact PySem.W.ki_setBack ho (by omega) (by rw [List.size_toArray, ← hl]; exact h3) (by omega) (by rw [hk]; exact ⟨_, I', q⟩)

/-! ### slices -/
theorem slice_bounds (lo hi : Option Int) (n : Nat) : (sliceBounds lo hi none n).1 = ((HT.sIx n 0 lo : Nat) : Int) ∧ (sliceBounds lo hi none n).2.1 = ((HT.sIx n n hi : Nat) : Int) ∧ (sliceBounds lo hi none n).2.2 = 1 := by
  refine ⟨?_, ?_, rfl⟩
  · cases lo with
    | none => simp [sliceBounds, HT.sIx]
    | some i =>
      simp only [sliceBounds, HT.sIx, Option.getD_none, show (1 : Int) > 0 by decide, if_true]
      by_cases h : i < 0
      · simp only [h, if_true] <;> omega
      · simp only [h, if_false] <;> omega
  · cases hi with
    | none => simp [sliceBounds, HT.sIx]
    | some i =>
      simp only [sliceBounds, HT.sIx, Option.getD_none, show (1 : Int) > 0 by decide, if_true]
      by_cases h : i < 0
      · simp only [h, if_true] <;> omega
      · simp only [h, if_false] <;> omega
theorem slicePick_cut (its : List Value) (lo hi : Option Int) : slicePick its.toArray lo hi none = ((its.drop (HT.sIx its.length 0 lo)).take (HT.sIx its.length its.length hi - HT.sIx its.length 0 lo)).toArray := by
  obtain ⟨h1, h2, h3⟩ := slice_bounds lo hi its.toArray.size
  unfold slicePick
  rw [h1, h2, h3]
  simp only [sliceRange_one, pick_run, List.size_toArray] <;> rfl
/-- xs[lo:hi] of a list: a new list -/
noncomputable def rSlL (K : PySem.W.Frag) : V → Option Int → Option Int → Hp → VK → Prop := fun x lo hi H Q => ∃ a xs, x = .ref a ∧ SqL K H a xs ∧ ∀ p, H p = none → Q (.ref p) (upd H p (.lst (cutV xs lo hi)))
theorem sl_list : SlR X (rSlL X.K) := by
  intro pins s σ H x v vl vu lo hi sl Q I rx hs pl pu h
  obtain ⟨a, xs, rfl, hx, q⟩ := h
  cases rx
  obtain ⟨its, r, ht, hz⟩ := I.list hx
  have hlen := r.length
  refine ⟨"list", _, slot_list_getitem.lookup, ht.isList.typeIs, ?_⟩
  refine wpAny_getItem_list_slice ht.isList hs pl pu .none (by simp) ?_ (by rw [List.size_toArray] <;> omega)
  rw [slicePick_cut, ← hlen]
  refine ⟨.ref s.heap.objs.size, _, I.laid (t' := s.toks) (o := .lst (cutV xs lo hi)) (fun b ob q => Heap.get?_push_of_some _ q) (Nat.le_refl _) ?_, rfl, q _ (I.hok.fresh (Nat.le_refl _))⟩
  exact ⟨Nat.le_trans (cutV_length xs lo hi) hz, _, 0, (r.drop (HT.sIx xs.length 0 lo)).take (HT.sIx xs.length xs.length hi - HT.sIx xs.length 0 lo), Heap.get?_push_size _ rfl⟩

/-! ### in, not in: flat items -/
/-! ### len, list(x), tuple(x) of any list or tuple that is read -/
theorem call_len_seq : CallR X (.builtin "len") (fun xs H Q => ∃ p ys, xs = [.ref p] ∧ (SqL X.K H p ys ∨ SqT X.K H p ys) ∧ Q (.int ys.length) H) := by
  intro pins s σ H xs us Q I r h
  obtain ⟨p, ys, rfl, hq, q⟩ := h
  obtain ⟨u, rfl, rx⟩ := vals1 r
  cases rx
  have hn := line63
  rcases hq with hq | hq
  · obtain ⟨its, r', pl, hz⟩ := I.list hq
    have hlen := r'.length
    exact Calls.call_len_list pl.isList (by simp only [List.size_toArray] <;> omega) ⟨.int ys.length, H, I.tok _, ⟨s.toks + 1, by rw [List.size_toArray, hlen]⟩, q⟩
  · obtain ⟨its, r', pl, hz⟩ := I.tuple hq
    have hlen := r'.length
    exact len_tuple pl (by simp only [List.size_toArray] <;> omega) ⟨.int ys.length, H, I.tok _, ⟨s.toks + 1, by rw [List.size_toArray, hlen]⟩, q⟩
theorem call_list_of : CallR X (.type "list") (fun xs H Q => ∃ p ys, xs = [.ref p] ∧ (SqL X.K H p ys ∨ SqT X.K H p ys) ∧ ∀ l, H l = none → Q (.ref l) (upd H l (.lst ys))) := by
  intro pins s σ H xs us Q I r h
  obtain ⟨p, ys, rfl, hq, q⟩ := h
  obtain ⟨u, rfl, rx⟩ := vals1 r
  cases rx
  have fin : ∀ (its : List Value), Vals ys its → ys.length ≤ sizeLine → ∀ (h' : Heap) (c' : Nat), (∀ b o', s.heap.get? b = some o' → h'.get? b = some o') →
      h'.get? s.heap.objs.size = some { cls := .type "list", dict := none, data := .seq its.toArray c', slots := #[] } → EP X pins σ Q (.ref s.heap.objs.size) { s with heap := h' } := fun its r' hz h' c' kp e =>
    ⟨.ref s.heap.objs.size, _, I.laid (t' := s.toks) kp (Nat.le_refl _) (show ObjOk X.prog X.w _ h' _ (.lst ys) from ⟨hz, its, c', r', e⟩), rfl, q _ (I.hok.fresh (Nat.le_refl _))⟩
  rcases hq with hq | hq
  · obtain ⟨its, r', pl, hz⟩ := I.list hq
    have hlen := r'.length
    obtain ⟨o, ho, hc, n, hd⟩ := pl.isList
    exact call_list_seq p (.inl rfl) ho hc hd (fun h' c' kp e => fin its r' hz h' c' kp e) (by simp only [List.size_toArray] <;> omega)
  · obtain ⟨its, r', pl, hz⟩ := I.tuple hq
    have hlen := r'.length
    obtain ⟨o, ho, hc, n, hd⟩ := pl
    exact call_list_seq p (.inr rfl) ho hc hd (fun h' c' kp e => fin its r' hz h' c' kp e) (by simp only [List.size_toArray] <;> omega)
/-! ### the call of a builtin's method: o.m(..) -/
/-- the value is of that builtin type -/
noncomputable def tyV (K : PySem.W.Frag) (T : String) (x : V) (H : Hp) : Prop := match x with
  | .str _ => T = "str"
  | .int _ => T = "int"
  | .ref p => (T = "list" ∧ ∃ xs, SqL K H p xs) ∨ (T = "tuple" ∧ ∃ o, K.lookup p = some o ∧ o.cls = .type "tuple" ∧ o.dict = none) ∨
      (T = "dict" ∧ ((∃ kvs, H p = some (.dK kvs)) ∨ ∃ kvs, H p = some (.dT kvs))) ∨ (T = "set" ∧ ∃ S n, H p = some (.set S n))
  | _ => False
theorem tyV_is (I : Inv X pins σ H s) (r : RelV x v) (ty : tyV X.K T x H) :
    s.TypeIs v T ∧ ∀ a, v = .ref a → ∃ ob, s.heap.get? a = some ob ∧ ob.dict = none := by
  cases x with
  | str z =>
    obtain ⟨t, rfl⟩ := r
    cases (show T = "str" from ty)
    exact ⟨typeIs_str s z t, fun _ e => nomatch e⟩
  | int i =>
    obtain ⟨t, rfl⟩ := r
    cases (show T = "int" from ty)
    exact ⟨typeIs_int s i t, fun _ e => nomatch e⟩
  | ref p =>
    cases r
    rcases ty with ⟨rfl, xs, hq⟩ | ⟨rfl, o, hk, hc, hd⟩ | ⟨rfl, hk⟩ | ⟨rfl, S, n, hk⟩
    · obtain ⟨its, _, pl, _⟩ := I.list hq
      refine ⟨pl.isList.typeIs, fun a e => ?_⟩
      cases e
      obtain ⟨o, n, e, c, hd, _⟩ := pl
      exact ⟨o, e, hd⟩
    · refine ⟨⟨o, I.kIn p o hk, hc⟩, fun a e => ?_⟩
      cases e
      exact ⟨o, I.kIn _ o hk, hd⟩
    · have z : ∃ o, s.heap.get? p = some o ∧ o.ExactDict := by
        rcases hk with ⟨kvs, hk⟩ | ⟨kvs, hk⟩
        · obtain ⟨_, _, _, _, o, _, _, e, ex, _⟩ := I.hok p _ hk
          exact ⟨o, e, ex⟩
        · obtain ⟨_, _, _, _, o, _, _, e, ex, _⟩ := I.hok p _ hk
          exact ⟨o, e, ex⟩
      obtain ⟨o, e, ex⟩ := z
      refine ⟨⟨o, e, ex.1⟩, fun a e2 => ?_⟩
      cases e2
      exact ⟨o, e, ex.2.1⟩
    · obtain ⟨o, _, _, _, e, ex, _⟩ := I.hok p _ hk
      refine ⟨⟨o, e, ex.1⟩, fun a e2 => ?_⟩
      cases e2
      exact ⟨o, e, ex.2.1⟩
  | _ => exact False.elim ty
noncomputable def tBM0 (K : PySem.W.Frag) (T : String) (r : V → List V → Hp → VK → Prop) (to : TE) : TE := fun σ H Q => to σ H fun x H1 => tyV K T x H1 ∧ r x [] H1 Q
noncomputable def tBM (K : PySem.W.Frag) (T : String) (r : V → List V → Hp → VK → Prop) (to : TE) (t : TA) : TE := fun σ H Q => to σ H fun x H1 => tyV K T x H1 ∧ t σ H1 fun xs H2 => r x xs H2 Q
variable {o e : Expr} {es : List Expr} {to : TE} {t : TA} {name : Str} {apos cpos : Pos} {T id : String} {r : V → List V → Hp → VK → Prop}
theorem pe_bm0 (pa : PlainAttrs T) (slot : Slot T name id) (hty : typeOf (.builtin id) = pure (.type "method_descriptor")) (hm : MtR X id r) (ho : PE X o to)
    (hbase : attributeBase o name X.env (eval o X.env) = eval o X.env := by rfl) (hline : (apos.endLine == cpos.line) = true := by rfl) : PE X (.Call (.Attribute o name apos) [] [] cpos) (tBM0 X.K T r to) := by
  intro pins s σ H Q I h
  refine wpAny_Call_method0_late hbase hline (thn (ho pins s σ H _ I h) fun v s1 ⟨x, H1, I1, r1, ty, q1⟩ => ?_)
  obtain ⟨h1, h2⟩ := tyV_is I1 r1 ty
  exact ⟨T, id, pa, slot, hty, h1, h2, Calls.callWith_builtin rfl (PySem.evalArgs_none (hm pins s1 σ H1 x [] v [] Q I1 r1 .nil q1))⟩
theorem pe_bm (pa : PlainAttrs T) (slot : Slot T name id) (hty : typeOf (.builtin id) = pure (.type "method_descriptor")) (hm : MtR X id r) (ho : PE X o to) (ha : PA X (e :: es) t)
    (hbase : attributeBase o name X.env (eval o X.env) = eval o X.env := by rfl)
    (hfew : ((backTo cpos (starEach (e :: es) X.env)).all (fun x => !x.1) && (backToKw cpos (keywordEach [] X.env)).all (fun x => x.1.isSome)
      && decide ((e :: es).length + ([] : List Keyword).length + (if ([] : List Keyword).isEmpty then 0 else 1) < 30)) = true := by rfl)
    (hline : (apos.endLine == cpos.line) = true := by rfl) (hs : starEach (e :: es) X.env = (false, eval e X.env) :: starEach es X.env := by rfl) (hplain : (backTo cpos (starEach es X.env)).any (·.1) = false := by rfl) :
    PE X (.Call (.Attribute o name apos) (e :: es) [] cpos) (tBM X.K T r to t) := by
  intro pins s σ H Q I h
  refine wpAny_Call_method_late hbase hfew hline rfl (thn (ho pins s σ H _ I h) fun v s1 ⟨x, H1, I1, r1, ty, q1⟩ => ?_)
  obtain ⟨h1, h2⟩ := tyV_is I1 r1 ty
  refine ⟨T, id, pa, slot, hty, h1, h2, ?_⟩
  have hA := ha cpos pins s1 σ H1 _ I1 q1
  rw [hs] at hA ⊢
  refine Calls.callWith_builtin (by show (false || (backTo cpos (starEach es X.env)).any (·.1)) = false; rw [hplain] <;> rfl) (Calls.evalArgs_plain ?_)
  exact thn hA fun us s2 ⟨vs, H2, I2, r2, q2⟩ => hm pins s2 σ H2 x vs v us Q I2 r1 r2 q2
/- xs.append(e), list.index on a module's tuple .. are MtR facts of 06m -/
end
end L2

namespace L2
open PySem PySem.Spec PyProof.Rows

noncomputable def MtM (X : Cx) (id : String) (r : V → List V → Hp → VK → Prop) : Prop :=
  ∀ (pins : List (Addr × Obj)) (s : Shared) (σ : St) (H : Hp) (x : V) (xs : List V) (v : Value) (us : List Value) (Q : VK), Inv X pins σ H s → RelV x v → Vals xs us → r x xs H Q →
    wpAny (model X.prog X.w) X.A (call (.builtin id) (v :: us)) (EP X pins σ Q) X.xe s

/-! ### lists of values -/
theorem Vals.one : ∀ {x : V} {us : List Value}, Vals [x] us → ∃ u, us = [u] ∧ RelV x u
  | _, _, .cons r .nil => ⟨_, rfl, r⟩
theorem Vals.zero : ∀ {us : List Value}, Vals [] us → us = []
  | _, .nil => rfl
theorem Vals.dropLast (h : Vals xs us) : Vals xs.dropLast us.dropLast := by
  induction h with
  | nil => exact .nil
  | cons r t ih =>
    cases t with
    | nil => exact .nil
    | cons q t' => exact .cons r ih
theorem Vals.rep (h : Vals xs us) : ∀ k : Nat, Vals (List.replicate k xs).flatten (List.replicate k us).flatten
  | 0 => .nil
  | k + 1 => by
    rw [List.replicate_succ, List.replicate_succ, List.flatten_cons, List.flatten_cons]
    exact Vals.append h (Vals.rep h k)
theorem erase_last {α : Type} (l : List α) : l.eraseIdx (l.length - 1) = l.dropLast := by
  induction l with
  | nil => rfl
  | cons a r ih =>
    cases r with
    | nil => rfl
    | cons b r =>
      have e : (a :: b :: r).length - 1 = ((b :: r).length - 1) + 1 := by
        have h1 : (a :: b :: r).length = r.length + 2 := rfl
        have h2 : (b :: r).length = r.length + 1 := rfl
        omega
      rw [e, List.eraseIdx_cons_succ, ih]
      all_goals rfl
theorem foldl_rep (its : List Value) : ∀ (k : Nat) (acc : List Value),
    List.foldl (fun x1 x2 => x1 ++ x2) acc.toArray (List.replicate k its.toArray) = (acc ++ (List.replicate k its).flatten).toArray
  | 0, acc => by simp
  | k + 1, acc => by
    have e : acc.toArray ++ its.toArray = (acc ++ its).toArray := by simp
    have e2 : (acc ++ its) ++ (List.replicate k its).flatten = acc ++ (List.replicate (k + 1) its).flatten := by
      rw [List.replicate_succ, List.flatten_cons, List.append_assoc]
    rw [← e2, ← foldl_rep its k (acc ++ its), ← e, List.replicate_succ, List.foldl_cons]

section
variable {X : Cx} {pins : List (Addr × Obj)} {σ : St} {H : Hp} {s : Shared} {l b : Addr} {xs ys zs : List V}

/-! ### the two steps: a tracked list is rewritten, a new list is laid -/
theorem Inv.lset {its its' : List Value} {n : Nat} {f : Array Value → Array Value} {t' : Nat} (I : Inv X pins σ H s) (hH : H l = some (.lst xs))
    (e : s.heap.get? l = some { cls := .type "list", data := .seq its.toArray n }) (hf : f its.toArray = its'.toArray) (hv : Vals ys its') (hz : ys.length ≤ sizeLine) :
    Inv X pins σ (upd H l (.lst ys)) { s with heap := s.heap.update l (Obj.mapSeq f), toks := t' } := by
  have q := PySem.IsL.update e f
  rw [hf] at q
  refine I.write (x := l) (e := l) (by rw [hH]; exact trivial) (.inl rfl) (fun b' u hb hu => (Heap.get?_update_other s.heap (Obj.mapSeq f) (Ne.symm hb)).trans hu) ⟨_, q⟩ ?_
  exact ⟨hz, its', _, hv, q⟩
theorem Inv.lnew (I : Inv X pins σ H s) (hv : Vals ys its) (hz : ys.length ≤ sizeLine) :
    Inv X pins σ (upd H s.heap.objs.size (.lst ys)) { s with heap := s.heap.push { cls := .type "list", data := .seq its.toArray }, toks := t' } :=
  I.laid (fun _ _ q => Heap.get?_push_of_some _ q) (Nat.le_refl _) ⟨hz, its, 0, hv, Heap.get?_push_size _ rfl⟩
theorem Inv.fresh (I : Inv X pins σ H s) : H s.heap.objs.size = none := I.hok.fresh (Nat.le_refl _)
theorem Inv.lstM (I : Inv X pins σ H s) (hH : H l = some (.lst xs)) : xs.length ≤ sizeLine ∧ ∃ (its : List Value) (n : Nat), Vals xs its ∧ xs.length = its.length ∧ s.heap.get? l = some { cls := .type "list", data := .seq its.toArray n } := by
  obtain ⟨z, its, n, r, e⟩ := I.hok l _ hH
  exact ⟨z, its, n, r, r.length, e⟩

theorem notLongL (h : n ≤ sizeLine) : Builtin.List.listTooLong n = false := by
  unfold Builtin.List.listTooLong
  exact decide_eq_false (by omega)
end

section
variable {X : Cx}

/-! ### methods -/
noncomputable def rAppend : V → List V → Hp → VK → Prop := fun x vs H Q => ∃ l xs y, x = .ref l ∧ vs = [y] ∧ H l = some (.lst xs) ∧ xs.length < sizeLine ∧ Q .non (upd H l (.lst (xs ++ [y])))
theorem mt_append : MtM X "list.append" rAppend := by
  intro pins s σ H x vs v us Q I rx rv h
  obtain ⟨l, xs, y, rfl, rfl, hH, hz, q⟩ := h
  cases rx
  obtain ⟨u, rfl, ru⟩ := rv.one
  obtain ⟨z, its, n, r, hl, e⟩ := I.lstM hH
  refine call_meets F.slot_list_append ⟨_, e, rfl⟩ F.entry_list_append (F.args_list_append_2 _ _) (PySem.list_append l its.toArray n u (by rw [List.size_toArray]; omega)) ⟨e, ?_⟩
  refine ⟨.non, _, I.lset (its' := its ++ [u]) hH e (by simp) (r.append (.cons ru .nil)) ?_, rfl, q⟩
  rw [List.length_append, List.length_singleton]
  omega

noncomputable def rPop : V → List V → Hp → VK → Prop := fun x vs H Q => ∃ l xs y, x = .ref l ∧ vs = [] ∧ H l = some (.lst xs) ∧ xs[xs.length - 1]? = some y ∧ Q y (upd H l (.lst xs.dropLast))
theorem mt_pop : MtM X "list.pop" rPop := by
  intro pins s σ H x vs v us Q I rx rv h
  obtain ⟨l, xs, y, rfl, rfl, hH, hy, q⟩ := h
  cases rx
  have hus := rv.zero
  subst hus
  obtain ⟨z, its, n, r, hl, e⟩ := I.lstM hH
  obtain ⟨u, hu, ru⟩ := r.get hy
  have hy' : its.toArray[its.toArray.size - 1]? = some u := by
    show its.toArray[its.length - 1]? = some u
    rw [← Array.getElem?_toList, ← hl]
    exact hu
  refine call_meets F.slot_list_pop ⟨_, e, rfl⟩ F.entry_list_pop (F.args_list_pop_1 _) (MeetsSeq.list_pop_last l its.toArray n u hy' (by rw [List.size_toArray]; omega)) ⟨e, ?_⟩
  refine ⟨y, _, I.lset (its' := its.dropLast) hH e ?_ r.dropLast ?_, ru, q⟩
  · show its.toArray.eraseIdxIfInBounds (its.toArray.size - 1) = its.dropLast.toArray
    rw [List.size_toArray, List.eraseIdxIfInBounds_toArray, erase_last]
  · rw [List.length_dropLast]
    omega

/-! ### list + list, list += list, list * int -/
/-- a list times an int (a negative one is nothing) -/
noncomputable def rRep : R2 := fun x y H Q => ∃ l k xs, x = .ref l ∧ y = .int k ∧ H l = some (.lst xs) ∧ -(2 ^ 63) ≤ k ∧ k < 2 ^ 63 ∧ xs.length * k.toNat ≤ sizeLine ∧
  ∀ p, H p = none → Q (.ref p) (upd H p (.lst (List.replicate k.toNat xs).flatten))
theorem len_rep {α : Type} (xs : List α) (k : Nat) : (List.replicate k xs).flatten.length = k * xs.length := by
  induction k with
  | zero => simp
  | succ k ih => rw [List.replicate_succ, List.flatten_cons, List.length_append, ih, Nat.succ_mul, Nat.add_comm]
theorem op_rep : OpR X (binaryOp .Mult) rRep := by
  intro pins s σ H x y v u Q I rx ry h
  obtain ⟨l, k, xs, rfl, rfl, hH, h1, h2, hz, q⟩ := h
  cases rx
  obtain ⟨t, rfl⟩ := ry
  obtain ⟨z, its, n, r, hl, e⟩ := I.lstM hH
  have hlen : its.toArray.size * k.toNat ≤ sizeLine := by rw [List.size_toArray, ← hl]; exact hz
  have hcap : ¬ its.toArray.size * k.toNat > (2 ^ 63 - 1) / 8 := by
    have : (sizeLine : Nat) ≤ (2 ^ 63 - 1) / 8 := by decide
    omega
  have hfit : ¬ (!Builtin.List.listFitsIndex k) = true := by
    rw [fitsIndex_both h1 h2]
    exact Bool.false_ne_true
  have hlong : ¬ Builtin.List.listTooLong (its.toArray.size * k.toNat) = true := by
    rw [notLongL hlen]
    exact Bool.false_ne_true
  have hnew : List.foldl (fun x1 x2 => x1 ++ x2) #[] (List.replicate (if its.toArray.isEmpty = true then 0 else k.toNat) its.toArray) = (List.replicate k.toNat its).flatten.toArray := by
    have f0 : ∀ m : Nat, List.foldl (fun x1 x2 => x1 ++ x2) #[] (List.replicate m its.toArray) = (List.replicate m its).flatten.toArray := fun m => by
      have := foldl_rep its m []
      rw [List.nil_append] at this
      exact this
    rw [f0]
    cases its with
    | nil => simp
    | cons a r' => rw [if_neg (by simp)]
  refine wpAny_binaryOp_repeat_ref (T := "list") (U := "int") (by decide) ⟨_, e, rfl⟩ (fun s' => typeIs_int s' k t) noFill_list_mul F.fills_int_mul F.slot_int_rmul repeat_list F.slot_int_index.lookup
    (call_meets F.slot_int_rmul (typeIs_int s k t) F.entry_int_rmul (F.args_int_rmul_2 _ _) (int___rmul___int_list k t l its.toArray n)
      ⟨e, rfl, ⟨_, e, rfl⟩, call_meets F.slot_list_mul ⟨_, e, rfl⟩ F.entry_list_mul (F.args_list_mul_2 _ _) (AutoListH.list___mul___list_int_3 l its.toArray n k t hfit hcap hlong) ⟨e, ?_⟩⟩)
  rw [hnew]
  exact ⟨.ref _, _, I.lnew (t' := s.toks) (r.rep k.toNat) (by rw [len_rep, Nat.mul_comm]; exact hz), rfl, q _ I.fresh⟩

/-! ### del xs[i] -/
end

/-! ### xs[a:b] = ys -/
section
variable {prog : Program} {w : World} {A : Around} {E : Value → Shared → Prop} {s : Shared}
end

section
variable {X : Cx}
end
end L2

namespace Att
open PySem PySem.W PySem.Calls PyProof.Rows

/-! ### the script -/
theorem ints_of_wellAll : ∀ (ns : List Int) (vs : List Value), WellAll P h vs (ns.map WData.int) → IntsAre vs ns := by
  intro ns
  induction ns with
  | nil =>
    intro vs w
    rw [List.map_nil] at w
    cases w
    exact .nil
  | cons n ns ih =>
    intro vs w
    rw [List.map_cons] at w
    cases w with
    | cons a b =>
      cases a
      exact .cons _ _ (ih _ b)

theorem script_of {l : OpenLaw} {n : Nat} (hn : l.most = some n) {P : Params} {args : List WData}
    (hpre : l.row.toRowW.claim.pre args = true) (hwl : WellAll P h vals args) :
    ∃ a vs ns, vals = [Value.ref a] ∧ args = [WData.list (ns.map WData.int)] ∧ h.get? a = some { cls := .type "list", data := .seq vs.toArray } ∧ IntsAre vs ns ∧ ns.length ≤ n := by
  have hsh : WShape.hasAll [] args [.list .int] = true := (pre_splitW hpre).1
  have hc : l.pre.holds [] { args := args } = true := (pre_splitW hpre).2
  obtain ⟨d, r, rfl, h1, h2⟩ := hasAllW_cons hsh
  obtain rfl := hasAllW_nil h2
  obtain ⟨xs, rfl, h3⟩ := hasW_list h1
  obtain ⟨ns, rfl⟩ := items_int h3
  have hlen : ns.length ≤ n := by
    unfold OpenLaw.pre at hc
    have h4 : (WTm.not (.lt (.lit (.int (n : Int))) (.len (.arg 0)))).holds [] { args := [.list (ns.map .int)] } = true := by
      have h4 := (holds_andW hc).1
      rw [hn] at h4
      exact h4
    have h5 := condW_of h4 (w_not (w_lt w_lit (w_len_list (w_arg rfl))))
    rw [List.length_map] at h5
    refine Nat.le_of_not_lt fun q => ?_
    have q' : (n : Int) < ((ns.length : Nat) : Int) := by omega
    first
      | (rw [decide_eq_true q'] at h5; exact absurd h5 (by decide))
      | (simp at h5; omega)
  cases hwl with
  | cons w1 w2 =>
    cases w2
    cases w1 with
    | list ho hall => exact ⟨_, _, ns, rfl, rfl, ho, ints_of_wellAll ns _ hall, hlen⟩

theorem post_true (l : OpenLaw) (args : List WData) : l.row.toRowW.claim.post args (.bool true) args = true :=
  postW_of (r := l.row.toRowW) (X := (true == true))
    (show WShape.has [] (.bool true) .bool = true by first | rfl | decide | simp [WShape.has, WShape.arms, WShape.armsAll])
    (show (WTm.eq .res (.lit (.bool true))).value [] { args := args, res := some (.bool true), after := args } = some (.bool (true == true)) from w_eq_bool (w_res rfl) w_lit) rfl

/-! ### the attachment: holds_open's last premise (the goal 'hc' behind k_head) from a wpAny of the law's body -/
/-! ### rules over ANY heap (no ledger) from facts about the written part K: the library's own take a ledger (News) for what they write -/
section
variable {prog : Program} {w : World} {A : Around} {E : Value → Shared → Prop} {s : Shared} {K : Frag}

/-! the whole heap as the ledger: makes every rule that writes through a ledger a rule over any heap -/
noncomputable def ledger (h : Heap) (L d : Addr) : List (Addr × Obj) := (List.range h.objs.size).filterMap fun a => if a = L ∨ a = d then none else (h.get? a).map fun o => (a, o)
end
end Att

namespace L2
open PySem PySem.Spec PyProof.Rows

theorem vals_ints : ∀ {vs : List Value} {ns : List Int}, IntsAre vs ns → Vals (ns.map V.int) vs
  | _, _, .nil => .nil
  | _, _, .cons n t h => .cons ⟨t, rfl⟩ (vals_ints h)

/-- nothing is tracked but the script and the tables of those that make lambdas -/
noncomputable def tabsH (K : PySem.W.Frag) : Hp := fun b => match (lamsIn K).find? fun x => x.2.1 == b with
  | some x => some (.tbl ⟨x.2.2, #[]⟩)
  | none => none
theorem tabsH_of {K : PySem.W.Frag} {b : Addr} {o : HO} (h : tabsH K b = some o) : ∃ x ∈ lamsIn K, x.2.1 = b ∧ o = .tbl ⟨x.2.2, #[]⟩ := by
  unfold tabsH at h
  split at h
  · rename_i x e
    exact ⟨x, List.mem_of_find?_eq_some e, by simpa using List.find?_some e, (Option.some.inj h).symm⟩
  · cases h
/-- what is asked of the tables at the first -/
structure LamOk (K : PySem.W.Frag) (h : Heap) : Prop where
  e : ∀ x ∈ lamsIn K, h.get? x.2.1 = some (PySem.W.tabObj #[])
  n : ∀ x ∈ lamsIn K, K.lookup x.2.1 = none
  u : ∀ x ∈ lamsIn K, ∀ y ∈ lamsIn K, x.2.1 = y.2.1 → x.2.2 = y.2.2
theorem lamsIn_hd {K : PySem.W.Frag} {x : Addr × Addr × Str} (h : x ∈ lamsIn K) : PySem.W.codeHdIn K x.1 x.2.1 = true := by
  obtain ⟨y, _, e⟩ := List.mem_filterMap.mp h
  repeat' split at e
  all_goals first
    | (cases e; assumption)
    | cases e
theorem tabsH_at {K : PySem.W.Frag} {h : Heap} (L : LamOk K h) {x : Addr × Addr × Str} (hx : x ∈ lamsIn K) : tabsH K x.2.1 = some (.tbl ⟨x.2.2, #[]⟩) := by
  unfold tabsH
  split
  · rename_i y e
    have e1 : y.2.1 = x.2.1 := by simpa using List.find?_some e
    rw [L.u y (List.mem_of_find?_eq_some e) x hx e1]
  · rename_i e
    have := List.find?_eq_none.mp e x hx
    simp at this
theorem law_call {P : Program} {w : World} {K : PySem.W.Frag} {mg mb : Str → Option Value} {CX : CXT} {k : Nat} {fa a : Addr} {fd : FuncData} {x : Str} {sp : Sp} {s₁ : Shared} {vs : List Value} {ns : List Int}
    (KX : K.In s₁.heap) (hns : s₁.heap.Ns mainGlobals mg) (hb : s₁.heap.Ns builtinsNs mb) (hbb : ∀ x : Str, x ≠ "__name__" → mb x = bootBuiltins x) (hlim : s₁.heap.NoLimit) (hg : s₁.gens = #[])
    (ha : s₁.heap.get? a = some { cls := .type "list", data := .seq vs.toArray }) (hi : IntsAre vs ns) (hl : ns.length ≤ sizeLine) (hr : Room k callerA) (LO : LamOk K s₁.heap) (BM : BltM mg s₁.heap)
    (F : ∀ base : Heap, K.In base → base.Ns mainGlobals mg → FnOk P w K mg base CX k fa fd [x] sp) (hbind : ∀ (s : Shared) (u : Value), BindsTo s fd ⟨[u], []⟩ [(x, u)])
    (hsp : ∀ H : Hp, SqL K H a (ns.map V.int) → sp [.ref a] H (fun v _ => v = .bl true) fun _ _ _ => False)
    (hCX : ∀ H e s', CX [] H s₁ (fun _ _ _ => False) e s' → False) :
    codeAny (model P w) callerA (.call (.ref fa) ⟨[.ref a], []⟩) (fun r s' => r = .ok (.ret (.bool true)) ∧ OldK s₁.heap s'.heap ∧ s'.os = s₁.os ∧ AllBare s'.gens) s₁ := by
  have rv := vals_ints hi
  have lenV := hi.length
  have nat : ∀ {b : Addr} {o : HO}, tabsH K b = some o → b ≠ a := fun {b o} h z => by
    obtain ⟨x, hx, e, _⟩ := tabsH_of h
    have := LO.e x hx
    rw [e, z, ha] at this
    cases this
  have core : ∀ H : Hp, (∀ b, b ≠ a → H b = tabsH K b) → SqL K H a (ns.map V.int) → HOk P w H s₁.heap → (H a ≠ none → K.lookup a = none ∧ ∃ o xs, H a = some (.frz o (.lst xs))) →
      codeAny (model P w) callerA (.call (.ref fa) ⟨[.ref a], []⟩) (fun r s' => r = .ok (.ret (.bool true)) ∧ OldK s₁.heap s'.heap ∧ s'.os = s₁.os ∧ AllBare s'.gens) s₁ := by
    intro H hT hS hok hK
    have base_of : ∀ {b : Addr} {o : Obj}, s₁.heap.get? b = some o → H b = none → (hidT s₁.heap H).get? b = some o := fun e n => hidT_get e n
    have noA : ∀ {b : Addr} {o : Obj} {es : Array DictEntry} {ep : Nat}, s₁.heap.get? b = some o → o.data = .dict es ep → H b = none := fun {b o es ep} e d => by
      by_cases hba : b = a
      · subst hba
        rw [ha] at e; cases e
        have d' : Data.seq vs.toArray _ = Data.dict es ep := d
        cases d'
      · rw [hT b hba]
        cases q : tabsH K b with
        | none => rfl
        | some u =>
          obtain ⟨x, hx, e1, _⟩ := tabsH_of q
          have := LO.e x hx
          rw [e1, e] at this
          cases this
          cases d
    have noB : ∀ {b : Addr} {o : Obj}, s₁.heap.get? b = some o → o.cls = .type "module" → H b = none := fun {b o} e d => by
      by_cases hba : b = a
      · subst hba
        rw [ha] at e; cases e
        injection d with z
        exact absurd z (by decide)
      · rw [hT b hba]
        cases q : tabsH K b with
        | none => rfl
        | some u =>
          obtain ⟨x, hx, e1, _⟩ := tabsH_of q
          have := LO.e x hx
          rw [e1, e] at this
          cases this
          cases d
    have nsK : ∀ {b : Addr} {m : Str → Option Value}, s₁.heap.Ns b m → (hidT s₁.heap H).Ns b m := fun {b m} ⟨o, es, ep, e, d, r⟩ => ⟨o, es, ep, base_of e (noA e d), d, r⟩
    have hKb : K.In (hidT s₁.heap H) := fun b o e => base_of (KX b o e) (by
      by_cases hba : b = a
      · subst hba
        cases q : H b with
        | none => rfl
        | some u =>
          rw [(hK (by rw [q]; simp)).1] at e; cases e
      · rw [hT b hba]
        cases q : tabsH K b with
        | none => rfl
        | some u =>
          obtain ⟨x, hx, e1, _⟩ := tabsH_of q
          have := LO.n x hx
          rw [e1, e] at this
          cases this)
    have hM : Mod K mg (hidT s₁.heap H) := ⟨hKb, nsK hns, ⟨mb, nsK hb, hbb⟩, let ⟨mc, h1, h2⟩ := hlim; ⟨mc, nsK h1, h2⟩, let ⟨bm, ob, b1, b2, b3, b4, b5⟩ := BM; ⟨bm, ob, b1, b2, base_of b3 (noB b3 b4), b4, b5⟩⟩
    have e0 : Env0 P w K mg (hidT s₁.heap H) callerA [] s₁ H := ⟨rfl, hM, fun b o e => of_hidT e, Nat.le_of_eq (hidT_size _ _), trivial, ⟨fun b hb => absurd (show b ∈ ([] : List Addr) from hb) (by simp), fun x hx => ⟨#[], by rw [hT _ (nat (tabsH_at LO hx))]; exact tabsH_at LO hx⟩⟩, hok, .of_eq hg⟩
    refine codeAny_mono ((F _ hKb (nsK hns)).run callerA [] s₁ H ⟨[.ref a], []⟩ [.ref a] [.ref a] _ _ hr e0 (hbind s₁ (.ref a)) (.cons rfl .nil) (hsp H hS)) fun r s' h => ?_
    cases r with
    | error e => exact (hCX H e s' h).elim
    | ok fl =>
      cases fl with
      | next => exact False.elim h
      | brk => exact False.elim h
      | cont => exact False.elim h
      | ret u =>
        obtain ⟨v, H', os, bare, un, hok', r', q⟩ := h
        have q' : v = .bl true := q
        subst q'
        obtain rfl : u = Value.bool true := r'
        have all : ∀ b o, s₁.heap.get? b = some o → s'.heap.get? b = some o ∨ ∃ x ∈ lamsIn K, x.2.1 = b ∧ o = PySem.W.tabObj #[] ∧ ∃ more, s'.heap.get? b = some (PySem.W.tabObj (#[] ++ more)) := fun b o e => by
          by_cases hba : b = a
          · subst hba
            cases q : H b with
            | none => exact .inl (un.keep b o e q (by intro z; exact absurd (show b ∈ ([] : List Addr) from z) (by simp)) (by simp))
            | some u =>
              obtain ⟨_, ob, xs, z⟩ := hK (by rw [q]; simp)
              have z2 := un.frzs b ob _ z
              obtain ⟨e1, _⟩ := hok b _ z
              obtain ⟨e2, _⟩ := hok' b _ z2
              rw [e] at e1; cases e1
              exact .inl e2
          · cases q : tabsH K b with
            | none => exact .inl (un.keep b o e (by rw [hT b hba]; exact q) (by intro z; exact absurd (show b ∈ ([] : List Addr) from z) (by simp)) (by simp))
            | some u =>
              obtain ⟨x, hx, e1, rfl⟩ := tabsH_of q
              obtain ⟨more, e2⟩ := un.tbls b _ (by rw [hT b hba]; exact q)
              obtain ⟨e3, _⟩ := hok' b _ e2
              have e4 := LO.e x hx
              rw [e1, e] at e4
              exact .inr ⟨x, hx, e1, Option.some.inj e4, more, e3⟩
        refine ⟨rfl, ⟨fun b o e => ?_, fun b o e => ?_⟩, os, bare⟩
        · rcases all b o e with z | ⟨x, hx, e1, rfl, more, e2⟩
          · exact .inl z
          · have C : PySem.W.CodeHd s₁.heap x.1 x.2.1 := PySem.W.codeHd_of_K KX (lamsIn_hd hx)
            exact .inr (.inl ⟨e1 ▸ (C.tab (LO.e x hx)).isCodeTable, rfl, #[], more, rfl, e2⟩)
        · rcases all b o e with z | ⟨x, hx, e1, rfl, more, e2⟩
          · exact ⟨_, z⟩
          · exact ⟨_, e2⟩
  have tabOk : ∀ (H : Hp) b u, tabsH K b = some u → ObjOk P w H s₁.heap b u := fun H b u q => by
    obtain ⟨x, hx, e1, rfl⟩ := tabsH_of q
    have e4 := LO.e x hx
    rw [e1] at e4
    exact ⟨e4, trivial, fun p cv hc => by cases hc⟩
  cases hk : K.lookup a with
  | some o =>
    have e := KX a o hk
    rw [ha] at e
    cases e
    refine core (tabsH K) (fun _ _ => rfl) (.inr ⟨_, vs.toArray, _, hk, rfl, rfl, rfl, by rw [List.size_toArray, lenV]; exact hl, by simpa using rv⟩) (fun b u z => tabOk _ b u z) fun z => ?_
    cases q : tabsH K a with
    | none => exact absurd q z
    | some u => exact absurd rfl (nat q)
  | none =>
    refine core (fun b => if b = a then some (.frz { cls := .type "list", data := .seq vs.toArray } (.lst (ns.map V.int))) else tabsH K b) (fun b hb => if_neg hb) (.inl (.inr ⟨{ cls := .type "list", data := .seq vs.toArray }, if_pos rfl⟩)) (fun b u z => ?_) fun _ => ⟨hk, _, _, if_pos rfl⟩
    by_cases hb : b = a
    · have z' := (if_pos hb).symm.trans z
      cases z'
      subst hb
      exact ⟨ha, by rw [List.length_map]; exact hl, vs, _, rv, ha⟩
    · exact tabOk _ b u ((if_neg hb).symm.trans z)
end L2

namespace L2
open PySem PySem.Spec PyProof.Rows

noncomputable abbrev KOf {K : PySem.W.Frag} {h : Heap} (_ : K.In h) : PySem.W.Frag := K

end L2

/- THE LAST THEOREM (shape; LID, My.* are yours):
   My.Adr: a structure of the addresses that your layer names (classes, functions); My.Txt K t: a structure (Prop) of the equations over K;
   My.txt_mk : {K} {implicit addresses ..} (e1 : nsIn K mainGlobals "law" = some (some (.ref f))) (e2 : K.lookup f = some ⟨oc, od, .func (fnOf "law" "law" params body scope dV kV doc pm an cdv ct), sl⟩) (e3 : codeIn K cdv "law" = true) .. : ∃ t, My.Txt K t

set_option maxRecDepth 100000 in
set_option maxHeartbeats 0 in
theorem PySem.Challenge.cw_LID_holds : PySem.Challenge.rw_LID.Holds := by
  w_on; o_law; k_head; (case hw => w_witness2)
  k_fill
  refine L2.walk_of (l := PySem.Challenge.rw_LID) (n := 63) (k := 40) (x := "script") (CX := fun w => ..) (sp := fun _ => My.sp_law) rfl (by decide) rfl ⟨rfl, by decide, by decide⟩ (fun w h Y => PySem.W.kIn_of Y) ?F ?S ?C
  case F =>
    intro w mg fa h KX G hmg
    have T : ∃ t, My.Txt (L2.KOf KX) t := by
      dsimp only [L2.KOf]                          -- K must stand as «<heap const> w.params» for k_is
      refine' My.txt_mk ?e1 ?e2 ?e3 ..
      (case e1 => PySem.W.k_is)                    -- in the order: a name -> its address -> its object -> its parts
      (case e2 => PySem.W.k_is)
      ..
    obtain ⟨t, T⟩ := T
    have e0 := hmg.symm.trans (PySem.W.mg_of KX G T.law)
    cases e0                                       -- fa is the law's own address
    exact ⟨_, fun s u => .of_eq rfl, fun base kb nb => My.law_fn T kb nb⟩     -- if «.of_eq rfl» comes too early: refine' ⟨_, ?b, fun base kb nb => My.law_fn T kb nb⟩; exact fun s u => .of_eq rfl
  case S => exact fun w H a ns hl hO hS => ..
  case C => exact ..
(the tactic k_is has no namespace: write k_is) -/

/-! SHORT WORDS over the layer: a def of the text, its body, what a loop and a test want. -/
namespace L2
open PySem PySem.Spec PyProof.Rows

/-! ### the text by places -/
/-- the j-th statement of a class's body -/
noncomputable def inClass (s : Stmt) (j : Nat) : Stmt := match s with
  | .ClassDef _ _ _ body _ _ _ _ _ _ _ => body.getD j (.Pass ⟨0, 0, 0, 0⟩)
  | _ => .Pass ⟨0, 0, 0, 0⟩
noncomputable def defArgs (s : Stmt) : Arguments := match s with
  | .FunctionDef _ a _ _ _ _ _ _ _ _ => a
  | _ => { posonlyargs := [], args := [], vararg := none, kwonlyargs := [], kw_defaults := [], kwarg := none, defaults := [] }
noncomputable def defBody (s : Stmt) : List Stmt := match s with
  | .FunctionDef _ _ b _ _ _ _ _ _ _ => b
  | _ => []
noncomputable def defScope (s : Stmt) : Scope := match s with
  | .FunctionDef _ _ _ _ _ _ sc _ _ _ => sc
  | _ => { kind := .function, names := [], isGenerator := false, isCoroutine := false }

/-! ### no exception leaves a def -/
noncomputable abbrev CX0 : CXT := fun _ _ _ _ _ _ => False
noncomputable abbrev E0 : XK := fun _ _ _ => False
theorem pass0 : Passes CX0 X E0 := fun _ _ _ _ _ _ _ h => h.elim

/-! ### a def (or method) of the text as it stands behind the top -/
structure Fun (K : PySem.W.Frag) (x qual : Str) (st : Stmt) (f : Addr) (fd : FuncData) : Prop where
  ex : ∃ (oc : Value) (od : Option Addr) (kV doc pm : Value) (an : Option Addr) (cdv ct : Value) (osl : Array (Option Value)),
    fd = PySem.W.fnOf x qual (defArgs st) (defBody st) (defScope st) .none kV doc pm an cdv ct ∧ K.lookup f = some ⟨oc, od, .func fd, osl⟩ ∧ PySem.W.codeIn K cdv qual = true
  kp : PySem.W.keepIn K (.ref f) = true
section
variable {P : Program} {w : World} {K : PySem.W.Frag} {mg : Str → Option Value} {base : Heap}
/-- THE RULE for a def: its body as a term of rules, and the reading of that term -/
theorem Fun.ok {x qual : Str} {st : Stmt} {f : Addr} {fd : FuncData} {N ps : List Str} {k : Nat} {sp : Sp} (F : Fun K x qual st f fd) (S : FnScope N ps (defScope st)) (len : ∀ vs H Q E, sp vs H Q E → vs.length = ps.length)
    (hbody : ∀ (cdv : Value) (A : Around) (outer : List Env) (s : Shared) (H : Hp) (vs : List V) (Q : VK) (E : XK), Room k (A.deeper (envOfC qual (defScope st) s.heap.objs.size f cdv)) → sp vs H Q E →
      ∃ t, PSs (cxOf CX0 P w K mg base N qual (defScope st) f cdv A outer s H E).nox (defBody st) t ∧ t { nx := fun _ H' => Q .non H', rt := Q } (start N vs) H) : FnOk P w K mg base CX0 (k + 1) f fd ps sp := by
  obtain ⟨oc, od, kV, doc, pm, an, cdv, ct, osl, rfl, lk, hcd⟩ := F.ex
  refine fn_of lk hcd S len fun A outer s H vs Q E hr hsp => ?_
  obtain ⟨t, h, q⟩ := hbody cdv A outer s H vs Q E hr hsp
  exact ⟨t, h.nox, q⟩
/-- how its arguments bind (no defaults): h is «fun _ _ _ _ _ _ us hl => match us, hl with | [_, _], _ => rfl», one _ a parameter -/
theorem Fun.binds {x qual : Str} {st : Stmt} {f : Addr} {fd : FuncData} {ps : List Str} (F : Fun K x qual st f fd)
    (h : ∀ (kV doc pm : Value) (an : Option Addr) (cdv ct : Value) (us : List Value), us.length = ps.length → bindArgs (PySem.W.fnOf x qual (defArgs st) (defBody st) (defScope st) .none kV doc pm an cdv ct) ⟨us, []⟩ = pure (ps.zip us)) : Binds K fd ps [] := by
  obtain ⟨oc, od, kV, doc, pm, an, cdv, ct, osl, rfl, lk, hcd⟩ := F.ex
  exact .all (h kV doc pm an cdv ct)
theorem fun_mk {x qual : Str} {st : Stmt} {f : Addr} {oc : Value} {od an : Option Addr} {osl : Array (Option Value)} {kV doc pm cdv ct : Value} (l : K.lookup f = some ⟨oc, od, .func (PySem.W.fnOf x qual (defArgs st) (defBody st) (defScope st) .none kV doc pm an cdv ct), osl⟩)
    (c : PySem.W.codeIn K cdv qual = true) (k : PySem.W.keepIn K (.ref f) = true) : Fun K x qual st f (PySem.W.fnOf x qual (defArgs st) (defBody st) (defScope st) .none kV doc pm an cdv ct) := ⟨⟨oc, od, kV, doc, pm, an, cdv, ct, osl, rfl, l, c⟩, k⟩
end
theorem small1000 (h : n ≤ 1000) : n < sizeLine := Nat.lt_of_le_of_lt h (by decide)

/-! ### expressions in short: the name that stands in the i-th slot -/
section
variable {X : Cx}
theorem pv (i : Nat) (hN : X.N[i]? = some x := by rfl) (hv : Vis X.env.scope x := by first | exact Or.inl rfl | exact Or.inr (Or.inl rfl) | exact Or.inr (Or.inr rfl)) (hd : (x == ("__debug__" : Str)) = false := by decide)
    (hcd : (x == ("__classdict__" : Str)) = false := by decide) : PE X (.Name x pos) (tVar i) := pe_var hN hv hd hcd
end

/-! ### tests -/
theorem iteF {A B : Prop} (h : B) : if false = true then A else B := by
  rw [if_neg Bool.false_ne_true]
  exact h
theorem iteT {A B : Prop} (h : A) : if true = true then A else B := by
  rw [if_pos rfl]
  exact h
/-! ### heaps -/
/-- all that was tracked is as it was -/
noncomputable def Nx (x : Option HO) : HO → Prop
  | .tbl t => ∃ ps, x = some (.tbl ⟨t.q, ps⟩)
  | o => x = some o
noncomputable def Same (H H' : Hp) : Prop := ∀ b o, H b = some o → Nx (H' b) o
theorem Nx.of (h : x = some o) : Nx x o := by
  cases o <;> first | exact h | exact ⟨_, h⟩
theorem Nx.some (h : Nx x o) : ∃ u, x = some u := by
  cases o <;> first | exact ⟨_, h⟩ | (obtain ⟨ps, h⟩ := h; exact ⟨_, h⟩)
theorem same_mk (h : ∀ b o, H b = some o → H' b = some o) : Same H H' := fun b o e => .of (h b o e)
theorem Same.refl (H : Hp) : Same H H := same_mk fun _ _ h => h
theorem Same.trans (a : Same H H1) (b : Same H1 H2) : Same H H2 := fun c o h => by
  have q := a c o h
  cases o <;> first | exact b c _ q | (obtain ⟨ps, q⟩ := q; have z := b c _ q; exact z)
theorem Same.free (e : Same H H') (h : H' l = Option.none) : H l = Option.none := by
  cases q : H l with
  | none => rfl
  | some o =>
    obtain ⟨u, z⟩ := (e l o q).some
    rw [z] at h
    cases h
theorem Same.seq {K : PySem.W.Frag} {H H' : Hp} {a : Addr} {xs : List V} (e : Same H H') (h : SqL K H a xs) : SqL K H' a xs := by
  rcases h with (h | ⟨o, h⟩) | h
  · exact .inl (.inl (e _ _ h))
  · exact .inl (.inr ⟨o, e _ _ h⟩)
  · exact .inr h

end L2

/-! ### whole numbers that lean on the frame (and what is read of the heap) alone -/
namespace L2
open PySem PySem.Spec PyProof.Rows
/-- the int in slot i -/
noncomputable def gI (σ : St) (i : Nat) : Int := match σ[i]? with
  | some (some (.int n)) => n
  | _ => 0
noncomputable def hI (σ : St) (i : Nat) : Prop := σ[i]? = some (some (.int (gI σ i)))
/-- a number g under C, the heap stays -/
noncomputable def tN (C : St → Hp → Prop) (g : St → Int) : TE := fun σ H Q => C σ H ∧ Q (.int (g σ)) H
/-- a test p under C, the heap stays -/
noncomputable def tP (C : St → Hp → Prop) (p : St → Prop) [∀ σ, Decidable (p σ)] : TT := fun σ H Q => C σ H ∧ Q (decide (p σ)) H
section
variable {X : Cx} {a b : Expr} {pos : Pos} {Ca Cb : St → Hp → Prop} {ga gb : St → Int}
theorem pn_var (i : Nat) (hN : X.N[i]? = some x := by rfl) (hv : Vis X.env.scope x := by first | exact Or.inl rfl | exact Or.inr (Or.inl rfl) | exact Or.inr (Or.inr rfl))
    (hd : (x == ("__debug__" : Str)) = false := by decide) (hcd : (x == ("__classdict__" : Str)) = false := by decide) : PE X (.Name x pos) (tN (fun σ _ => hI σ i) (fun σ => gI σ i)) :=
  fun pins s σ H Q I h => pe_var hN hv hd hcd pins s σ H Q I ⟨_, h.1, h.2⟩
theorem pn_int : PE X (.Constant (.int i) j pos) (tN (fun _ _ => True) (fun _ => i)) := fun pins s σ H Q I h => pe_int pins s σ H Q I h.2
/-- a product of any two that the machine takes -/
theorem op_mulB : OpR X (binaryOp .Mult) (rI IntMulOk fun i j => .int (i * j)) := opI fun _ _ _ _ _ _ _ hc q => mul_int q hc
/-- // by a positive divisor below 2 ^ 9000 -/
noncomputable def CDivB (_ j : Int) : Prop := 0 < j ∧ j.natAbs.log2 < 9000
theorem op_fdivB : OpR X (binaryOp .FloorDiv) (rI CDivB fun i j => .int (i / j)) := opI fun i j _ _ _ _ _ hc q => by
  have h1 : (0 : Int) < j := hc.1
  exact floordiv_int (by omega) (by rw [Int.fdiv_eq_ediv_of_nonneg i (by omega)]; exact q) (.inl (PyProof.noPylong_of_log2 hc.2))
theorem pn_neg (ha : PE X a (tN Ca ga)) : PE X (.UnaryOp .USub a pos) (tN Ca (fun σ => -ga σ)) :=
  fun pins s σ H Q I h => pe_un un_neg ha pins s σ H Q I ⟨h.1, _, rfl, h.2⟩
/-! tests -/
theorem pt_cmpN {op : CmpOp} {p : Int → Int → Prop} [∀ i j, Decidable (p i j)] (ho : OpR X (compareOp op) (rI0 fun i j => .bl (decide (p i j)))) (hm : behindInMarks op b = false) (ha : PE X a (tN Ca ga)) (hb : PE X b (tN Cb gb)) :
    PT X (.Compare a [op] [b] pos) (tP (fun σ H => Ca σ H ∧ Cb σ H) (fun σ => p (ga σ) (gb σ))) :=
  fun pins s σ H Q I h => pt_cmpR ho ha hb hm pins s σ H Q I ⟨h.1.1, h.1.2, _, _, rfl, rfl, _, rfl, h.2⟩
theorem op_eqI : OpR X (compareOp .Eq) (rI0 fun i j => .bl (decide (i = j))) := fun pins s σ H x y v u Q I rx ry h => by
  obtain ⟨i, j, rfl, rfl, q⟩ := h
  refine op_eq pins s σ H _ _ v u Q I rx ry ⟨rfl, ?_⟩
  rw [dec_int, Bool.beq_eq_decide_eq]
  exact q
theorem op_neI : OpR X (compareOp .NotEq) (rI0 fun i j => .bl (decide (¬ i = j))) := fun pins s σ H x y v u Q I rx ry h => by
  obtain ⟨i, j, rfl, rfl, q⟩ := h
  have q : Q (.bl (decide (¬ i = j))) H := q
  rw [decide_not] at q
  refine op_ne pins s σ H _ _ v u Q I rx ry ⟨rfl, ?_⟩
  rw [dec_int, Bool.beq_eq_decide_eq]
  exact q
theorem ptn_lt (ha : PE X a (tN Ca ga)) (hb : PE X b (tN Cb gb)) : PT X (.Compare a [.Lt] [b] pos) (tP (fun σ H => Ca σ H ∧ Cb σ H) (fun σ => ga σ < gb σ)) := pt_cmpN op_lt (nomark _) ha hb
variable {pa pb : St → Prop} [∀ σ, Decidable (pa σ)] [∀ σ, Decidable (pb σ)] {rest : List Expr}
/-! statements -/
noncomputable def tIfP (C : St → Hp → Prop) (p : St → Prop) (t u : TS) : TS := fun D σ H => C σ H ∧ (p σ → t D σ H) ∧ (¬ p σ → u D σ H)
theorem ps_ifP (hc : PT X c (tP Ca pa)) (hx : PSs X x t) (hy : PSs X y u) : PS X (.If c x y pos) (tIfP Ca pa t u) :=
  fun pins s σ H D I h => ps_if hc hx hy pins s σ H D I ⟨h.1, by
    by_cases c : pa σ
    · rw [decide_eq_true c]; refine iteT ?_; exact h.2.1 c
    · rw [decide_eq_false c]; refine iteF ?_; exact h.2.2 c⟩
theorem iop_addT : OpR X (inplaceOp .Add) (rI (fun _ _ => True) fun i j => .int (i + j)) := fun pins s σ H x y v u Q I rx ry h => by
  obtain ⟨i, j, e1, e2, _, q⟩ := h
  exact iop_add pins s σ H x y v u Q I rx ry ⟨i, j, e1, e2, q⟩
end
/-! a list that nothing holds any more is forgotten -/
section
variable {X : Cx} {pins : List (Addr × Obj)} {σ : St} {H : Hp} {s : Shared} {p : Addr} {xs : List V}
end
section
variable {X : Cx} {b : Expr} {es : List Expr} {pos p1 : Pos} {Cb C : St → Hp → Prop} {gb : St → Int}
theorem atI_int {ns : List Int} {i : Int} (h0 : 0 ≤ i) (h1 : i < (ns.length : Int)) : atI (ns.map V.int) i = some (V.int (ns.getD i.toNat 0)) := by
  have e : i = ((i.toNat : Nat) : Int) := by omega
  have l : i.toNat < ns.length := by omega
  have q : atI (ns.map V.int) ((i.toNat : Nat) : Int) = some (V.int (ns.getD i.toNat 0)) := atI_nat (by rw [List.getElem?_map, List.getElem?_eq_getElem l, List.getD_eq_getElem?_getD, List.getElem?_eq_getElem l]; rfl)
  rw [← e] at q
  exact q
/-- an item of a list of numbers that stands in slot j; the place of any sign -/
noncomputable def tItem (K : PySem.W.Frag) (j : Nat) (C : St → Hp → Prop) (g : St → Int) : TE := fun σ H Q => C σ H ∧ ∃ (a : Addr) (ns : List Int) (n : Int), σ[j]? = some (some (.ref a)) ∧ SqL K H a (ns.map V.int) ∧ atI (ns.map V.int) (g σ) = some (.int n) ∧ Q (.int n) H
theorem pe_item (j : Nat) (hb : PE X b (tN C gb)) (hs : PlainIx b) (hN : X.N[j]? = some x := by rfl) (hv : Vis X.env.scope x := by first | exact Or.inl rfl | exact Or.inr (Or.inl rfl) | exact Or.inr (Or.inr rfl))
    (hd : (x == ("__debug__" : Str)) = false := by decide) (hcd : (x == ("__classdict__" : Str)) = false := by decide) : PE X (.Subscript (.Name x px) b pos) (tItem X.K j C gb) := by
  intro pins s σ H Q I h
  obtain ⟨c, a, ns, n, e1, e2, e3, q⟩ := h
  exact pe_ix ix_list (pe_var hN hv hd hcd) hb hs pins s σ H Q I ⟨_, e1, c, a, _, _, _, rfl, rfl, e2, e3, q⟩
/-- the same where the list a and its numbers ns are known beforehand -/
theorem pn_item (j : Nat) (a : Addr) (ns : List Int) {x : Str} {px : Pos} (hb : PE X b (tN C gb)) (hs : PlainIx b) (hN : X.N[j]? = some x := by rfl) (hv : Vis X.env.scope x := by first | exact Or.inl rfl | exact Or.inr (Or.inl rfl) | exact Or.inr (Or.inr rfl))
    (hd : (x == ("__debug__" : Str)) = false := by decide) (hcd : (x == ("__classdict__" : Str)) = false := by decide) :
    PE X (.Subscript (.Name x px) b pos) (tN (fun σ H => C σ H ∧ σ[j]? = some (some (.ref a)) ∧ SqL X.K H a (ns.map V.int) ∧ -(ns.length : Int) ≤ gb σ ∧ gb σ < (ns.length : Int)) (fun σ => ns.getD (if 0 ≤ gb σ then gb σ else gb σ + ns.length).toNat 0)) := by
  intro pins s σ H Q I h
  obtain ⟨⟨c, e1, e2, b1, b2⟩, q⟩ := h
  refine pe_ix ix_list (pe_var hN hv hd hcd) hb hs pins s σ H Q I ⟨_, e1, c, a, _, _, _, rfl, rfl, e2, ?_, q⟩
  show atI (ns.map V.int) (gb σ) = some (V.int (ns.getD (if 0 ≤ gb σ then gb σ else gb σ + ns.length).toNat 0))
  by_cases c0 : 0 ≤ gb σ
  · rw [if_pos c0]; exact atI_int c0 b2
  · rw [if_neg c0]
    have q2 := atI_int (ns := ns) (i := gb σ + ns.length) (by omega) (by omega)
    unfold atI ixN at q2 ⊢
    rw [List.length_map] at q2 ⊢
    rw [if_pos (show 0 ≤ gb σ + (ns.length : Int) by omega), if_pos (show gb σ + (ns.length : Int) < (ns.length : Int) by omega)] at q2
    rw [if_neg c0, if_pos b1]
    exact q2
/-- len(x), x a list known beforehand -/
theorem pn_len (j : Nat) (a : Addr) (xs : List V) (hm : X.mg "len" = none) (hN : X.N[j]? = some x := by rfl) (hg : Gl X "len" := by rfl) (hv : Vis X.env.scope x := by first | exact Or.inl rfl | exact Or.inr (Or.inl rfl) | exact Or.inr (Or.inr rfl))
    (hd : (x == ("__debug__" : Str)) = false := by decide) (hcd : (x == ("__classdict__" : Str)) = false := by decide) (he : starEach [.Name x px] X.env = [(false, eval (.Name x px) X.env)] := by rfl) :
    PE X (.Call (.Name "len" p) [.Name x px] [] pos) (tN (fun σ H => σ[j]? = some (some (.ref a)) ∧ SqL X.K H a xs) (fun _ => (xs.length : Int))) := by
  intro pins s σ H Q I h
  exact pe_callB call_len_seq hg hm PySem.boot_len (pa_cons (pe_var hN hv hd hcd) pa_nil he) (by decide) (by decide) he rfl pins s σ H Q I ⟨_, h.1.1, a, _, rfl, .inl h.1.2, h.2⟩
end
/-! calls of defs that tell numbers of numbers -/
section
variable {X : Cx} {e : Expr} {es : List Expr} {pos p : Pos} {Ca Cb : St → Hp → Prop} {ga : St → Int} {gs : St → List Int}
end
/-- a def of the text under its name keeps the promise sp -/
structure Ok (P : Program) (w : World) (K : PySem.W.Frag) (mg : Str → Option Value) (base : Heap) (k : Nat) (x : Str) (ps : List Str) (sp : Sp) : Prop where
  ex : ∃ f fd, FnOk P w K mg base CX0 k f fd ps sp ∧ Binds K fd ps [] ∧ PySem.W.keepIn K (.ref f) = true ∧ mg x = some (.ref f)
theorem Ok.imp {P : Program} {w : World} {K : PySem.W.Frag} {mg : Str → Option Value} {base : Heap} {k : Nat} {x : Str} {ps : List Str} {sp sp' : Sp} (o : Ok P w K mg base k x ps sp) (h : ∀ vs H Q E, sp' vs H Q E → sp vs H Q E) : Ok P w K mg base k x ps sp' := by
  obtain ⟨f, fd, a, b⟩ := o.ex
  exact ⟨f, fd, a.imp h, b⟩
section
variable {X : Cx} {e : Expr} {es : List Expr} {pos p : Pos} {j k : Nat} {x : Str} {ps : List Str} {sp : Sp} {t : TA}
theorem pe_callO (o : Ok X.prog X.w X.K X.mg X.base j x ps sp) (hr : Room k X.A) (ha : PA X (e :: es) t) (hj : j ≤ k := by decide) (hg : Gl X x := by rfl) (hdb : (x == ("__debug__" : Str)) = false := by decide)
    (he : starEach (e :: es) X.env = (false, eval e X.env) :: starEach es X.env := by rfl) (hpl : (backTo pos (starEach es X.env)).any (·.1) = false := by rfl) : PE X (.Call (.Name x p) (e :: es) [] pos) (tCall sp [] E0 t) := by
  obtain ⟨f, fd, F, b, kp, m⟩ := o.ex
  exact pe_call (F.mono hj) hr hg m kp b .nil pass0 ha hdb he hpl
variable {C : St → Hp → Prop} {g : St → List Int} {n : Nat} {pre : List Int → Prop}
end
/-! ### a def by its promise -/
structure Def (K : PySem.W.Frag) (mg : Str → Option Value) (x : Str) (st : Stmt) (ps : List Str) : Prop where
  ex : ∃ f fd, Fun K x x st f fd ∧ Binds K fd ps [] ∧ mg x = some (.ref f)
section
variable {P : Program} {w : World} {K : PySem.W.Frag} {mg : Str → Option Value} {base : Heap}
theorem Def.ok {x : Str} {st : Stmt} {N ps : List Str} {k : Nat} {sp : Sp} (d : Def K mg x st ps) (S : FnScope N ps (defScope st)) (len : ∀ vs H Q E, sp vs H Q E → vs.length = ps.length)
    (hbody : ∀ (f : Addr) (cdv : Value) (A : Around) (outer : List Env) (s : Shared) (H : Hp) (vs : List V) (Q : VK) (E : XK), Room k (A.deeper (envOfC x (defScope st) s.heap.objs.size f cdv)) → sp vs H Q E →
      ∃ t, PSs (cxOf CX0 P w K mg base N x (defScope st) f cdv A outer s H E).nox (defBody st) t ∧ t { nx := fun _ H' => Q .non H', rt := Q } (start N vs) H) : Ok P w K mg base (k + 1) x ps sp := by
  obtain ⟨f, fd, F, b, m⟩ := d.ex
  exact ⟨f, fd, F.ok S len fun cdv A outer s H vs Q E hr h => hbody f cdv A outer s H vs Q E hr h, b, F.kp, m⟩
theorem Def.mk' {x : Str} {st : Stmt} {ps : List Str} {f : Addr} {fd : FuncData} (F : Fun K x x st f fd) (b : Binds K fd ps []) (m : mg x = some (.ref f)) : Def K mg x st ps := ⟨f, fd, F, b, m⟩
end
end L2

/-! ### isinstance, built-in names, lengths -/
namespace L2
open PySem PySem.Spec PyProof.Rows
theorem bt_int : bootBuiltins "int" = some (.type "int") := by decide +kernel
theorem bt_bool : bootBuiltins "bool" = some (.type "bool") := by decide +kernel
theorem bt_list : bootBuiltins "list" = some (.type "list") := by decide +kernel
theorem bt_len : bootBuiltins "len" = some (.builtin "len") := by decide +kernel
theorem bt_isinstance : bootBuiltins "isinstance" = some (.builtin "isinstance") := by decide +kernel
/-- the class that a value names -/
noncomputable def clsV : V → Option Value
  | .ty n => some (.type n)
  | .ref a => some (.ref a)
  | _ => none
theorem clsV_rel (h : clsV c = some cv) (r : RelV c u) : u = cv := by
  cases c with
  | ty n => cases h; exact r
  | ref a => cases h; exact r
  | non => cases h
  | bl _ => cases h
  | int _ => cases h
  | str _ => cases h
  | byt _ => cases h
  | flt _ => cases h
section
variable {X : Cx}
theorem call_isinst : CallR X (.builtin "isinstance") (fun xs H Q => ∃ x c t cv b, xs = [x, c] ∧ clsV c = some cv ∧ TyOf X.K H x t ∧ PySem.W.kitOne X.K t cv = some b ∧ Q (.bl b) H) := by
  intro pins s σ H xs us Q I r h
  obtain ⟨x, c, t, cv, b, rfl, hc, ty, e, q⟩ := h
  obtain ⟨u, w', rfl, r1, r2⟩ := vals2 r
  obtain rfl := clsV_rel hc r2
  exact isinst_ok I r1 ty e fun tk => ⟨.bl b, H, I.tok tk, rfl, q⟩
end
theorem len1 {ns : List Int} (h : ns.length = 1) : ∃ a, ns = [a] := match ns, h with | [a], _ => ⟨a, rfl⟩
theorem same_new (h : H p = none) (o : HO) : Same H (upd H p o) := same_mk fun b u q => by rw [upd_ne (ne_of_none q h)]; exact q
/-! products that the machine takes -/
theorem bits_le (h : k.natAbs < 2 ^ n) : Builtin.Int.intBits k ≤ n := by
  unfold Builtin.Int.intBits
  split
  · exact Nat.zero_le _
  · have hk : k.natAbs ≠ 0 := by
      rename_i c
      intro z
      apply c
      first | exact z | (have : k = 0 := by omega
                         simp [this]) | omega
    have := (Nat.log2_lt hk).mpr h
    omega
theorem mul_ok (ha : a.natAbs < 2 ^ n) (hb : b.natAbs < 2 ^ m) (hn : n ≤ 1048576 := by decide) (hm : m ≤ 1048576 := by decide) : IntMulOk a b :=
  .of_bits (Nat.le_trans (bits_le ha) (Nat.le_trans hn (by decide))) (Nat.le_trans (bits_le hb) (Nat.le_trans hm (by decide)))
theorem mul_okR (h : -(2 ^ 64) < b ∧ b < 2 ^ 64) : IntMulOk a b := .of_right (intBits_le_64 h.1 h.2)
theorem mul_okL (h : -(2 ^ 64) < a ∧ a < 2 ^ 64) : IntMulOk a b := .of_left (intBits_le_64 h.1 h.2)
end L2

/-! ### list comprehensions: one clause, any target, at most one test -/
namespace L2
open PySem PySem.Spec PyProof.Rows
noncomputable abbrev NoX : Value → Shared → Prop := fun _ _ => False
noncomputable def testsTree (cs : List Expr) (ev : Env) : Sem Bool := forIn cs true fun c r => if r = true then do let ok ← isTrue c ev (eval c ev); pure (ForInStep.yield ok) else pure (ForInStep.yield r)
section
variable {P : Program} {w : World} {A : Around} {R : Result → Shared → Prop} {s : Shared}
theorem comp_loop (I : Nat → Shared → Prop)
    (turn : ∀ n s, I n s → wpAny (model P w) A (pyNext it) (fun r s1 => (r = none ∧ R (.ok .next) s1) ∨ ∃ v, r = some v ∧
      wpAny (model P w) A (letOwnedTupleGo tg it v) (fun _ s2 => wpAny (model P w) A (assign tg ev v) (fun _ s3 => wpAny (model P w) A (testsTree cs ev) (fun ok s4 =>
        if ok = true then wpAny (model P w) A (eval el ev) (fun x s5 => wpAny (model P w) A (call (.builtin "list.append") [acc, x]) (fun _ s6 => ∃ m, m < n ∧ I m s6) NoX s5) NoX s4
        else ∃ m, m < n ∧ I m s4) NoX s3) NoX s2) NoX s1) NoX s)
    (n : Nat) (h : I n s) : codeAny (model P w) A (.compLoop (.ListComp el [⟨tg, src, cs, 0⟩] sc at') 0 it acc ev) R s := by
  refine codeAny_loop rfl I (fun n s hI => ?_) n h
  refine wpAny_noted (wpAny_noRaise ?_)
  rw [compTurn_list]
  refine wpAny_bind (wpAny_standAt (wpAny_bind (thn (turn n s hI) fun r s1 h1 => ?_)))
  rcases h1 with ⟨rfl, h1⟩ | ⟨v, rfl, h1⟩
  · exact wpAny_pure h1
  · refine wpAny_bind (thn h1 fun _ s2 h2 => wpAny_bind (thn h2 fun _ s3 h3 => wpAny_bind (thn h3 fun ok s4 h4 => ?_)))
    cases ok with
    | false => exact wpAny_pure ⟨rfl, h4⟩
    | true => exact wpAny_bind (wpAny_bind (thn h4 fun x s5 h5 => wpAny_bind (thn h5 fun _ s6 h6 => wpAny_pure (wpAny_pure ⟨rfl, h6⟩))))
end
/-- the names that the block takes from the def, with their slots there -/
noncomputable def CapOk (X : Cx) (sc : Scope) (cl : List (Str × Addr)) : List Str → List (Option Nat) → Prop
  | [], [] => True
  | _ :: xs, none :: cs => CapOk X sc cl xs cs
  | x :: xs, some i :: cs => (X.N[i]? = some x ∧ Vis X.env.scope x ∧ X.env.kindOf x ≠ some .local ∧ ((relabel sc X.env).names.lookup x = some .cell ∨ (relabel sc X.env).names.lookup x = some .free) ∧ ∃ c, cl.lookup x = some c ∧ X.env.cells.lookup x = some c) ∧ CapOk X sc cl xs cs
  | _, _ => False
noncomputable def SubC (ev : Env) : List (Str × Addr) → Prop
  | [] => True
  | (x, c) :: r => ev.cells.lookup x = some c ∧ SubC ev r
theorem SubC.look : ∀ {cl : List (Str × Addr)}, SubC ev cl → ∀ {x : Str} {c : Addr}, cl.lookup x = some c → ev.cells.lookup x = some c
  | [], _, x, c, h => by simp at h
  | (y, d) :: r, q, x, c, h => by
    rw [List.lookup_cons] at h
    cases e : x == y with
    | true =>
      rw [e] at h
      have e' : x = y := by simpa using e
      subst e'
      cases h
      exact q.1
    | false => rw [e] at h; exact SubC.look q.2 h
noncomputable def capS (cap : List (Option Nat)) (σ : St) : St := cap.map fun o => match o with
  | some i => (σ[i]?).join
  | none => none
noncomputable def cxComp (X : Cx) (N' : List Str) (sc : Scope) (cl : List (Str × Addr)) (s : Shared) (H : Hp) (fp : List Addr) : Cx :=
  { X with N := N', s₀ := s, H₀ := H, env := compEnvC sc cl s.heap.objs.size X.env, outer := X.stack, ex := fp, fn := fun _ => false, pn := [], xe := NoX }
section
variable {X : Cx} {pins : List (Addr × Obj)} {σ : St} {H : Hp} {s : Shared} {N' : List Str} {sc : Scope} {cl : List (Str × Addr)} {cap : List (Option Nat)} {fp : List Addr}
theorem CapOk.length {X : Cx} {sc : Scope} {cl : List (Str × Addr)} : ∀ {N' : List Str} {cap : List (Option Nat)}, CapOk X sc cl N' cap → cap.length = N'.length
  | [], [], _ => rfl
  | _ :: xs, none :: cs, h => by
    have := CapOk.length (X := X) (sc := sc) (cl := cl) (N' := xs) (cap := cs) h
    simp [this]
  | _ :: xs, some i :: cs, h => by
    have := CapOk.length (X := X) (sc := sc) (cl := cl) (N' := xs) (cap := cs) h.2
    simp [this]
  | [], _ :: _, h => h.elim
  | _ :: _, [], h => h.elim
theorem CapOk.at : ∀ {N' : List Str} {cap : List (Option Nat)} {j : Nat}, CapOk X sc cl N' cap → N'[j]? = some x → cap[j]? = some (some i) →
    X.N[i]? = some x ∧ Vis X.env.scope x ∧ X.env.kindOf x ≠ some .local ∧ ((relabel sc X.env).names.lookup x = some .cell ∨ (relabel sc X.env).names.lookup x = some .free) ∧ ∃ c, cl.lookup x = some c ∧ X.env.cells.lookup x = some c
  | [], [], j, _, h, _ => by simp at h
  | _ :: xs, none :: cs, 0, _, _, h => by simp at h
  | _ :: xs, none :: cs, j + 1, q, h1, h2 => CapOk.at (N' := xs) (cap := cs) (j := j) q (by simpa using h1) (by simpa using h2)
  | y :: xs, some k :: cs, 0, q, h1, h2 => by
    have e1 : y = x := by simpa using h1
    have e2 : k = i := by simpa using h2
    subst e1 e2
    exact q.1
  | _ :: xs, some _ :: cs, j + 1, q, h1, h2 => CapOk.at (N' := xs) (cap := cs) (j := j) q.2 (by simpa using h1) (by simpa using h2)
  | [], _ :: _, _, h, _, _ => h.elim
  | _ :: _, [], _, h, _, _ => h.elim
/-- the block begins -/
theorem Inv.block (I : Inv X pins σ H s) (hk : sc.kind = .function) (hcap : CapOk X sc cl N' cap) (sub : SubC X.env cl)
    (has : ∀ x, ((relabel sc X.env).names.lookup x = some .cell ∨ (relabel sc X.env).names.lookup x = some .free) → ∃ c, cl.lookup x = some c)
    (hf : ∀ b ∈ fp, FpOk X pins H b) (hfo : ∀ b ∈ fp, ∃ o, s.heap.get? b = some o) (hns : h'.Ns s.heap.objs.size m) (hsb : Heap.SameBut s.heap.objs.size (s.heap.push o) h') :
    Inv (cxComp X N' sc cl s H fp) [] (capS cap σ) H { s with heap := h', toks := tk } := by
  have keep : ∀ b u, s.heap.get? b = some u → h'.get? b = some u := fun b u e =>
    (hsb.2 b (Nat.ne_of_lt (Heap.lt_size e))).trans (Heap.get?_push_of_some _ e)
  refine ⟨⟨I.ok.mod, hk, I.ok.glob, I.ok.blt, Nat.le_refl _, fun x y c h1 h2 => I.ok.inj x y c (sub.look h1) (sub.look h2), has, (fun x c h _ => nomatch h), I.ok.hd, I.ok.frames, .inl rfl,
    fun b hb => ⟨?_, fun x c e => (hf b hb).2.2.2.2.1 x c (sub.look e)⟩, I.bs, Nat.le_trans I.ok.bsz I.sz, fun b u e hb => ?_, fun b hb hb' => ?_, I.stack, I.env0.frf⟩,
    rfl, I.bare, Un.kept keep, ⟨m, hns, fun j x v h1 h2 h3 => ?_⟩, fun x c e => ?_, I.hok.fresh (Nat.le_refl _), fun x c e => I.freeC x c (sub.look e), fun p hp => absurd (show p ∈ ([] : List (Addr × Obj)) from hp) (by simp), I.hok.kept keep, ?_⟩
  · obtain ⟨u, e⟩ := hfo b hb
    exact Nat.ne_of_lt (Heap.lt_size e)
  · rcases (hf b hb).2.2.2.1 with z | z
    · exact I.ok.noex b u e z
    · exact absurd (Nat.lt_of_lt_of_le (Heap.lt_size e) (Nat.le_trans I.ok.bsz z)) (Nat.lt_irrefl _)
  · rcases List.mem_cons.mp (I.stkSub b hb') with z | z
    · exact (hf b hb).2.1 z
    · exact (hf b hb).2.2.1 z
  · obtain ⟨m0, hn0, hl0⟩ := I.loc
    have h2' : ((cap.map fun o => match o with | some i => (σ[i]?).join | none => none) : St)[j]? = some (some v) := h2
    rw [List.getElem?_map] at h2'
    cases e : cap[j]? with
    | none => rw [e] at h2'; cases h2'
    | some oi =>
      rw [e] at h2'
      cases oi with
      | none => cases h2'
      | some i =>
        have h4 : (σ[i]?).join = some v := Option.some.inj h2'
        have h5 : σ[i]? = some (some v) := by
          cases z : σ[i]? with
          | none => rw [z] at h4; cases h4
          | some y => rw [z] at h4; cases h4; rfl
        obtain ⟨a1, a2, a3, a4, c, a5, a6⟩ := hcap.at h1 e
        obtain ⟨u, r, l⟩ := hl0 i x v a1 h5 a2
        refine ⟨u, r, .inr ⟨a4, c, a5, ?_⟩⟩
        rcases l with ⟨k, _⟩ | ⟨_, c', e', ic⟩
        · exact absurd k a3
        · rw [a6] at e'
          cases e'
          obtain ⟨oc, h7, h8⟩ := ic
          exact ⟨oc, keep _ _ h7, h8⟩
  · obtain ⟨v, oc, h7, h8⟩ := I.cell x c (sub.look e)
    exact ⟨v, oc, keep _ _ h7, h8⟩
  · unfold capS
    rw [List.length_map]
    exact hcap.length
/-- the block ends: back in the def's body -/
theorem Inv.unblock (I : Inv X pins σ H s) (hf : ∀ b ∈ fp, FpOk X pins H b) (J : Inv (cxComp X N' sc cl s H fp) pins' σ' H' s') : Inv X pins σ H' s' :=
  I.call' (ch := fp) J.os J.base J.hok J.bare fun b hb => ⟨(hf b hb).2.2.2.1, (hf b hb).2.1, (hf b hb).2.2.2.2.1, (hf b hb).2.2.2.2.2⟩
end
/-- a turn's end knows what the block took from the def -/
noncomputable def ExtS : St → St → Prop
  | [], [] => True
  | none :: a, _ :: b => ExtS a b
  | some v :: a, y :: b => y = some v ∧ ExtS a b
  | _, _ => False
theorem ExtS.at : ∀ {a b : St}, ExtS a b → ∀ (i : Nat) (v : V), a[i]? = some (some v) → b[i]? = some (some v)
  | [], [], _, i, v, h => by simp at h
  | none :: a, _ :: b, q, 0, v, h => by simp at h
  | none :: a, _ :: b, q, i + 1, v, h => by
    have := ExtS.at (a := a) (b := b) q i v (by simpa using h)
    simpa using this
  | some u :: a, y :: b, q, 0, v, h => by
    have e : u = v := by simpa using h
    rw [q.1, e]
    rfl
  | some u :: a, y :: b, q, i + 1, v, h => by
    have := ExtS.at (a := a) (b := b) q.2 i v (by simpa using h)
    simpa using this
  | [], _ :: _, q, _, _, _ => q.elim
  | none :: _, [], q, _, _, _ => q.elim
  | some _ :: _, [], q, _, _, _ => q.elim
/-- the tests of the clause -/
noncomputable def PTs (X : Cx) (cs : List Expr) (t : TT) : Prop :=
  ∀ (pins : List (Addr × Obj)) (s : Shared) (σ : St) (H : Hp) (Q : Bool → Hp → Prop), Inv X pins σ H s → t σ H Q → wpAny (model X.prog X.w) X.A (testsTree cs X.env) (TP X pins σ Q) X.xe s
theorem pts_nil : PTs X [] (fun _ H Q => Q true H) := fun _ _ _ H _ I h => wpAny_tests_nil ⟨H, I, h⟩
theorem pts_one (h : PT X c t) : PTs X [c] t := fun pins s σ H Q I q => wpAny_tests_one (h pins s σ H Q I q)
/-- the loop of the clause: W by the turn, a measure and the numbers made so far -/
noncomputable def lcW (D : Addr) (J : It) (σ : St) (g : TG) (tt : TT) (te : TE) (Q : VK) (W : Nat → Nat → List V → Hp → Prop) : Prop :=
  ∀ i m ys H, W i m ys H → H D = some (.lst ys) ∧ ys.length < sizeLine ∧
    ((J.stop i H ∧ Q (.ref D) H) ∨ (J.go i H ∧ ∀ x H', J.yld i H x H' → g x σ H' fun σ2 H2 => ExtS σ σ2 ∧ tt σ2 H2 fun ok H3 =>
      if ok = true then te σ2 H3 fun y H4 => H4 D = some (.lst ys) ∧ ∃ m', m' < m ∧ W (i + 1) m' (ys ++ [y]) (upd H4 D (.lst (ys ++ [y])))
      else ∃ m', m' < m ∧ W (i + 1) m' ys H3))
noncomputable def tLC (cap : List (Option Nat)) (wi : TI) (g : TG) (tt : TT) (te : TE) : TE := fun σ H Q => wi σ H fun J H1 => ∀ D, H1 D = none → ∃ W : Nat → Nat → List V → Hp → Prop, (∃ m, W 0 m [] (upd H1 D (.lst []))) ∧ lcW D J (capS cap σ) g tt te Q W
section
variable {X : Cx} {pins : List (Addr × Obj)} {σ : St} {H : Hp} {s : Shared} {N' : List Str} {sc : Scope} {cl : List (Str × Addr)} {cap : List (Option Nat)} {fp : List Addr}
  {el tg src : Expr} {cs : List Expr} {at' : Pos} {g : TG} {tt : TT} {te : TE} {J : It} {it : Addr} {tn : Nat → Heap → Prop} {Q : VK}
/-- what a comprehension's clause and scope must be -/
structure LcOk (X : Cx) (N' : List Str) (sc : Scope) (cl : List (Str × Addr)) (cap : List (Option Nat)) : Prop where
  kind : sc.kind = .function
  clos : closureFor sc X.env = pure cl
  nocell : ∀ y ∈ sc.names, y.2 ≠ .cell
  names : ∀ y ∈ sc.names, y.2 = .local → sc.names.lookup y.1 = some .local
  cap : CapOk X sc cl N' cap
  sub : SubC X.env cl
  has : ∀ x, ((relabel sc X.env).names.lookup x = some .cell ∨ (relabel sc X.env).names.lookup x = some .free) → ∃ c, cl.lookup x = some c
theorem lc_ok (kind : sc.kind = .function) (clos : closureFor sc X.env = pure cl) (h1 : (sc.names.all fun y => y.2 != .cell) = true) (h2 : (sc.names.all fun y => y.2 != .local || sc.names.lookup y.1 == some .local) = true)
    (hcap : CapOk X sc cl N' cap) (sub : SubC X.env cl) (h3 : ((relabel sc X.env).names.all fun y => (y.2 != .cell && y.2 != .free) || (cl.lookup y.1).isSome) = true) : LcOk X N' sc cl cap := by
  refine ⟨kind, clos, fun y hy e => ?_, fun y hy e => ?_, hcap, sub, fun x hx => ?_⟩
  · have q := List.all_eq_true.mp h1 y hy
    rw [e] at q
    exact absurd q (by decide)
  · have q := List.all_eq_true.mp h2 y hy
    rw [e] at q
    simpa using q
  · have key : ∀ k, (k = NameKind.cell ∨ k = NameKind.free) → (relabel sc X.env).names.lookup x = some k → ∃ c, cl.lookup x = some c := fun k hk e => by
      have q := List.all_eq_true.mp h3 _ (PySem.mem_of_lookup e)
      rcases hk with rfl | rfl
      · exact Option.isSome_iff_exists.mp (by simpa using q)
      · exact Option.isSome_iff_exists.mp (by simpa using q)
    rcases hx with e | e
    · exact key _ (.inl rfl) e
    · exact key _ (.inr rfl) e
theorem comp_main (L : LcOk X N' sc cl cap) (hc : X.calm = true) (I : Inv X pins σ H s) (T : Turn X.prog X.w X.K tg J fp it tn) (st : tn 0 s.heap) (hf : ∀ b ∈ fp, FpOk X pins H b)
    (hg : ∀ s H fp, PG (cxComp X N' sc cl s H fp) tg g) (ht : ∀ s H fp, PTs (cxComp X N' sc cl s H fp) cs tt) (he : ∀ s H fp, PE (cxComp X N' sc cl s H fp) el te)
    (rd : ∀ D, H D = none → ∃ W : Nat → Nat → List V → Hp → Prop, (∃ m, W 0 m [] (upd H D (.lst []))) ∧ lcW D J (capS cap σ) g tt te Q W)
    {Ex : Value → Shared → Prop} {RR : Value → Addr → Result → Shared → Prop} (hR : ∀ D C m H' s', Inv X pins σ H' s' → s'.heap.Ns C m → FpOk X pins H' C → Q (.ref D) H' → RR (.ref D) C (.ok .next) s') :
    wpAny (model X.prog X.w) X.A (newList []) (fun acc s3 => wpAny (model X.prog X.w) X.A (newFunctionEnv sc X.env.globals cl [] X.env.qual none .none (some X.env)) (fun cv s4 =>
      codeAny (model X.prog X.w) X.A (.compStart (.ListComp el [⟨tg, src, cs, 0⟩] sc at') 0 (.ref it) acc { cv with scope := relabel sc X.env }) (RR acc cv.locals) s4) Ex s3) Ex s := by
  obtain ⟨W, ⟨m0, w0⟩, step⟩ := rd _ I.fresh
  refine wpAny_newObj_type (wpAny_newFunctionEnv L.nocell (by intro y hy; simp at hy) (fun h1 hns hsb => ?_) L.kind)
  have I3 : Inv X pins σ (upd H s.heap.objs.size (.lst [])) { s with heap := s.heap.push { cls := .type "list", dict := none, data := .seq ([] : List Value).toArray } } := I.lnew (its := []) (t' := s.toks) .nil (by show 0 ≤ sizeLine; decide)
  have hfo : ∀ b ∈ fp, ∃ o, s.heap.get? b = some o := fun b hb => let ⟨o, e, _⟩ := T.obj 0 s.heap st b hb; ⟨o, e⟩
  have hf3 : ∀ b ∈ fp, FpOk X pins (upd H s.heap.objs.size (.lst [])) b := fun b hb => by
    obtain ⟨o, e⟩ := hfo b hb
    exact ⟨by rw [upd_ne (Nat.ne_of_lt (Heap.lt_size e))]; exact (hf b hb).1, (hf b hb).2⟩
  dsimp only at hns hsb ⊢
  generalize hs3 : ({ s with heap := s.heap.push { cls := .type "list", dict := none, data := .seq ([] : List Value).toArray } } : Shared) = s3 at I3 hns hsb ⊢
  have hh3 : s3.heap = s.heap.push { cls := .type "list", dict := none, data := .seq ([] : List Value).toArray } := by rw [← hs3]
  have hns : h1.Ns s3.heap.objs.size (fun x => List.lookup x ([] : List (Str × Value)).reverse) := by rw [hh3]; exact hns
  have hsb : Heap.SameBut s3.heap.objs.size (s3.heap.push { cls := .type (if (some X.env).isSome = true then "dict" else "frame"), data := .dict #[] }) h1 := by rw [hh3]; exact hsb
  have hk3 : ∀ b o, s.heap.get? b = some o → s3.heap.get? b = some o := fun b o e => by rw [hh3]; exact Heap.get?_push_of_some _ e
  have J0 := I3.block (N' := N') (cap := cap) (fp := fp) (tk := s3.toks + ([] : List (Str × Value)).length) L.kind L.cap L.sub L.has hf3 (fun b hb => let ⟨o, e⟩ := hfo b hb; ⟨o, hk3 b o e⟩) hns hsb
  have st1 : tn 0 h1 := T.keep 0 s.heap h1 st fun b hb o e => (hsb.2 b (Nat.ne_of_lt (Heap.lt_size (hk3 b o e)))).trans (Heap.get?_push_of_some _ (hk3 b o e))
  have fpx : ∀ {H' : Hp}, (∀ b ∈ fp, H' b = none) → ∀ b ∈ fp, FpOk (cxComp X N' sc cl s3 (upd H s.heap.objs.size (.lst [])) fp) [] H' b := fun hn b hb => by
    obtain ⟨o, e⟩ := hfo b hb
    refine ⟨hn b hb, Nat.ne_of_lt (Heap.lt_size (hk3 b o e)), fun hb' => ?_, .inl hb, fun x c q => (hf b hb).2.2.2.2.1 x c (L.sub.look q), fun p hp => absurd (show p ∈ ([] : List (Addr × Obj)) from hp) (by simp)⟩
    rcases List.mem_cons.mp (I.stkSub b hb') with z | z
    · exact (hf b hb).2.1 z
    · exact (hf b hb).2.2.1 z
  have loop : ∀ s4 : Shared, s4 = { s3 with heap := h1, toks := s3.toks + ([] : List (Str × Value)).length } →
      codeAny (model X.prog X.w) X.A (.compLoop (.ListComp el [⟨tg, src, cs, 0⟩] sc at') 0 (.ref it) (.ref s.heap.objs.size) (compEnvC sc cl s3.heap.objs.size X.env)) (RR (.ref s.heap.objs.size) s3.heap.objs.size) s4 := by
    rintro s4 rfl
    refine comp_loop (fun n s' => ∃ i ys H', Inv (cxComp X N' sc cl s3 (upd H s.heap.objs.size (.lst [])) fp) [] (capS cap σ) H' s' ∧ tn i s'.heap ∧ (∀ b ∈ fp, H' b = none) ∧ W i n ys H') ?_ m0 ⟨0, [], _, J0, st1, fun b hb => (hf3 b hb).1, w0⟩
    rintro n s' ⟨i, ys, H', Ji, sti, fri, wi⟩
    obtain ⟨hD, hlen, hgo⟩ := step i n ys H' wi
    rcases hgo with ⟨hstop, hq⟩ | ⟨hgo, hbody⟩
    · refine thn (T.done (cxComp X N' sc cl s3 (upd H s.heap.objs.size (.lst [])) fp) rfl rfl rfl hc i [] s' _ H' NoX Ji (fpx fri) sti hstop) fun r s1 ⟨hr, J1⟩ => .inl ⟨hr, ?_⟩
      obtain ⟨m1, hm1, _⟩ := J1.loc
      exact hR _ _ m1 H' s1 (I3.unblock hf3 J1) hm1 (I3.fpOk (Nat.le_refl _) J1.free) hq
    · refine thn (T.item (cxComp X N' sc cl s3 (upd H s.heap.objs.size (.lst [])) fp) rfl rfl rfl hc i [] s' _ H' NoX Ji (fpx fri) sti hgo) fun r s1 ⟨u, hr, h4⟩ => .inr ⟨u, hr, thn h4 fun _ s5 ⟨x, H5, J5, r5, y5, st5, fr5⟩ => ?_⟩
      have J5' := J5.pinned (fpx fr5) (T.obj _ _ st5)
      refine thn (hg _ _ _ _ s5 _ H5 x u _ J5' r5 (hbody x H5 y5)) fun _ s6 ⟨σ6, H6, J6, ext, q6⟩ => ?_
      have endT : ∀ {ys' : List V} {H7 : Hp} {s7 : Shared} {m' : Nat}, Inv (cxComp X N' sc cl s3 (upd H s.heap.objs.size (.lst [])) fp) ([] ++ pinsAt fp s5.heap) σ6 H7 s7 → m' < n → W (i + 1) m' ys' H7 →
          ∃ m, m < n ∧ ∃ i ys H', Inv (cxComp X N' sc cl s3 (upd H s.heap.objs.size (.lst [])) fp) [] (capS cap σ) H' s7 ∧ tn i s7.heap ∧ (∀ b ∈ fp, H' b = none) ∧ W i m ys H' := fun {ys' H7 s7 m'} J7 hm w7 => by
        refine ⟨m', hm, i + 1, ys', H7, (J7.unpinned).weak ?_ fun j v z => ext.at j v z, T.keep _ _ _ st5 fun b hb o e => (J7.pin (b, o) (List.mem_append_right _ (List.mem_append_right _ (mem_pinsAt hb e)))).1, fun b hb => ?_, w7⟩
        · rw [J7.len, Ji.len]
        · obtain ⟨o, e, _⟩ := T.obj _ _ st5 b hb
          exact (J7.pin (b, o) (List.mem_append_right _ (List.mem_append_right _ (mem_pinsAt hb e)))).2.1
      refine thn (ht _ _ _ _ s6 _ H6 _ J6 q6) fun ok s7 ⟨H7, J7, q7⟩ => ?_
      cases ok with
      | false =>
        obtain ⟨m', hm, w7⟩ := q7
        exact endT J7 hm w7
      | true =>
        refine thn (he _ _ _ _ s7 _ H7 _ J7 q7) fun y s8 ⟨yv, H8, J8, r8, hD8, m', hm, w8⟩ => ?_
        exact thn (mt_append _ s8 _ H8 (.ref s.heap.objs.size) [yv] (.ref s.heap.objs.size) [y] (fun v H9 => H9 = upd H8 s.heap.objs.size (.lst (ys ++ [yv]))) J8 rfl (.cons r8 .nil) ⟨_, ys, yv, rfl, rfl, hD8, hlen, rfl⟩) fun _ s9 ⟨_, H9, J9, _, e9⟩ => by
          subst e9
          exact endT J9 hm w8
  subst hs3
  exact codeAny_compStart_list (loop _ rfl) (T.self _ 0 _ _ _ st1 (loop _ rfl))
/-- [el for tg in src if ..], as a value -/
theorem pe_lc (L : LcOk X N' sc cl cap) (hc : X.calm = true) (hi : PI X tg src wi) (hg : ∀ s H fp, PG (cxComp X N' sc cl s H fp) tg g) (ht : ∀ s H fp, PTs (cxComp X N' sc cl s H fp) cs tt) (he : ∀ s H fp, PE (cxComp X N' sc cl s H fp) el te)
    (hs : ∀ x, foldedSetIterable src X.env x = pure x := by intro _; rfl) : PE X (.ListComp el [⟨tg, src, cs, 0⟩] sc at') (tLC cap wi g tt te) := by
  intro pins s σ H Q I h
  rw [eval_ListComp]
  refine wpAny_comprehension_free (use := none) rfl hs L.clos L.kind L.names (thn (hi pins s σ H _ I h) fun v s1 h1 => thn h1 fun itv s2 h2 => ?_)
  obtain ⟨it, fp, tn, J, H2, rfl, I2, T, st2, f2, rd⟩ := h2
  refine comp_main L hc I2 T st2 f2 hg ht he rd (RR := fun acc C => compPost (model X.prog X.w) X.A X.xe none (EP X pins σ Q) acc C) fun D C m H' s' J' hn fC q => ?_
  refine ⟨m, hn, fun h' sb => ⟨.ref D, H', J'.turned (t' := s'.toks) (fun b o hb e => (sb.2 b hb).trans e) fC.1 fC.2.1 fC.2.2.2.1 fC.2.2.2.2.1 fC.2.2.2.2.2, rfl, q⟩⟩
/-- x = [el for tg in src if ..] where the machine stores ahead of letting the clause's names go -/
theorem ps_lc (hN : X.N.Nodup) (hi' : X.N[i]? = some x) (hx : X.env.scope.names.lookup x = some .local) (L : LcOk X N' sc cl cap) (hc : X.calm = true) (hi : PI X tg src wi) (hg : ∀ s H fp, PG (cxComp X N' sc cl s H fp) tg g)
    (ht : ∀ s H fp, PTs (cxComp X N' sc cl s H fp) cs tt) (he : ∀ s H fp, PE (cxComp X N' sc cl s H fp) el te) (hsw : swapsWith (.ListComp el [⟨tg, src, cs, 0⟩] sc at') (some (.Name x px)) spos.line X.env = pure true)
    (hs : ∀ x, foldedSetIterable src X.env x = pure x := by intro _; rfl) : PS X (.Assign [.Name x px] (.ListComp el [⟨tg, src, cs, 0⟩] sc at') spos) (tAsg (tLC cap wi g tt te) (gName i)) := by
  intro pins s σ H D I h
  rw [exec_Assign_Name_used _ _ _ _ hsw]
  refine wpAny_bind (wpAny_standAt (wpAny_bind ?_))
  refine wpAny_bind (thn (wpAny_comprehension_free (use := some (assign (.Name x px) X.env)) (Q := fun _ s' => SP X pins D .next s') rfl hs L.clos L.kind L.names (thn (hi pins s σ H _ I h) fun v s1 h1 => thn h1 fun itv s2 h2 => ?_)) fun _ s' q => wpAny_pure (wpAny_pure q))
  obtain ⟨it, fp, tn, J, H2, rfl, I2, T, st2, f2, rd⟩ := h2
  refine comp_main L hc I2 T st2 f2 hg ht he rd (RR := fun acc C => compPost (model X.prog X.w) X.A X.xe (some (assign (.Name x px) X.env)) (fun _ s' => SP X pins D .next s') acc C) fun D' C m H' s' J' hn fC q => ?_
  obtain ⟨oC, es, ep, hoC, hdC, hr⟩ := hn
  have Jp : Inv X (pins ++ [(C, oC)]) σ H' s' := J'.pins_of fun p hp => by
    rcases List.mem_append.mp hp with z | z
    · exact J'.pin p (List.mem_append_right _ z)
    · have e : p = (C, oC) := by simpa using z
      subst e
      exact ⟨hoC, fC.1, fC.2.1, fC.2.2.1, fun v z => by rw [hdC] at z; cases z⟩
  refine thn (pg_name (i := i) hN hi' (.inl hx) (.inr hx) _ s' σ H' (.ref D') (.ref D') (fun σ' H'' => D.nx σ' H'') Jp rfl q) fun _ s'' ⟨σ', H'', J2, q2⟩ => ?_
  obtain ⟨p1, p2, p3, p4, p5⟩ := J2.pin (C, oC) (List.mem_append_right _ (List.mem_append_right _ (by simp)))
  refine ⟨m, ⟨oC, es, ep, p1, hdC, hr⟩, fun h' sb => ⟨σ', H'', (J2.pins_of (pins' := pins) fun p hp => J2.pin p (List.mem_append_right _ (List.mem_append_left _ hp))).turned (t' := s''.toks) (fun b o hb e => (sb.2 b hb).trans e) p2 fC.2.1 fC.2.2.2.1 fC.2.2.2.2.1 fC.2.2.2.2.2, q2⟩⟩
end
end L2

/-! ### errors: how one lies behind a call, raised, passed on -/
namespace L2
open PySem PySem.Spec PyProof.Rows
section
variable {M : Model} {A : Around} {E : Value → Shared → Prop} {s : Shared} {base : Heap} {env : Env} {outer : List Env} {L a : Addr} {oe : Obj} {vs : Array Value} {as : List Addr} {Q : Unit → Shared → Prop}
end
/-- an error in flight: new since h0, not tracked, of the class cls -/
structure Fly (h0 : Heap) (H : Hp) (h : Heap) (a : Addr) (cls : Value) : Prop where
  ex : ∃ oe vs T oT ts, h.get? a = some oe ∧ oe.cls = cls ∧ oe.dict = none ∧ oe.data = .fields vs ∧ vs[1]? = some (.ref T) ∧ T ≠ a ∧ h.get? T = some oT ∧ oT.data = .fields ts ∧ ts[3]? = some .none ∧ H T = none ∧ h0.get? T = none
  un : H a = none
  new : h0.get? a = none
noncomputable def CXe (P : Program) (w : World) : CXT := fun outer H s E e s' => ∃ a cls H', e = .ref a ∧ s'.os = s.os ∧ AllBare s'.gens ∧ Un (frs outer) [] H H' s.heap s'.heap ∧ HOk P w H' s'.heap ∧ Fly s.heap H' s'.heap a cls ∧ E cls none H'
section
variable {X : Cx} {pins : List (Addr × Obj)} {σ : St} {H1 H' : Hp} {s1 s' : Shared} {a : Addr} {cls : Value} {E : XK}
end
end L2

/-! ### errors raised and caught -/
namespace L2
open PySem PySem.Spec PyProof.Rows
abbrev bmV : List Value := [.type "ValueError", .type "Exception", .type "BaseException", .type "object"]
/-- a class of the text under ValueError, without an __init__ of its own -/
noncomputable abbrev ExcC (K : PySem.W.Frag) (C : Addr) : Prop := PySem.W.excIn K C bmV "ValueError.__new__" = true
end L2

/-! ### classes: a method through the class's name, methods of an object whose class is not fixed, kinds -/
namespace L2
open PySem PySem.Spec PyProof.Rows
/-- C.m, read off the class C: a def -/
structure ClsFn (K : PySem.W.Frag) (C : Addr) (m : Str) (f : Addr) : Prop where
  ga : PySem.W.specialIn K (.ref C) "__getattribute__" = some (some (.builtin "type.__getattribute__"))
  rd : PySem.W.readsIn K C (.type "type") = true
  fc : PySem.W.findCls K (.ref C) (.type "type") m = some (.val (.ref f))
  kp : PySem.W.keepIn K (.ref f) = true
section
variable {X : Cx} {CX : CXT} {k : Nat} {f C : Addr} {fd : FuncData} {ps : List Str} {sp : Sp} {dvs : List V} {ds : List Value} {E : XK} {x m : Str} {p pos apos : Pos} {e o : Expr} {es : List Expr} {ta : TE} {t : TA}
theorem pe_clsM (hg : Gl X x) (hm : X.mg x = some (.ref C)) (c : ClsFn X.K C m f) (F : FnOk X.prog X.w X.K X.mg X.base CX k f fd ps sp) (hr : Room k X.A) (hb : Binds X.K fd ps ds) (hd : Vals dvs ds) (hx : Passes CX X E) (ha : PA X (e :: es) t)
    (hdb : (x == ("__debug__" : Str)) = false := by decide) (hst : starEach (e :: es) X.env = (false, eval e X.env) :: starEach es X.env := by rfl) (hpl : (backTo pos (starEach es X.env)).any (·.1) = false := by rfl)
    (ht : eval (.Call (.Attribute (.Name x p) m apos) (e :: es) [] pos) X.env = (do
      let ov ← eval (.Name x p) X.env
      standAt apos.atName
      let (f, first) ← holding [ov] (getMethod ov m pl)
      callWith pos f first (backTo pos (starEach (e :: es) X.env)) (backToKw pos (keywordEach [] X.env))) := by rfl) : PE X (.Call (.Attribute (.Name x p) m apos) (e :: es) [] pos) (tCall sp dvs E t) := by
  intro pins s σ H Q I h
  refine PySem.W.methodCall_KW (pl := pl) (ld_glob I hg hm ?_ hdb) ht
  refine PySem.W.method_cls I.kIn c.ga (PySem.W.cls_value I.kIn c.rd c.fc rfl ?_)
  have I' := I.tok (s.toks + 1)
  refine PySem.W.callWith_K (first := []) (h₀ := X.base) I.ok.mod.kin c.kp (thn (ha pos pins _ σ H _ I' h) fun us s1 ⟨vs, H1, I1, r, q⟩ => ⟨I1.kIn, ?_⟩) hst hpl
  exact run_fn F hr hb hd hx I1 r q
end
/-- the method m of the class C keeps sp -/
structure OkM (P : Program) (w : World) (K : PySem.W.Frag) (mg : Str → Option Value) (base : Heap) (CX : CXT) (k : Nat) (C : Addr) (m : Str) (ps : List Str) (sp : Sp) : Prop where
  ex : ∃ f fd, FnOk P w K mg base CX k f fd ps sp ∧ Binds K fd ps [] ∧ Meth K C m f ∧ Cls K C
/-- numbers handed to a method of the object at a, which is a kind of the size z -/
noncomputable def spKM (KA : Hp → Addr → Int → Prop) (a : Addr) (z : Int) (n : Nat) (pre : Int → List Int → Prop) (F : Int → List Int → Int) : Sp := fun vs H Q _ => ∃ ns : List Int, ns.length = n ∧ vs = .ref a :: ns.map V.int ∧ KA H a z ∧ pre z ns ∧ Q (.int (F z ns)) H
structure KM (P : Program) (w : World) (K : PySem.W.Frag) (mg : Str → Option Value) (base : Heap) (k : Nat) (KA : Hp → Addr → Int → Prop) (m : Str) (n : Nat) (pre : Int → List Int → Prop) (F : Int → List Int → Int) : Prop where
  ex : ∀ H a z, KA H a z → ∃ C dx fs ps, H a = some (.ins C dx fs) ∧ fs.lookup m = none ∧ OkM P w K mg base CX0 k C m ps (spKM KA a z n pre F)
section
variable {X : Cx} {j k n : Nat} {x m : Str} {px pos apos : Pos} {e : Expr} {es : List Expr} {KA : Hp → Addr → Int → Prop} {pre : Int → List Int → Prop} {F : Int → List Int → Int} {C : St → Hp → Prop} {g : St → List Int}
end
/-- C.m read off the class under its name keeps sp -/
structure OkC (P : Program) (w : World) (K : PySem.W.Frag) (mg : Str → Option Value) (base : Heap) (CX : CXT) (k : Nat) (x : Str) (C : Addr) (m : Str) (ps : List Str) (sp : Sp) : Prop where
  ex : ∃ f fd, FnOk P w K mg base CX k f fd ps sp ∧ Binds K fd ps [] ∧ ClsFn K C m f ∧ mg x = some (.ref C)
/-- C(..) under its name: its __init__ keeps sp -/
structure OkI (P : Program) (w : World) (K : PySem.W.Frag) (mg : Str → Option Value) (base : Heap) (CX : CXT) (k : Nat) (x : Str) (C : Addr) (ps : List Str) (sp : Sp) : Prop where
  ex : ∃ f fd, FnOk P w K mg base CX k f fd ps sp ∧ Binds K fd ps [] ∧ Mk K C f ∧ mg x = some (.ref C)
section
variable {X : Cx} {CX : CXT} {j k : Nat} {C : Addr} {ps : List Str} {sp : Sp} {E : XK} {x m : Str} {p pos apos : Pos} {e : Expr} {es : List Expr} {t : TA}
theorem pe_clsO (o : OkC X.prog X.w X.K X.mg X.base CX j x C m ps sp) (hr : Room k X.A) (hx : Passes CX X E) (ha : PA X (e :: es) t) (hj : j ≤ k := by decide) (hg : Gl X x := by rfl)
    (hdb : (x == ("__debug__" : Str)) = false := by decide) (hst : starEach (e :: es) X.env = (false, eval e X.env) :: starEach es X.env := by rfl) (hpl : (backTo pos (starEach es X.env)).any (·.1) = false := by rfl)
    (ht : eval (.Call (.Attribute (.Name x p) m apos) (e :: es) [] pos) X.env = (do
      let ov ← eval (.Name x p) X.env
      standAt apos.atName
      let (f, first) ← holding [ov] (getMethod ov m pl)
      callWith pos f first (backTo pos (starEach (e :: es) X.env)) (backToKw pos (keywordEach [] X.env))) := by rfl) : PE X (.Call (.Attribute (.Name x p) m apos) (e :: es) [] pos) (tCall sp [] E t) := by
  obtain ⟨f, fd, F, b, c, mm⟩ := o.ex
  exact pe_clsM hg mm c (F.mono hj) hr b .nil hx ha hdb hst hpl ht
theorem pe_makeO0 (o : OkI X.prog X.w X.K X.mg X.base CX j x C ps sp) (hr : Room k X.A) (hx : Passes CX X E) (hj : j + 1 ≤ k := by decide) (hg : Gl X x := by rfl) (hdb : (x == ("__debug__" : Str)) = false := by decide) : PE X (.Call (.Name x p) [] [] pos) (tMake C sp [] E tNil) := by
  obtain ⟨f, fd, F, b, c, mm⟩ := o.ex
  exact pe_make0 c F (hr.mono hj) hg mm b .nil hx hdb
end
/-- numbers of numbers and of a list of numbers that stands first -/
noncomputable def spS (K : PySem.W.Frag) (n : Nat) (pre : List Int → List Int → Prop) (F : List Int → List Int → Int) : Sp := fun vs H Q _ => ∃ (a : Addr) (xs is : List Int), is.length = n ∧ vs = .ref a :: is.map V.int ∧ SqL K H a (xs.map V.int) ∧ pre xs is ∧ Q (.int (F xs is)) H
section
variable {X : Cx} {j k n : Nat} {x y : Str} {py pos p : Pos} {es : List Expr} {ps : List Str} {pre : List Int → List Int → Prop} {F : List Int → List Int → Int} {C : St → Hp → Prop} {g : St → List Int}
end
/-- a kind: Wholes (size 0), Rests or Powers (size above 0); cW, cR, cP the classes -/
noncomputable def kMeths : List Str := ["plain", "plus", "less", "times", "over"]
noncomputable def KAt (cW cR cP : Addr) (H : Hp) (a : Addr) (z : Int) : Prop := ∃ C dx fs, H a = some (.ins C dx fs) ∧ ((C = cW ∧ z = 0) ∨ ((C = cR ∨ C = cP) ∧ 0 < z)) ∧ fs.lookup ("size" : Str) = some (.int z) ∧ ∀ m ∈ kMeths, fs.lookup m = none
/-- the number that stands for n in a kind of size z -/
noncomputable def pl (z n : Int) : Int := if z = 0 then n else n % z
theorem pl_pos (h : 0 < z) : pl z n = n % z := by unfold pl; rw [if_neg (by omega)]
end L2

/-! ### what else a loop walks: enumerate, reversed, zip -/
namespace L2
open PySem PySem.Spec PyProof.Rows
section
variable {X : Cx} {pins : List (Addr × Obj)} {σ : St} {H : Hp} {s : Shared} {h' : Heap}
/-- several records of an iterator have turned -/
theorem Inv.turnedL {ch : List Addr} {t' : Nat} (I : Inv X pins σ H s) (hf : ∀ b ∈ ch, FpOk X pins H b) (k : ∀ b o, b ∉ ch → s.heap.get? b = some o → h'.get? b = some o) : Inv X pins σ H { s with heap := h', toks := t' } := by
  have nit : ∀ b u, H b = some u → b ∉ ch := fun b u e z => by rw [(hf b z).1] at e; cases e
  refine I.step (g' := s.gens) (d' := s.drawn) (ch := ch) (fun b hb => ⟨(hf b hb).2.2.2.1, (hf b hb).2.1, (hf b hb).2.2.2.2.1, (hf b hb).2.2.2.2.2⟩) (fun b o _ _ hc e _ => k b o hc e) (fun b o _ _ hc e _ => ⟨o.slots, k b o hc e⟩) (fun _ _ _ _ n => n)
    (fun b o hc e => ⟨o, k b o hc e⟩) (fun _ _ e => e) (fun _ _ _ e => e) (fun b ps e => ⟨#[], by rw [e]; simp⟩) (fun m hm => ?_) (fun b u e => ?_) I.bare
  · obtain ⟨o, es, ep, ho, r⟩ := hm
    exact ⟨o, es, ep, k _ o (fun z => (hf _ z).2.1 rfl) ho, r⟩
  · refine (I.hok b u e).stay (fun c v hc q => k c v ?_ q) (fun _ q => q) fun _ _ q => q
    rcases hc with z | z
    · rw [z]; exact nit b u e
    · exact nit c _ z
/-- an object that stands there is tracked from now on -/
theorem Inv.track (I : Inv X pins σ H s) (f : FpOk X pins H T) (new : ObjOk X.prog X.w (upd H T o) s.heap T o) : Inv X pins σ (upd H T o) s := by
  obtain ⟨f0, f1, f2, f3, f4, f5⟩ := f
  have ne : ∀ {b : Addr} {u : HO}, H b = some u → b ≠ T := fun e => ne_of_none e f0
  refine ⟨I.ok, I.os, I.bare, ⟨I.base.keep, I.base.slot, fun b ob e n x => ?_, I.base.there, fun b xs e => ?_, fun b ob u e => ?_, fun b ps e => ?_⟩, I.loc, I.cell, by rw [upd_ne (Ne.symm f1)]; exact I.free, fun x c e => ?_, fun p hp => ?_, fun b u e => ?_, I.len⟩
  · have hb : b ≠ T := fun z => by
      subst z
      rcases f3 with z | z
      · exact x z
      · exact absurd (Nat.lt_of_lt_of_le (Heap.lt_size e) z) (Nat.lt_irrefl _)
    rw [upd_ne hb]; exact I.base.free b ob e n x
  · have q := I.base.tups b xs e
    rw [upd_ne (ne q)]; exact q
  · have q := I.base.frzs b ob u e
    rw [upd_ne (ne q)]; exact q
  · obtain ⟨m, q⟩ := I.base.tbls b ps e
    exact ⟨m, by rw [upd_ne (ne q)]; exact q⟩
  · rw [upd_ne (f4 x c e)]; exact I.freeC x c e
  · obtain ⟨a1, a2, a3⟩ := I.pin p hp
    exact ⟨a1, by rw [upd_ne (f5 p hp)]; exact a2, a3⟩
  · by_cases c : b = T
    · subst c; rw [upd_same] at e; cases e; exact new
    · rw [upd_ne c] at e
      exact (I.hok b u e).stay (fun _ _ _ q => q) (fun d q => by rw [upd_ne (ne q)]; exact q) (fun d xs q => by rw [upd_ne (ne q)]; exact q) fun d _ _ q => by rw [upd_ne (ne q)]; exact q
end
/-- enumerate(the list at a): a pair (place, item) each turn -/
noncomputable def Ite (K : PySem.W.Frag) (a : Addr) : It :=
  ⟨fun i H => ∃ xs x, SqL K H a xs ∧ xs[i]? = some x, fun i H v H' => ∃ T y, v = .ref T ∧ H T = none ∧ H' = upd H T (.tup [.int i, y]) ∧ ∀ xs, SqL K H a xs → xs[i]? = some y, fun i H => ∃ xs, SqL K H a xs ∧ xs.length ≤ i⟩
theorem turn_enum {P : Program} {w : World} {K : PySem.W.Frag} {els : List Expr} {kk : Nat} {tp : Pos} (a e it : Addr) (hne : e ≠ it) : Turn P w K (.Tuple els kk tp) (Ite K a) [e, it] e (fun i h => (∃ old, IsEnum h e it i old) ∧ h.IsListIter it a i) where
  mem := by simp
  obj := fun i h st b hb => by
    obtain ⟨⟨old, he⟩, o, ho, _, hd⟩ := st
    rcases List.mem_cons.mp hb with rfl | hb
    · exact ⟨_, he, fun v z => by cases z⟩
    · have q : b = it := by simpa using hb
      subst q
      exact ⟨o, ho, fun v z => by rw [hd] at z; cases z⟩
  keep := fun i h h' st k => by
    obtain ⟨⟨old, he⟩, hit⟩ := st
    exact ⟨⟨old, k e (by simp) _ he⟩, hit.at fun o q => k it (by simp) o q⟩
  item := by
    intro X hP hw hK hc i pins s σ H E I hf st hg
    subst hP hw hK
    obtain ⟨xs, x, hq, hx⟩ := hg
    obtain ⟨⟨old, he⟩, hit⟩ := st
    obtain ⟨its, rv, p, hz⟩ := I.list hq
    obtain ⟨u, hu, ru⟩ := rv.get hx
    refine wpAny_pyNext_enum_item he hit p.isList (x := u) (by simpa using hu) hne fun h1 ho hit1 hT hsz hk => ⟨_, rfl, ?_⟩
    refine wpAny_letOwnedTupleGo_enum ho fun h2 he2 hs2 => ?_
    have Te : s.heap.objs.size ≠ e := Nat.ne_of_gt (Heap.lt_size he)
    have keep2 : ∀ b o, b ∉ [e, it] → s.heap.get? b = some o → h2.get? b = some o := fun b o hb q => by
      have b1 : b ≠ e := fun z => hb (by simp [z])
      have b2 : b ≠ it := fun z => hb (by simp [z])
      exact (hs2.2 b b1).trans (hk b o b1 b2 q)
    have I1 : Inv X pins σ H { s with heap := h2, toks := s.toks + 1 } := I.turnedL hf keep2
    have fT : FpOk X pins H s.heap.objs.size := I.fpOk (Nat.le_refl _) (I.hok.fresh (Nat.le_refl _))
    have I2 := I1.track (o := .tup [.int i, x]) fT ⟨by show 2 ≤ sizeLine; decide, [.int i s.toks, u], .cons ⟨_, rfl⟩ (.cons ru .nil), ⟨_, (hs2.2 _ Te).trans hT, rfl, _, rfl⟩⟩
    refine ⟨.ref s.heap.objs.size, _, I2, rfl, ⟨_, x, rfl, fT.1, rfl, fun ys hy => by rw [I.list_inj hy hq]; exact hx⟩, ⟨⟨_, by exact_mod_cast he2⟩, ?_⟩, fun b hb => ?_⟩
    · obtain ⟨o, q, r⟩ := hit1
      exact ⟨o, (hs2.2 it (Ne.symm hne)).trans q, r⟩
    · rw [upd_ne]
      · exact (hf b hb).1
      · rcases List.mem_cons.mp hb with rfl | hb
        · exact Ne.symm Te
        · have q : b = it := by simpa using hb
          subst q
          obtain ⟨o, q, _⟩ := hit
          exact Nat.ne_of_lt (Heap.lt_size q)
  done := by
    intro X hP hw hK hc i pins s σ H E I hf st hg
    subst hP hw hK
    obtain ⟨xs, hq, hx⟩ := hg
    obtain ⟨⟨old, he⟩, hit⟩ := st
    obtain ⟨its, rv, p, hz⟩ := I.list hq
    have hl := rv.length
    exact wpAny_pyNext_enum_end (I.ok.hd hc) he hit p.isList (by simp; omega) fun h1 eb => ⟨rfl, I.turnedL hf fun b o hb q => eb b o (fun z => hb (by simp [z])) q⟩
  self := fun A i s Q E st h => by
    obtain ⟨⟨old, he⟩, _⟩ := st
    exact wpAny_pyIter_enum he h
theorem bt_enumerate : bootBuiltins "enumerate" = some (.type "enumerate") := by decide +kernel
noncomputable def iEnum (K : PySem.W.Frag) (ta : TA) : TI := fun σ H R => ta σ H fun vs H1 => ∃ a, vs = [.ref a] ∧ (∃ xs, SqL K H1 a xs) ∧ R (Ite K a) H1
theorem pi_enum {X : Cx} {els : List Expr} {kk : Nat} {tp : Pos} {l : Expr} {ta : TA} {p pos : Pos} (hg : Gl X "enumerate") (hm : X.mg "enumerate" = none) (ha : PA X [l] ta) (hs : starEach [l] X.env = [(false, eval l X.env)] := by rfl) :
    PI X (.Tuple els kk tp) (.Call (.Name "enumerate" p) [l] [] pos) (iEnum X.K ta) := by
  intro pins s σ H R I h
  refine Call_ (ld_blt I hg hm bt_enumerate (PyProof.Rows.callWith_type1 (thn (ha pos pins s σ H _ I h) fun us s1 ⟨vs, H1, I1, r1, q1⟩ => ?_) hs rfl))
  obtain ⟨a, rfl, ⟨xs, hq⟩, q⟩ := q1
  obtain ⟨u, rfl, ru⟩ := vals1 r1
  cases ru
  obtain ⟨its, rv, p', hz⟩ := I1.list hq
  refine call_enumerate_list p'.isList fun h1 he hit hsz hk => ?_
  refine wpAny_pyIter_enum he ?_
  have I2 : Inv X pins σ H1 { s1 with heap := h1 } := I1.kept (t' := s1.toks) hk
  refine ⟨_, [s1.heap.objs.size + 1, s1.heap.objs.size], _, _, H1, rfl, I2, turn_enum a (s1.heap.objs.size + 1) s1.heap.objs.size (Nat.succ_ne_self _), ⟨⟨_, he⟩, hit⟩, fun b hb => ?_, q⟩
  rcases List.mem_cons.mp hb with rfl | hb
  · exact I1.fpOk (Nat.le_succ _) (I1.hok.fresh (Nat.le_succ _))
  · have e : b = s1.heap.objs.size := by simpa using hb
    subst e
    exact I1.fpOk (Nat.le_refl _) (I1.hok.fresh (Nat.le_refl _))
/-! the forms one uses -/
/-- for k, v in enumerate(a): the body leaves the list as it is -/
theorem for_enum {K : PySem.W.Frag} {a : Addr} {xs : List V} {g : TG} {tb : TS} {D : Ends} {σ : St} {H : Hp} (Pv : Nat → St → Hp → Prop) (h0 : Pv 0 σ H) (hl : ∀ i σ H, i ≤ xs.length → Pv i σ H → SqL K H a xs)
    (hs : ∀ i x σ H T, xs[i]? = some x → Pv i σ H → H T = none → g (.ref T) σ (upd H T (.tup [.int i, x])) fun σ2 H2 => tb { D with nx := Pv (i + 1), ct := Pv (i + 1), bk := D.nx } σ2 H2) (hd : ∀ σ H, Pv xs.length σ H → D.nx σ H) :
    ∃ W : Nat → Nat → St → Hp → Prop, (∃ m, W 0 m σ H) ∧ ∀ i m σ H, W i m σ H →
      ((Ite K a).stop i H ∧ D.nx σ H) ∨ ((Ite K a).go i H ∧ ∃ N : St → Hp → Prop, (∀ σ' H', N σ' H' → ∃ m', m' < m ∧ W (i + 1) m' σ' H') ∧ ∀ x H', (Ite K a).yld i H x H' → g x σ H' fun σ2 H2 => tb { D with nx := N, ct := N, bk := D.nx } σ2 H2) := by
  refine ⟨fun i m σ H => m = xs.length - i ∧ i ≤ xs.length ∧ Pv i σ H, ⟨xs.length, by simp, Nat.zero_le _, h0⟩, ?_⟩
  rintro i m σ H ⟨rfl, hi, p⟩
  have q := hl i σ H hi p
  by_cases hlt : i < xs.length
  · refine .inr ⟨⟨xs, xs[i], q, by simp [hlt]⟩, Pv (i + 1), fun σ' H' p' => ⟨xs.length - (i + 1), by omega, rfl, hlt, p'⟩, fun x H' y => ?_⟩
    obtain ⟨T, z, rfl, hT, rfl, hz⟩ := y
    exact hs i z σ H T (hz xs q) p hT
  · have e : i = xs.length := by omega
    subst e
    exact .inl ⟨⟨xs, q, Nat.le_refl _⟩, hd σ H p⟩
end L2

/-! ### comprehensions of numbers, as one uses them -/
namespace L2
open PySem PySem.Spec PyProof.Rows
theorem int_at {ns : List Int} {i : Nat} {x : V} (h : (ns.map V.int)[i]? = some x) : ∃ n, x = .int n ∧ ns[i]? = some n := by
  rw [List.getElem?_map] at h
  cases e : ns[i]? with
  | none => rw [e] at h; cases h
  | some n => rw [e] at h; exact ⟨n, (Option.some.inj h).symm, rfl⟩
theorem at_mem {ns : List Int} {i : Nat} {n : Int} (h : ns[i]? = some n) : n ∈ ns := List.mem_of_getElem? h
theorem at_lt {α : Type} {ns : List α} {i : Nat} {n : α} (h : ns[i]? = some n) : i < ns.length := (List.getElem?_eq_some_iff.mp h).1
theorem take_at {α : Type} {ns : List α} {i : Nat} {n : α} (h : ns[i]? = some n) : ns.take (i + 1) = ns.take i ++ [n] := by rw [List.take_add_one, h]; rfl
noncomputable abbrev noTest : TT := fun _ H Q => Q true H
section
variable {K : PySem.W.Frag} {a D : Addr} {ns : List Int} {σ : St} {C : St → Hp → Prop} {g : St → Int} {Q : VK} {H1 : Hp}
end
end L2

/-! ### the mathematics: primes up to 9973, rests, noughts cut, values -/
namespace FM
open L2
noncomputable def IsP (n : Int) : Prop := 2 ≤ n ∧ n ≤ 9973 ∧ ∀ d : Int, 2 ≤ d → d * d ≤ n → ¬ n % d = 0
open Classical in
noncomputable def Clean (n d : Int) : Prop := ∀ e : Int, 2 ≤ e → e < d → ¬ n % e = 0
/-! rests -/
theorem pl_pl (z n : Int) : pl z (pl z n) = pl z n := by
  unfold pl
  by_cases h : z = 0
  · rw [if_pos h, if_pos h]
  · rw [if_neg h, if_neg h, Int.emod_emod_of_dvd _ (Int.dvd_refl z)]
theorem pl_lt (h : 0 < z) : 0 ≤ pl z n ∧ pl z n < z := by
  rw [pl_pos h]
  exact ⟨Int.emod_nonneg _ (by omega), Int.emod_lt_of_pos _ h⟩
/-! noughts at the end -/
noncomputable def trimZ (xs : List Int) : List Int := (xs.reverse.dropWhile (· == 0)).reverse
theorem trimZ_zero (xs : List Int) : trimZ (xs ++ [0]) = trimZ xs := by
  unfold trimZ
  rw [List.reverse_append]
  simp
theorem trimZ_ne (xs : List Int) (h : x ≠ 0) : trimZ (xs ++ [x]) = xs ++ [x] := by
  unfold trimZ
  rw [List.reverse_append]
  simp [h]
theorem trimZ_len (xs : List Int) : (trimZ xs).length ≤ xs.length := by
  unfold trimZ
  have := (List.dropWhile_sublist (· == 0) (l := xs.reverse)).length_le
  simpa using this
/-! sizes -/
/-! values -/
noncomputable def ev : List Int → Int → Int
  | [], _ => 0
  | n :: r, x => n + x * ev r x
end FM

/-! ### a reading of defs by pure values: what stands in the slots, without the heap -/
namespace L3
open PySem PySem.Spec PyProof.Rows L2
inductive PV where
  | int (n : Int) | bl (b : Bool) | non | str (s : Str) | ints (ns : List Int) | scr (ns : List Int) | lst (xs : List PV) | tup (xs : List PV) | ob (k : Nat) (z : Int) | ty (n : String) | cls (a : Addr)
/-- what stands for own objects: k the sort, z its number -/
structure Gx where
  ob : Nat → Hp → Addr → Int → Prop
  mono : ∀ k H H' a z, Same H H' → ob k H a z → ob k H' a z
mutual
noncomputable def At (K : PySem.W.Frag) (G : Gx) (H : Hp) : PV → V → Prop
  | .int n, v => v = .int n
  | .bl b, v => v = .bl b
  | .non, v => v = .non
  | .str s, v => v = .str s
  | .ints ns, v => ∃ a, v = .ref a ∧ Rd H a (.lst (ns.map V.int))
  | .scr ns, v => ∃ a, v = .ref a ∧ SqL K H a (ns.map V.int)
  | .lst xs, v => ∃ a vs, v = .ref a ∧ Rd H a (.lst vs) ∧ AtL K G H xs vs
  | .tup xs, v => ∃ a vs, v = .ref a ∧ H a = some (.tup vs) ∧ AtL K G H xs vs
  | .ob k z, v => ∃ a, v = .ref a ∧ G.ob k H a z
  | .ty n, v => v = .ty n
  | .cls a, v => v = .ref a
noncomputable def AtL (K : PySem.W.Frag) (G : Gx) (H : Hp) : List PV → List V → Prop
  | [], vs => vs = []
  | p :: ps, vs => ∃ v r, vs = v :: r ∧ At K G H p v ∧ AtL K G H ps r
end
theorem same_rd (e : Same H H') (h : Rd H a (.lst xs)) : Rd H' a (.lst xs) := by
  rcases h with h | ⟨o, h⟩
  · exact .inl (e _ _ h)
  · exact .inr ⟨o, e _ _ h⟩
theorem same_tup {K : PySem.W.Frag} {H H' : Hp} {a : Addr} {xs : List V} (e : Same H H') (h : SqT K H a xs) : SqT K H' a xs := by
  rcases h with (h | ⟨o, h⟩) | h
  · exact .inl (.inl (e _ _ h))
  · exact .inl (.inr ⟨o, e _ _ h⟩)
  · exact .inr h
mutual
theorem At.mono {K : PySem.W.Frag} {G : Gx} {H H' : Hp} (s : Same H H') : ∀ (p : PV) (v : V), At K G H p v → At K G H' p v
  | .int _, _, h => h
  | .bl _, _, h => h
  | .non, _, h => h
  | .str _, _, h => h
  | .ints _, _, h => by obtain ⟨a, e, q⟩ := h; exact ⟨a, e, same_rd s q⟩
  | .scr _, _, h => by obtain ⟨a, e, q⟩ := h; exact ⟨a, e, s.seq q⟩
  | .lst xs, _, h => by obtain ⟨a, vs, e, q, r⟩ := h; exact ⟨a, vs, e, same_rd s q, AtL.mono s xs vs r⟩
  | .tup xs, _, h => by obtain ⟨a, vs, e, q, r⟩ := h; exact ⟨a, vs, e, s _ _ q, AtL.mono s xs vs r⟩
  | .ob _ _, _, h => by obtain ⟨a, e, q⟩ := h; exact ⟨a, e, G.mono _ _ _ _ _ s q⟩
  | .ty _, _, h => h
  | .cls _, _, h => h
theorem AtL.mono {K : PySem.W.Frag} {G : Gx} {H H' : Hp} (s : Same H H') : ∀ (ps : List PV) (vs : List V), AtL K G H ps vs → AtL K G H' ps vs
  | [], _, h => h
  | p :: ps, _, h => by obtain ⟨v, r, e, q, t⟩ := h; exact ⟨v, r, e, At.mono s p v q, AtL.mono s ps r t⟩
end
theorem AtL.length {K : PySem.W.Frag} {G : Gx} {H : Hp} : ∀ {ps : List PV} {vs : List V}, AtL K G H ps vs → ps.length = vs.length
  | [], _, h => by cases h; rfl
  | p :: ps, _, h => by
    obtain ⟨v, r, rfl, _, t⟩ := h
    rw [List.length_cons, List.length_cons, AtL.length t]
theorem AtL.get {K : PySem.W.Frag} {G : Gx} {H : Hp} : ∀ {ps : List PV} {vs : List V} {i : Nat} {v : V}, AtL K G H ps vs → vs[i]? = some v → ∃ p, ps[i]? = some p ∧ At K G H p v
  | [], _, i, v, h, e => by cases h; simp at e
  | p :: ps, _, 0, v, h, e => by
    obtain ⟨w, r, rfl, q, t⟩ := h
    simp at e
    subst e
    exact ⟨p, rfl, q⟩
  | p :: ps, _, i + 1, v, h, e => by
    obtain ⟨w, r, rfl, q, t⟩ := h
    obtain ⟨p', e', q'⟩ := AtL.get (i := i) (v := v) t (by simpa using e)
    exact ⟨p', by simpa using e', q'⟩
theorem AtL.at {K : PySem.W.Frag} {G : Gx} {H : Hp} : ∀ {ps : List PV} {vs : List V} {i : Nat} {p : PV}, AtL K G H ps vs → ps[i]? = some p → ∃ v, vs[i]? = some v ∧ At K G H p v
  | [], _, i, v, h, e => by simp at e
  | p :: ps, _, 0, v, h, e => by
    obtain ⟨w, r, rfl, q, t⟩ := h
    simp at e
    subst e
    exact ⟨w, rfl, q⟩
  | p :: ps, _, i + 1, v, h, e => by
    obtain ⟨w, r, rfl, q, t⟩ := h
    obtain ⟨v', e', q'⟩ := AtL.at (i := i) (p := v) t (by simpa using e)
    exact ⟨v', by simpa using e', q'⟩
theorem AtL.snoc {K : PySem.W.Frag} {G : Gx} {H : Hp} {p : PV} {v : V} : ∀ {ps : List PV} {vs : List V}, AtL K G H ps vs → At K G H p v → AtL K G H (ps ++ [p]) (vs ++ [v])
  | [], _, h, q => by cases h; exact ⟨v, [], rfl, q, rfl⟩
  | p' :: ps, _, h, q => by
    obtain ⟨w, r, rfl, q', t⟩ := h
    exact ⟨w, _, rfl, q', AtL.snoc t q⟩
/-- the heap less what is hidden -/
noncomputable def mn (H : Hp) (O : Addr → Bool) : Hp := fun b => if O b = true then none else H b
theorem mn_get (h : mn H O b = some o) : O b = false ∧ H b = some o := by
  unfold mn at h
  by_cases c : O b = true
  · rw [if_pos c] at h; cases h
  · rw [if_neg c] at h; exact ⟨by simpa using c, h⟩
theorem mn_of (h : O b = false) : mn H O b = H b := by unfold mn; rw [if_neg (by rw [h]; decide)]
theorem mn_le : Same (mn H O) H := same_mk fun _ _ h => (mn_get h).2
theorem mn_same (s : Same H H') : Same (mn H O) (mn H' O) := fun b o h => by
  obtain ⟨c, e⟩ := mn_get h
  rw [mn_of c]; exact s b o e
theorem mn_anti (k : ∀ a, O a = true → O' a = true) : Same (mn H O') (mn H O) := same_mk fun b o h => by
  obtain ⟨c, e⟩ := mn_get h
  have : O b = false := by
    cases z : O b with
    | false => rfl
    | true => rw [k b z] at c; cases c
  rw [mn_of this]; exact e
noncomputable def hide (a : Addr) (O : Addr → Bool) : Addr → Bool := fun b => b == a || O b
theorem hide_ne (h : b ≠ a) : hide a O b = O b := by unfold hide; simp [h]
theorem hide_self : hide a O a = true := by unfold hide; simp
theorem hide_le : ∀ b, O b = true → hide a O b = true := fun b h => by unfold hide; simp [h]
/-- a new address is hidden: what could be seen is still seen -/
theorem mn_hide (s : Same H H') (ha : H a = none) : Same (mn H O) (mn H' (hide a O)) := fun b o h => by
  obtain ⟨c, e⟩ := mn_get h
  rw [mn_of (by rw [hide_ne (ne_of_none e ha)]; exact c)]; exact s b o e
theorem mn_upd (h : O a = true) : mn (upd H a o) O = mn H O := by
  funext b
  unfold mn
  by_cases c : O b = true
  · rw [if_pos c, if_pos c]
  · rw [if_neg c, if_neg c, upd_ne (fun z => c (by rw [z]; exact h))]
/-- slots: not bound; bound to what nobody changes; to a list of one's own; to a list of such lists -/
inductive Sl where
  | un | fr (p : PV) | ow (p : PV) | o2 (xss : List (List Int))
noncomputable abbrev En := List Sl
structure Bs where
  H0 : Hp
  Oc : Addr → Bool
noncomputable def OwnAt (K : PySem.W.Frag) (G : Gx) (H : Hp) : PV → List V → Prop
  | .ints ns, vs => vs = ns.map V.int
  | .lst xs, vs => AtL K G H xs vs
  | _, _ => False
theorem OwnAt.mono {K : PySem.W.Frag} {G : Gx} {H H' : Hp} (s : Same H H') {p : PV} {vs : List V} (h : OwnAt K G H p vs) : OwnAt K G H' p vs := by
  cases p <;> first | exact h | exact AtL.mono s _ _ h
noncomputable def EachAt (H : Hp) (as : List Addr) (xss : List (List Int)) : Prop := as.length = xss.length ∧ ∀ (k : Nat) a, as[k]? = some a → H a = some (.lst ((xss.getD k []).map V.int))
theorem EachAt.mono {H H' : Hp} {as : List Addr} {xss : List (List Int)} (s : Same H H') (h : EachAt H as xss) : EachAt H' as xss := ⟨h.1, fun k a e => s _ _ (h.2 k a e)⟩
theorem EachAt.has {H : Hp} {as : List Addr} {xss : List (List Int)} (h : EachAt H as xss) {a : Addr} (m : a ∈ as) : H a ≠ none := fun z => by
  obtain ⟨k, e⟩ := List.mem_iff_getElem?.mp m
  rw [h.2 k a e] at z
  cases z
structure O2At (B : Bs) (σ : L2.St) (H : Hp) (ρ : En) (O : Addr → Bool) (i : Nat) (xss : List (List Int)) (D : Addr) (as : List Addr) : Prop where
  at_ : σ[i]? = some (some (.ref D))
  oD : O D = true
  nD : B.H0 D = none
  hD : H D = some (.lst (as.map V.ref))
  el : ∀ a ∈ as, O a = true ∧ B.H0 a = none
  ea : EachAt H as xss
  nd : as.Nodup
  un : ∀ (j : Nat) q c, ρ[j]? = some (.ow q) → σ[j]? = some (some (.ref c)) → c ≠ D ∧ c ∉ as
  one : ∀ (j : Nat) xss', ρ[j]? = some (.o2 xss') → j = i
structure Rep (K : PySem.W.Frag) (G : Gx) (B : Bs) (σ : L2.St) (H : Hp) (ρ : En) (O : Addr → Bool) : Prop where
  same : Same B.H0 H
  cd : ∀ a, B.Oc a = true → B.H0 a ≠ none
  hid : ∀ a, B.Oc a = true → O a = true
  dom : ∀ a, O a = true → H a ≠ none
  vis : ∀ a, O a = true → B.Oc a = true ∨ B.H0 a = none
  fr : ∀ (i : Nat) p, ρ[i]? = some (.fr p) → ∃ v, σ[i]? = some (some v) ∧ At K G (mn H O) p v
  ow : ∀ (i : Nat) p, ρ[i]? = some (.ow p) → ∃ a vs, σ[i]? = some (some (.ref a)) ∧ O a = true ∧ B.H0 a = none ∧ H a = some (.lst vs) ∧ OwnAt K G (mn H O) p vs
  inj : ∀ (i j : Nat) p q a, ρ[i]? = some (.ow p) → ρ[j]? = some (.ow q) → σ[i]? = some (some (.ref a)) → σ[j]? = some (some (.ref a)) → i = j
  len : σ.length = ρ.length
  o2 : ∀ (i : Nat) xss, ρ[i]? = some (.o2 xss) → ∃ D as, O2At B σ H ρ O i xss D as
section
variable {K : PySem.W.Frag} {G : Gx} {B : Bs} {σ : L2.St} {H H' : Hp} {ρ : En} {O : Addr → Bool} {i : Nat}
theorem Rep.grow (R : Rep K G B σ H ρ O) (s : Same H H') : Rep K G B σ H' ρ O := by
  refine ⟨R.same.trans s, R.cd, R.hid, fun a h z => R.dom a h (s.free z), R.vis, fun i p e => ?_, fun i p e => ?_, R.inj, R.len, fun i xss e => let ⟨D, as, q⟩ := R.o2 i xss e; ⟨D, as, q.at_, q.oD, q.nD, s _ _ q.hD, q.el, q.ea.mono s, q.nd, q.un, q.one⟩⟩
  · obtain ⟨v, e1, e2⟩ := R.fr i p e
    exact ⟨v, e1, At.mono (mn_same s) _ _ e2⟩
  · obtain ⟨a, vs, e1, e2, e3, e4, e5⟩ := R.ow i p e
    exact ⟨a, vs, e1, e2, e3, s _ _ e4, e5.mono (mn_same s)⟩
theorem set_at {α : Type} {l : List α} {i j : Nat} {x y : α} (h : (l.set i x)[j]? = some y) : (i = j ∧ y = x ∧ i < l.length) ∨ (i ≠ j ∧ l[j]? = some y) := by
  rw [List.getElem?_set] at h
  by_cases c : i = j
  · rw [if_pos c] at h
    by_cases c2 : i < l.length
    · rw [if_pos c2] at h; exact .inl ⟨c, (Option.some.inj h).symm, c2⟩
    · rw [if_neg c2] at h; cases h
  · rw [if_neg c] at h; exact .inr ⟨c, h⟩
theorem set_ne {α : Type} {l : List α} {i j : Nat} {x : α} (h : i ≠ j) : (l.set i x)[j]? = l[j]? := by rw [List.getElem?_set, if_neg h]
theorem set_eq {α : Type} {l : List α} {i : Nat} {x : α} (h : i < l.length) : (l.set i x)[i]? = some x := by rw [List.getElem?_set, if_pos rfl, if_pos h]
/-- a name is bound to a value that nobody changes -/
theorem Rep.set (R : Rep K G B σ H ρ O) {p : PV} {v : V} (h : At K G (mn H O) p v) : Rep K G B (σ.set i (some v)) H (ρ.set i (.fr p)) O := by
  refine ⟨R.same, R.cd, R.hid, R.dom, R.vis, fun j q e => ?_, fun j q e => ?_, fun j k q r a e1 e2 e3 e4 => ?_, by rw [List.length_set, List.length_set]; exact R.len, fun j xss e => ?_⟩
  · rcases set_at e with ⟨rfl, e, l⟩ | ⟨n, e⟩
    · cases e; exact ⟨v, set_eq (by rw [R.len]; exact l), h⟩
    · rw [set_ne n]; exact R.fr j q e
  · rcases set_at e with ⟨rfl, e, l⟩ | ⟨n, e⟩
    · cases e
    · rw [set_ne n]; exact R.ow j q e
  · rcases set_at e1 with ⟨rfl, e, l⟩ | ⟨n, e⟩
    · cases e
    · rcases set_at e2 with ⟨rfl, e', l'⟩ | ⟨n', e'⟩
      · cases e'
      · rw [set_ne n] at e3; rw [set_ne n'] at e4
        exact R.inj j k q r a e e' e3 e4
  · rcases set_at e with ⟨rfl, e, l⟩ | ⟨n, e⟩
    · cases e
    · obtain ⟨D, as, q⟩ := R.o2 j xss e
      refine ⟨D, as, by rw [set_ne n]; exact q.at_, q.oD, q.nD, q.hD, q.el, q.ea, q.nd, fun k r c e1 e2 => ?_, fun k xss' e1 => ?_⟩
      · rcases set_at e1 with ⟨_, e', _⟩ | ⟨n', e'⟩
        · cases e'
        · rw [set_ne n'] at e2; exact q.un k r c e' e2
      · rcases set_at e1 with ⟨_, e', _⟩ | ⟨n', e'⟩
        · cases e'
        · exact q.one k xss' e'
/-- a new list comes and is one's own -/
theorem Rep.new (R : Rep K G B σ H ρ O) {p : PV} {a : Addr} {vs : List V} (s : Same H H') (ha : H a = none) (he : H' a = some (.lst vs)) (h : OwnAt K G (mn H' (hide a O)) p vs) : Rep K G B (σ.set i (some (.ref a))) H' (ρ.set i (.ow p)) (hide a O) := by
  refine ⟨R.same.trans s, R.cd, fun b z => hide_le b (R.hid b z), fun b z y => ?_, fun b z => ?_, fun j q e => ?_, fun j q e => ?_, fun j k q r b e1 e2 e3 e4 => ?_, by rw [List.length_set, List.length_set]; exact R.len, fun j xss e => ?_⟩
  · by_cases c : b = a
    · subst c; rw [he] at y; cases y
    · rw [hide_ne c] at z; exact R.dom b z (s.free y)
  · by_cases c : b = a
    · subst c; exact .inr (R.same.free ha)
    · rw [hide_ne c] at z; exact R.vis b z
  · rcases set_at e with ⟨rfl, e, l⟩ | ⟨n, e⟩
    · cases e
    · obtain ⟨v, e1, e2⟩ := R.fr j q e
      exact ⟨v, by rw [set_ne n]; exact e1, At.mono (mn_hide s ha) _ _ e2⟩
  · rcases set_at e with ⟨rfl, e, l⟩ | ⟨n, e⟩
    · cases e
      exact ⟨a, vs, set_eq (by rw [R.len]; exact l), hide_self, R.same.free ha, he, h⟩
    · obtain ⟨b, us, e1, e2, e3, e4, e5⟩ := R.ow j q e
      exact ⟨b, us, by rw [set_ne n]; exact e1, hide_le b e2, e3, s _ _ e4, e5.mono (mn_hide s ha)⟩
  · have old : ∀ (m : Nat) q, ρ[m]? = some (.ow q) → σ[m]? = some (some (.ref a)) → False := fun m q e z => by
      obtain ⟨b, us, e1, _, _, e4, _⟩ := R.ow m q e
      rw [z] at e1; cases e1
      rw [ha] at e4; cases e4
    rcases set_at e1 with ⟨rfl, e, l⟩ | ⟨n, e⟩
    · rcases set_at e2 with ⟨rfl, e', l'⟩ | ⟨n', e'⟩
      · rfl
      · rw [set_eq (by rw [R.len]; exact l)] at e3
        cases e3
        rw [set_ne n'] at e4
        exact (old k r e' e4).elim
    · rcases set_at e2 with ⟨rfl, e', l'⟩ | ⟨n', e'⟩
      · rw [set_eq (by rw [R.len]; exact l')] at e4
        cases e4
        rw [set_ne n] at e3
        exact (old j q e e3).elim
      · rw [set_ne n] at e3; rw [set_ne n'] at e4
        exact R.inj j k q r b e e' e3 e4
  · rcases set_at e with ⟨rfl, e, l⟩ | ⟨n, e⟩
    · cases e
    · obtain ⟨D, as, q⟩ := R.o2 j xss e
      refine ⟨D, as, by rw [set_ne n]; exact q.at_, hide_le _ q.oD, q.nD, s _ _ q.hD, fun b hb => ⟨hide_le _ (q.el b hb).1, (q.el b hb).2⟩, q.ea.mono s, q.nd, fun k r c e1 e2 => ?_, fun k xss' e1 => ?_⟩
      · rcases set_at e1 with ⟨rfl, e', l'⟩ | ⟨n', e'⟩
        · rw [set_eq (by rw [R.len]; exact l')] at e2
          cases e2
          exact ⟨Ne.symm (ne_of_none q.hD ha), fun z => q.ea.has z ha⟩
        · rw [set_ne n'] at e2; exact q.un k r c e' e2
      · rcases set_at e1 with ⟨_, e', _⟩ | ⟨n', e'⟩
        · cases e'
        · exact q.one k xss' e'
/-- a list of one's own changes -/
theorem Rep.change (R : Rep K G B σ H ρ O) {p p' : PV} {a : Addr} {vs : List V} (e : ρ[i]? = some (.ow p)) (ea : σ[i]? = some (some (.ref a))) (h : OwnAt K G (mn H O) p' vs) : Rep K G B σ (upd H a (.lst vs)) (ρ.set i (.ow p')) O := by
  obtain ⟨a', us, e1, e2, e3, e4, e5⟩ := R.ow i p e
  rw [ea] at e1
  cases e1
  have hl : i < ρ.length := (List.getElem?_eq_some_iff.mp e).1
  refine ⟨fun b o z => ?_, R.cd, R.hid, fun b z y => ?_, R.vis, fun j q ej => ?_, fun j q ej => ?_, fun j k q r b j1 j2 j3 j4 => ?_, by rw [List.length_set]; exact R.len, fun j xss ej => ?_⟩
  · rw [upd_ne (ne_of_none z e3)]; exact R.same b o z
  · by_cases c : b = a
    · subst c; rw [upd_same] at y; cases y
    · rw [upd_ne c] at y; exact R.dom b z y
  · rw [mn_upd e2]
    rcases set_at ej with ⟨_, e', _⟩ | ⟨_, e'⟩
    · cases e'
    · exact R.fr j q e'
  · rw [mn_upd e2]
    rcases set_at ej with ⟨rfl, e', _⟩ | ⟨n, e'⟩
    · cases e'
      exact ⟨a, vs, ea, e2, e3, upd_same, h⟩
    · obtain ⟨b, ws, f1, f2, f3, f4, f5⟩ := R.ow j q e'
      refine ⟨b, ws, f1, f2, f3, ?_, f5⟩
      rw [upd_ne]
      · exact f4
      · intro z
        subst z
        exact n (R.inj i j p q b e e' ea f1)
  · have back : ∀ (m : Nat) q, (ρ.set i (.ow p'))[m]? = some (.ow q) → ∃ q', ρ[m]? = some (.ow q') := fun m q z => by
      rcases set_at z with ⟨rfl, _, _⟩ | ⟨_, z⟩
      · exact ⟨p, e⟩
      · exact ⟨q, z⟩
    obtain ⟨q', y1⟩ := back j q j1
    obtain ⟨r', y2⟩ := back k r j2
    exact R.inj j k q' r' b y1 y2 j3 j4
  · rcases set_at ej with ⟨rfl, e', _⟩ | ⟨n, e'⟩
    · cases e'
    · obtain ⟨D, as, q⟩ := R.o2 j xss e'
      obtain ⟨u1, u2⟩ := q.un i p a e ea
      refine ⟨D, as, q.at_, q.oD, q.nD, by rw [upd_ne (Ne.symm u1)]; exact q.hD, q.el, ⟨q.ea.1, fun k b eb => by rw [upd_ne (fun z => u2 (by rw [← z]; exact List.mem_of_getElem? eb))]; exact q.ea.2 k b eb⟩, q.nd, fun k r c e1 e2 => ?_, fun k xss' e1 => ?_⟩
      · rcases set_at e1 with ⟨rfl, _, _⟩ | ⟨_, e1⟩
        · exact q.un i p c e e2
        · exact q.un k r c e1 e2
      · rcases set_at e1 with ⟨_, e', _⟩ | ⟨n', e'⟩
        · cases e'
        · exact q.one k xss' e'
noncomputable def show' (a : Addr) (O : Addr → Bool) : Addr → Bool := fun b => if b = a then false else O b
theorem show_ne (h : b ≠ a) : show' a O b = O b := by unfold show'; rw [if_neg h]
theorem show_self : show' a O a = false := by unfold show'; rw [if_pos rfl]
theorem show_le : ∀ b, show' a O b = true → O b = true := fun b h => by
  by_cases c : b = a
  · subst c; rw [show_self] at h; cases h
  · rw [show_ne c] at h; exact h
noncomputable def frz (ρ : En) (i : Nat) : En := match ρ[i]? with
  | some (.ow p) => ρ.set i (.fr p)
  | _ => ρ
/-- a list of one's own is changed no more -/
theorem Rep.freeze (R : Rep K G B σ H ρ O) (i : Nat) : ∃ O', Rep K G B σ H (frz ρ i) O' := by
  unfold frz
  split
  · rename_i p e
    obtain ⟨a, vs, e1, e2, e3, e4, e5⟩ := R.ow i p e
    have sub : Same (mn H O) (mn H (show' a O)) := mn_anti show_le
    have sees : Rd (mn H (show' a O)) a (.lst vs) := .inl (by rw [mn_of show_self]; exact e4)
    have hp : At K G (mn H (show' a O)) p (.ref a) := by
      cases p <;> first
        | exact False.elim e5
        | (have e5 := e5.mono sub; exact ⟨a, vs, rfl, sees, e5⟩)
        | (have e5' : vs = _ := e5; subst e5'; exact ⟨a, rfl, sees⟩)
    refine ⟨show' a O, R.same, R.cd, fun b z => ?_, fun b z => R.dom b (show_le b z), fun b z => R.vis b (show_le b z), fun j q ej => ?_, fun j q ej => ?_, fun j k q r b j1 j2 j3 j4 => ?_, by rw [List.length_set]; exact R.len, fun j xss ej => ?_⟩
    · rw [show_ne]
      · exact R.hid b z
      · intro y
        subst y
        exact R.cd b z e3
    · rcases set_at ej with ⟨rfl, e', _⟩ | ⟨n, e'⟩
      · cases e'
        exact ⟨.ref a, e1, hp⟩
      · obtain ⟨v, f1, f2⟩ := R.fr j q e'
        exact ⟨v, f1, At.mono sub _ _ f2⟩
    · rcases set_at ej with ⟨rfl, e', _⟩ | ⟨n, e'⟩
      · cases e'
      · obtain ⟨b, ws, f1, f2, f3, f4, f5⟩ := R.ow j q e'
        refine ⟨b, ws, f1, ?_, f3, f4, f5.mono sub⟩
        rw [show_ne]
        · exact f2
        · intro z
          subst z
          exact n (R.inj i j p q b e e' e1 f1)
    · rcases set_at j1 with ⟨_, e', _⟩ | ⟨_, y1⟩
      · cases e'
      · rcases set_at j2 with ⟨_, e', _⟩ | ⟨_, y2⟩
        · cases e'
        · exact R.inj j k q r b y1 y2 j3 j4
    · rcases set_at ej with ⟨rfl, e', _⟩ | ⟨n, e'⟩
      · cases e'
      · obtain ⟨D, as, q⟩ := R.o2 j xss e'
        obtain ⟨u1, u2⟩ := q.un i p a e e1
        refine ⟨D, as, q.at_, by rw [show_ne (Ne.symm u1)]; exact q.oD, q.nD, q.hD, fun b hb => ⟨by rw [show_ne (fun z => u2 (by rw [← z]; exact hb))]; exact (q.el b hb).1, (q.el b hb).2⟩, q.ea, q.nd, fun k r c e1 e2 => ?_, fun k xss' e1 => ?_⟩
        · rcases set_at e1 with ⟨_, e', _⟩ | ⟨_, e1⟩
          · cases e'
          · exact q.un k r c e1 e2
        · rcases set_at e1 with ⟨_, e', _⟩ | ⟨n', e'⟩
          · cases e'
          · exact q.one k xss' e'
  · exact ⟨O, R⟩
/-- the base of a loop: all that is not one's own -/
noncomputable def Bs.at (B : Bs) (H : Hp) (O : Addr → Bool) : Bs := ⟨fun b => if (O b && (B.H0 b).isNone) = true then none else H b, B.Oc⟩
theorem Bs.at_of (h : O b = false ∨ B.H0 b ≠ none) : (B.at H O).H0 b = H b := by
  show (if (O b && (B.H0 b).isNone) = true then none else H b) = H b
  rw [if_neg]
  rcases h with h | h
  · rw [h]; simp
  · cases e : B.H0 b with
    | none => exact absurd e h
    | some o => simp
theorem Rep.rebase (R : Rep K G B σ H ρ O) : Rep K G (B.at H O) σ H ρ O := by
  refine ⟨fun b o z => ?_, fun a z => ?_, R.hid, R.dom, fun a z => ?_, R.fr, fun i p e => ?_, R.inj, R.len, fun i xss e => ?_⟩
  · have z : (if (O b && (B.H0 b).isNone) = true then none else H b) = some o := z
    by_cases c : (O b && (B.H0 b).isNone) = true
    · rw [if_pos c] at z; cases z
    · rw [if_neg c] at z; exact .of z
  · rw [Bs.at_of (.inr (R.cd a z))]
    exact R.dom a (R.hid a z)
  · rcases R.vis a z with y | y
    · exact .inl y
    · refine .inr ?_
      show (if (O a && (B.H0 a).isNone) = true then none else H a) = none
      rw [if_pos (by rw [z, y]; rfl)]
  · obtain ⟨a, vs, e1, e2, e3, e4, e5⟩ := R.ow i p e
    refine ⟨a, vs, e1, e2, ?_, e4, e5⟩
    show (if (O a && (B.H0 a).isNone) = true then none else H a) = none
    rw [if_pos (by rw [e2, e3]; rfl)]
  · obtain ⟨D, as, q⟩ := R.o2 i xss e
    have z : ∀ c, O c = true → B.H0 c = none → (B.at H O).H0 c = none := fun c h1 h2 => by
      show (if (O c && (B.H0 c).isNone) = true then none else H c) = none
      rw [if_pos (by rw [h1, h2]; rfl)]
    exact ⟨D, as, q.at_, q.oD, z D q.oD q.nD, q.hD, fun b hb => ⟨(q.el b hb).1, z b (q.el b hb).1 (q.el b hb).2⟩, q.ea, q.nd, q.un, q.one⟩
theorem Rep.base_le (R : Rep K G B σ H ρ O) : Same B.H0 (B.at H O).H0 := fun b o z => by
  rw [Bs.at_of (.inr (by rw [z]; exact fun y => by cases y))]
  exact R.same b o z
theorem Rep.base_mn (B : Bs) (H : Hp) (O : Addr → Bool) : Same (mn H O) (B.at H O).H0 := same_mk fun b o z => by
  obtain ⟨c, e⟩ := mn_get z
  rw [Bs.at_of (.inl c)]
  exact e
theorem Rep.unbase {σ' : L2.St} {ρ' : En} {O' : Addr → Bool} (R : Rep K G B σ H ρ O) (R' : Rep K G (B.at H O) σ' H' ρ' O') : Rep K G B σ' H' ρ' O' := by
  refine ⟨R.base_le.trans R'.same, R.cd, R'.hid, R'.dom, fun a z => (R'.vis a z).imp id fun y => R.base_le.free y, R'.fr, fun i p e => ?_, R'.inj, R'.len, fun i xss e => ?_⟩
  · obtain ⟨a, vs, e1, e2, e3, e4, e5⟩ := R'.ow i p e
    exact ⟨a, vs, e1, e2, R.base_le.free e3, e4, e5⟩
  · obtain ⟨D, as, q⟩ := R'.o2 i xss e
    exact ⟨D, as, q.at_, q.oD, R.base_le.free q.nD, q.hD, fun b hb => ⟨(q.el b hb).1, R.base_le.free (q.el b hb).2⟩, q.ea, q.nd, q.un, q.one⟩
/-- what was seen as a loop began is seen in it -/
theorem Rep.seen (R : Rep K G B σ H ρ O) (R' : Rep K G (B.at H O) σ' H' ρ' O') : Same (mn H O) (mn H' O') := fun b o z => by
  obtain ⟨c, e⟩ := mn_get z
  have z0 : (B.at H O).H0 b = some o := by rw [Bs.at_of (.inl c)]; exact e
  rw [mn_of]
  · exact R'.same b o z0
  · cases y : O' b with
    | false => rfl
    | true =>
      rcases R'.vis b y with y | y
      · rw [R.hid b y] at c; cases c
      · rw [z0] at y; cases y
end
/-! what stands in a slot -/
noncomputable def getI (ρ : En) (i : Nat) : Int := match ρ[i]? with
  | some (.fr (.int n)) => n
  | _ => 0
noncomputable def isI (ρ : En) (i : Nat) : Prop := ρ[i]? = some (.fr (.int (getI ρ i)))
noncomputable def getL (ρ : En) (i : Nat) : List Int := match ρ[i]? with
  | some (.fr (.ints ns)) => ns
  | some (.ow (.ints ns)) => ns
  | some (.fr (.scr ns)) => ns
  | _ => []
noncomputable def isL (ρ : En) (i : Nat) : Prop := ρ[i]? = some (.fr (.ints (getL ρ i)))
noncomputable def isO (ρ : En) (i : Nat) : Prop := ρ[i]? = some (.ow (.ints (getL ρ i)))
noncomputable def isLO (ρ : En) (i : Nat) : Prop := isL ρ i ∨ isO ρ i ∨ ρ[i]? = some (.fr (.scr (getL ρ i)))
noncomputable def getP (ρ : En) (i : Nat) : PV := match ρ[i]? with
  | some (.fr p) => p
  | some (.ow p) => p
  | _ => .non
noncomputable def isF (ρ : En) (i : Nat) : Prop := ρ[i]? = some (.fr (getP ρ i))
noncomputable def getS (ρ : En) (i : Nat) : Str := match ρ[i]? with
  | some (.fr (.str s)) => s
  | _ => Str.empty
noncomputable def isS (ρ : En) (i : Nat) : Prop := ρ[i]? = some (.fr (.str (getS ρ i)))
noncomputable def getB (ρ : En) (i : Nat) : Bool := match ρ[i]? with
  | some (.fr (.bl b)) => b
  | _ => false
noncomputable def isB (ρ : En) (i : Nat) : Prop := ρ[i]? = some (.fr (.bl (getB ρ i)))
section
variable {K : PySem.W.Frag} {G : Gx} {B : Bs} {σ : L2.St} {H H' : Hp} {ρ : En} {O : Addr → Bool} {i : Nat}
/-- a list read, one's own or not -/
theorem Rep.readL (R : Rep K G B σ H ρ O) (h : isLO ρ i) : ∃ a, σ[i]? = some (some (.ref a)) ∧ SqL K H a ((getL ρ i).map V.int) := by
  rcases h with h | h | h
  · obtain ⟨v, e1, a, e2, e3⟩ := R.fr i _ h
    subst e2
    exact ⟨a, e1, .inl (same_rd mn_le e3)⟩
  · obtain ⟨a, vs, e1, e2, e3, e4, e5⟩ := R.ow i _ h
    subst e5
    exact ⟨a, e1, .inl (.inl e4)⟩
  · obtain ⟨v, e1, a, e2, e3⟩ := R.fr i _ h
    subst e2
    exact ⟨a, e1, mn_le.seq e3⟩
end
/-! ### expressions -/
noncomputable def tX (K : PySem.W.Frag) (G : Gx) (C : En → Prop) (g : En → PV) : TE := fun σ H Q => ∃ B ρ O, Rep K G B σ H ρ O ∧ C ρ ∧ ∀ v H', Same H H' → At K G (mn H' O) (g ρ) v → Q v H'
/-- a new list of numbers -/
noncomputable def tXl (K : PySem.W.Frag) (G : Gx) (C : En → Prop) (g : En → List Int) : TE := fun σ H Q => ∃ B ρ O, Rep K G B σ H ρ O ∧ C ρ ∧ ∀ a H', Same H H' → H a = none → H' a = some (.lst ((g ρ).map V.int)) → Q (.ref a) H'
/-- a new list of any values -/
noncomputable def tXp (K : PySem.W.Frag) (G : Gx) (C : En → Prop) (g : En → List PV) : TE := fun σ H Q => ∃ B ρ O, Rep K G B σ H ρ O ∧ C ρ ∧ ∀ a vs H', Same H H' → H a = none → H' a = some (.lst vs) → AtL K G (mn H' (hide a O)) (g ρ) vs → Q (.ref a) H'
noncomputable def tXs (K : PySem.W.Frag) (G : Gx) (C : En → Prop) (g : En → List PV) : TA := fun σ H Q => ∃ B ρ O, Rep K G B σ H ρ O ∧ C ρ ∧ ∀ vs H', Same H H' → AtL K G (mn H' O) (g ρ) vs → Q vs H'
noncomputable def tXT (K : PySem.W.Frag) (G : Gx) (C : En → Prop) (p : En → Prop) [∀ ρ, Decidable (p ρ)] : TT := fun σ H Q => ∃ B ρ O, Rep K G B σ H ρ O ∧ C ρ ∧ ∀ H', Same H H' → Q (decide (p ρ)) H'
noncomputable abbrev tXI (K : PySem.W.Frag) (G : Gx) (C : En → Prop) (g : En → Int) : TE := tX K G C fun ρ => .int (g ρ)
noncomputable abbrev tXL (K : PySem.W.Frag) (G : Gx) (C : En → Prop) (g : En → List Int) : TE := tX K G C fun ρ => .ints (g ρ)
noncomputable abbrev tXB (K : PySem.W.Frag) (G : Gx) (C : En → Prop) (p : En → Prop) [∀ ρ, Decidable (p ρ)] : TE := tX K G C fun ρ => .bl (decide (p ρ))
noncomputable abbrev tXS (K : PySem.W.Frag) (G : Gx) (C : En → Prop) (g : En → Str) : TE := tX K G C fun ρ => .str (g ρ)
section
variable {X : Cx} {G : Gx} {a b : Expr} {pos : Pos} {Ca Cb : En → Prop} {ga gb : En → Int} {i : Nat} {x : Str} {e : Expr} {t : TE} {C : En → Prop} {g : En → PV} {gl hl : En → List Int}
theorem toX (h : PE X e t) (k : ∀ B σ H ρ O Q, Rep X.K G B σ H ρ O → C ρ → (∀ v H', Same H H' → At X.K G (mn H' O) (g ρ) v → Q v H') → t σ H Q) : PE X e (tX X.K G C g) :=
  fun pins s σ H Q I ⟨B, ρ, O, R, c, q⟩ => h pins s σ H Q I (k B σ H ρ O Q R c q)
theorem toXl (h : PE X e t) (k : ∀ B σ H ρ O Q, Rep X.K G B σ H ρ O → C ρ → (∀ a H', Same H H' → H a = none → H' a = some (.lst ((gl ρ).map V.int)) → Q (.ref a) H') → t σ H Q) : PE X e (tXl X.K G C gl) :=
  fun pins s σ H Q I ⟨B, ρ, O, R, c, q⟩ => h pins s σ H Q I (k B σ H ρ O Q R c q)
/-- a new list, as a value -/
theorem newL (h : PE X e (tXl X.K G C gl)) : PE X e (tXL X.K G C gl) := toX h fun B σ H ρ O Q R c q => ⟨B, ρ, O, R, c, fun a H' s n e => q _ H' s ⟨a, rfl, .inl (by
  rw [mn_of]
  · exact e
  · cases z : O a with
    | false => rfl
    | true => exact absurd n (R.dom a z))⟩⟩
theorem newP (h : PE X e (tXp X.K G C gp)) : PE X e (tX X.K G C fun ρ => .lst (gp ρ)) := toX h fun B σ H ρ O Q R c q => ⟨B, ρ, O, R, c, fun a vs H' s n e al => q _ H' s ⟨a, vs, rfl, .inl (by
  rw [mn_of]
  · exact e
  · cases z : O a with
    | false => rfl
    | true => exact absurd n (R.dom a z)), AtL.mono (mn_anti hide_le) _ _ al⟩⟩
theorem xn_int : PE X (.Constant (.int n) j pos) (tXI X.K G (fun _ => True) fun _ => n) := toX pe_int fun _ _ H _ _ _ _ _ q => q _ H (Same.refl H) rfl
theorem xb_bl : PE X (.Constant (.bool n) j pos) (tX X.K G (fun _ => True) fun _ => .bl n) := toX pe_bl fun _ _ H _ _ _ _ _ q => q _ H (Same.refl H) rfl
theorem xv_bltn (hg : Gl X x) (hm : X.mg x = none) (hv : bootBuiltins x = some (.type u)) (hn : x ≠ "__name__" := by decide) (hd : (x == ("__debug__" : Str)) = false := by decide) : PE X (.Name x pos) (tX X.K G (fun _ => True) fun _ => .ty u) :=
  toX (pe_bltn (v := .ty u) hg hm hv rfl hn hd) fun _ _ H _ _ _ _ _ q => q _ H (Same.refl H) rfl
theorem xv (i : Nat) (hN : X.N[i]? = some x := by rfl) (hv : Vis X.env.scope x := by first | exact Or.inl rfl | exact Or.inr (Or.inl rfl) | exact Or.inr (Or.inr rfl))
    (hd : (x == ("__debug__" : Str)) = false := by decide) (hcd : (x == ("__classdict__" : Str)) = false := by decide) : PE X (.Name x pos) (tX X.K G (fun ρ => isF ρ i) fun ρ => getP ρ i) :=
  toX (pe_var hN hv hd hcd) fun _ _ H _ _ _ R c q => let ⟨v, e, h⟩ := R.fr i _ c; ⟨v, e, q v H (Same.refl H) h⟩
theorem xn (i : Nat) (hN : X.N[i]? = some x := by rfl) (hv : Vis X.env.scope x := by first | exact Or.inl rfl | exact Or.inr (Or.inl rfl) | exact Or.inr (Or.inr rfl))
    (hd : (x == ("__debug__" : Str)) = false := by decide) (hcd : (x == ("__classdict__" : Str)) = false := by decide) : PE X (.Name x pos) (tXI X.K G (fun ρ => isI ρ i) fun ρ => getI ρ i) :=
  toX (pe_var hN hv hd hcd) fun _ _ H _ _ _ R c q => let ⟨v, e, h⟩ := R.fr i _ c; ⟨v, e, q v H (Same.refl H) h⟩
theorem xl (i : Nat) (hN : X.N[i]? = some x := by rfl) (hv : Vis X.env.scope x := by first | exact Or.inl rfl | exact Or.inr (Or.inl rfl) | exact Or.inr (Or.inr rfl))
    (hd : (x == ("__debug__" : Str)) = false := by decide) (hcd : (x == ("__classdict__" : Str)) = false := by decide) : PE X (.Name x pos) (tXL X.K G (fun ρ => isL ρ i) fun ρ => getL ρ i) :=
  toX (pe_var hN hv hd hcd) fun _ _ H _ _ _ R c q => let ⟨v, e, h⟩ := R.fr i _ c; ⟨v, e, q v H (Same.refl H) h⟩
theorem xr (i : Nat) (hN : X.N[i]? = some x := by rfl) (hv : Vis X.env.scope x := by first | exact Or.inl rfl | exact Or.inr (Or.inl rfl) | exact Or.inr (Or.inr rfl))
    (hd : (x == ("__debug__" : Str)) = false := by decide) (hcd : (x == ("__classdict__" : Str)) = false := by decide) : PE X (.Name x pos) (tX X.K G (fun ρ => ρ[i]? = some (.fr (.scr (getL ρ i)))) fun ρ => .scr (getL ρ i)) :=
  toX (pe_var hN hv hd hcd) fun _ _ H _ _ _ R c q => let ⟨v, e, h⟩ := R.fr i _ c; ⟨v, e, q v H (Same.refl H) h⟩
/-- two values, one behind the other -/
theorem two {r : R2} {ga gb : En → PV} {σ : L2.St} {B : Bs} {O : Addr → Bool} (R : Rep X.K G B σ H ρ O) (ca : Ca ρ) (cb : Cb ρ) (q : ∀ v u H1 H2, Same H H1 → Same H1 H2 → At X.K G (mn H2 O) (ga ρ) v → At X.K G (mn H2 O) (gb ρ) u → r v u H2 Q) :
    tOp r (tX X.K G Ca ga) (tX X.K G Cb gb) σ H Q :=
  ⟨B, ρ, O, R, ca, fun v H1 s1 a1 => ⟨B, ρ, O, R.grow s1, cb, fun u H2 s2 a2 => q v u H1 H2 s1 s2 (At.mono (mn_same s2) _ _ a1) a2⟩⟩
theorem xn_op {op : Operator} {C : Int → Int → Prop} {g : Int → Int → Int} (ho : OpR X (binaryOp op) (rI C fun i j => .int (g i j))) (ha : PE X a (tXI X.K G Ca ga)) (hb : PE X b (tXI X.K G Cb gb)) :
    PE X (.BinOp a op b pos) (tXI X.K G (fun ρ => Ca ρ ∧ Cb ρ ∧ C (ga ρ) (gb ρ)) fun ρ => g (ga ρ) (gb ρ)) :=
  toX (pe_op ho ha hb) fun _ _ _ _ _ _ R c q => two R c.1 c.2.1 fun _ _ _ H2 s1 s2 a1 a2 => ⟨_, _, a1, a2, c.2.2, q _ H2 (s1.trans s2) rfl⟩
theorem xn_op0 {op : Operator} {g : Int → Int → Int} (ho : OpR X (binaryOp op) (rI0 fun i j => .int (g i j))) (ha : PE X a (tXI X.K G Ca ga)) (hb : PE X b (tXI X.K G Cb gb)) :
    PE X (.BinOp a op b pos) (tXI X.K G (fun ρ => Ca ρ ∧ Cb ρ) fun ρ => g (ga ρ) (gb ρ)) :=
  toX (pe_op ho ha hb) fun _ _ _ _ _ _ R c q => two R c.1 c.2 fun _ _ _ H2 s1 s2 a1 a2 => ⟨_, _, a1, a2, q _ H2 (s1.trans s2) rfl⟩
theorem xn_add (ha : PE X a (tXI X.K G Ca ga)) (hb : PE X b (tXI X.K G Cb gb)) : PE X (.BinOp a .Add b pos) (tXI X.K G (fun ρ => Ca ρ ∧ Cb ρ) fun ρ => ga ρ + gb ρ) := xn_op0 op_add ha hb
theorem xn_sub (ha : PE X a (tXI X.K G Ca ga)) (hb : PE X b (tXI X.K G Cb gb)) : PE X (.BinOp a .Sub b pos) (tXI X.K G (fun ρ => Ca ρ ∧ Cb ρ) fun ρ => ga ρ - gb ρ) := xn_op0 op_sub ha hb
theorem xn_mul (ha : PE X a (tXI X.K G Ca ga)) (hb : PE X b (tXI X.K G Cb gb)) : PE X (.BinOp a .Mult b pos) (tXI X.K G (fun ρ => Ca ρ ∧ Cb ρ ∧ IntMulOk (ga ρ) (gb ρ)) fun ρ => ga ρ * gb ρ) := xn_op op_mulB ha hb
theorem xn_mod (ha : PE X a (tXI X.K G Ca ga)) (hb : PE X b (tXI X.K G Cb gb)) : PE X (.BinOp a .Mod b pos) (tXI X.K G (fun ρ => Ca ρ ∧ Cb ρ ∧ 0 < gb ρ) fun ρ => ga ρ % gb ρ) := xn_op op_mod ha hb
theorem xn_div (ha : PE X a (tXI X.K G Ca ga)) (hb : PE X b (tXI X.K G Cb gb)) : PE X (.BinOp a .FloorDiv b pos) (tXI X.K G (fun ρ => Ca ρ ∧ Cb ρ ∧ CDivB (ga ρ) (gb ρ)) fun ρ => ga ρ / gb ρ) := xn_op op_fdivB ha hb
theorem xn_pow (ha : PE X a (tXI X.K G Ca ga)) (hb : PE X b (tXI X.K G Cb gb)) : PE X (.BinOp a .Pow b pos) (tXI X.K G (fun ρ => Ca ρ ∧ Cb ρ ∧ CPow (ga ρ) (gb ρ)) fun ρ => ga ρ ^ (gb ρ).toNat) := xn_op op_pow ha hb
theorem xn_neg (ha : PE X a (tXI X.K G Ca ga)) : PE X (.UnaryOp .USub a pos) (tXI X.K G Ca fun ρ => -ga ρ) :=
  toX (pe_un un_neg ha) fun B _ _ ρ O _ R c q => ⟨B, ρ, O, R, c, fun _ H1 s1 a1 => ⟨_, a1, q _ H1 s1 rfl⟩⟩
/-! tests -/
theorem xt_cmp {op : CmpOp} {p : Int → Int → Prop} [∀ i j, Decidable (p i j)] (ho : OpR X (compareOp op) (rI0 fun i j => .bl (decide (p i j)))) (hm : behindInMarks op b = false) (ha : PE X a (tXI X.K G Ca ga)) (hb : PE X b (tXI X.K G Cb gb)) :
    PT X (.Compare a [op] [b] pos) (tXT X.K G (fun ρ => Ca ρ ∧ Cb ρ) fun ρ => p (ga ρ) (gb ρ)) :=
  fun pins s σ H Q I ⟨_, _, _, R, c, q⟩ => pt_cmpR ho ha hb hm pins s σ H Q I (two R c.1 c.2 fun _ _ _ H2 s1 s2 a1 a2 => ⟨_, _, a1, a2, _, rfl, q H2 (s1.trans s2)⟩)
theorem xt_lt (ha : PE X a (tXI X.K G Ca ga)) (hb : PE X b (tXI X.K G Cb gb)) : PT X (.Compare a [.Lt] [b] pos) (tXT X.K G (fun ρ => Ca ρ ∧ Cb ρ) fun ρ => ga ρ < gb ρ) := xt_cmp op_lt (nomark _) ha hb
theorem xt_le (ha : PE X a (tXI X.K G Ca ga)) (hb : PE X b (tXI X.K G Cb gb)) : PT X (.Compare a [.LtE] [b] pos) (tXT X.K G (fun ρ => Ca ρ ∧ Cb ρ) fun ρ => ga ρ ≤ gb ρ) := xt_cmp op_le (nomark _) ha hb
theorem xt_gt (ha : PE X a (tXI X.K G Ca ga)) (hb : PE X b (tXI X.K G Cb gb)) : PT X (.Compare a [.Gt] [b] pos) (tXT X.K G (fun ρ => Ca ρ ∧ Cb ρ) fun ρ => gb ρ < ga ρ) := xt_cmp (p := fun i j => j < i) op_gt (nomark _) ha hb
theorem xt_eq (ha : PE X a (tXI X.K G Ca ga)) (hb : PE X b (tXI X.K G Cb gb)) : PT X (.Compare a [.Eq] [b] pos) (tXT X.K G (fun ρ => Ca ρ ∧ Cb ρ) fun ρ => ga ρ = gb ρ) := xt_cmp op_eqI (nomark _) ha hb
theorem xt_ne (ha : PE X a (tXI X.K G Ca ga)) (hb : PE X b (tXI X.K G Cb gb)) : PT X (.Compare a [.NotEq] [b] pos) (tXT X.K G (fun ρ => Ca ρ ∧ Cb ρ) fun ρ => ¬ ga ρ = gb ρ) := xt_cmp (p := fun i j => ¬ i = j) op_neI (nomark _) ha hb
variable {pa pb : En → Prop} [∀ ρ, Decidable (pa ρ)] [∀ ρ, Decidable (pb ρ)] {rest : List Expr}
theorem xt_V (h : PE X e (tXB X.K G Ca pa)) (he : ∀ whole, isTrue e X.env whole = (do let v ← whole; standAt e.pos; holding [v] (truthy v)) := by intro _; rfl) : PT X e (tXT X.K G Ca pa) :=
  fun pins s σ H Q I ⟨B, ρ, O, R, c, q⟩ => pt_val h he pins s σ H Q I ⟨B, ρ, O, R, c, fun _ H1 s1 a1 => ⟨_, a1, q H1 s1⟩⟩
theorem xt_not (ha : PT X a (tXT X.K G Ca pa)) : PT X (.UnaryOp .Not a pos) (tXT X.K G Ca fun ρ => ¬ pa ρ) :=
  fun pins s σ H Q I ⟨B, ρ, O, R, c, q⟩ => L2.pt_not ha pins s σ H Q I ⟨B, ρ, O, R, c, fun H1 s1 => by have z := q H1 s1; rw [decide_not] at z; exact z⟩
theorem xw_or1 (ha : PT X a (tXT X.K G Ca pa)) : PW X (.BoolOp .Or [a] pos) (tXT X.K G Ca pa) := pw_or1 ha
theorem xw_and1 (ha : PT X a (tXT X.K G Ca pa)) : PW X (.BoolOp .And [a] pos) (tXT X.K G Ca pa) := pw_and1 ha
theorem xw_or (ha : PT X a (tXT X.K G Ca pa)) (hb : PW X (.BoolOp .Or (b :: rest) pos) (tXT X.K G Cb pb)) : PW X (.BoolOp .Or (a :: b :: rest) pos) (tXT X.K G (fun ρ => Ca ρ ∧ (¬ pa ρ → Cb ρ)) fun ρ => pa ρ ∨ pb ρ) :=
  fun wh pins s σ H Q I ⟨B, ρ, O, R, c, q⟩ => pw_or ha hb wh pins s σ H Q I ⟨B, ρ, O, R, c.1, fun H1 s1 => by
    by_cases d : pa ρ
    · have z := q H1 s1
      rw [decide_eq_true (Or.inl d : pa ρ ∨ pb ρ)] at z
      rw [decide_eq_true d]; refine iteT ?_; exact z
    · rw [decide_eq_false d]; refine iteF ?_
      refine ⟨B, ρ, O, R.grow s1, c.2 d, fun H2 s2 => ?_⟩
      have z := q H2 (s1.trans s2)
      have e : decide (pa ρ ∨ pb ρ) = decide (pb ρ) := by simp [d]
      rw [e] at z; exact z⟩
theorem xw_and (ha : PT X a (tXT X.K G Ca pa)) (hb : PW X (.BoolOp .And (b :: rest) pos) (tXT X.K G Cb pb)) : PW X (.BoolOp .And (a :: b :: rest) pos) (tXT X.K G (fun ρ => Ca ρ ∧ (pa ρ → Cb ρ)) fun ρ => pa ρ ∧ pb ρ) :=
  fun wh pins s σ H Q I ⟨B, ρ, O, R, c, q⟩ => pw_and ha hb wh pins s σ H Q I ⟨B, ρ, O, R, c.1, fun H1 s1 => by
    by_cases d : pa ρ
    · rw [decide_eq_true d]; refine iteT ?_
      refine ⟨B, ρ, O, R.grow s1, c.2 d, fun H2 s2 => ?_⟩
      have z := q H2 (s1.trans s2)
      have e : decide (pa ρ ∧ pb ρ) = decide (pb ρ) := by simp [d]
      rw [e] at z; exact z
    · have z := q H1 s1
      rw [decide_eq_false (fun y => d y.1 : ¬ (pa ρ ∧ pb ρ))] at z
      rw [decide_eq_false d]; refine iteF ?_; exact z⟩
theorem xe_not (ha : PE X a (tXB X.K G Ca pa)) : PE X (.UnaryOp .Not a pos) (tXB X.K G Ca fun ρ => ¬ pa ρ) :=
  toX (pe_not ha) fun B _ _ ρ O _ R c q => ⟨B, ρ, O, R, c, fun _ H1 s1 a1 => ⟨_, a1, q _ H1 s1 (by rw [decide_not]; rfl)⟩⟩
theorem xe_and (ha : PE X a (tXB X.K G Ca pa)) (hb : PE X (.BoolOp .And (b :: rest) pos) (tXB X.K G Cb pb)) : PE X (.BoolOp .And (a :: b :: rest) pos) (tXB X.K G (fun ρ => Ca ρ ∧ (pa ρ → Cb ρ)) fun ρ => pa ρ ∧ pb ρ) :=
  toX (pe_and ha hb) fun B _ _ ρ O _ R c q => ⟨B, ρ, O, R, c.1, fun _ H1 s1 a1 => ⟨_, a1, by
    by_cases d : pa ρ
    · rw [decide_eq_true d]; refine iteT ?_
      refine ⟨B, ρ, O, R.grow s1, c.2 d, fun v H2 s2 a2 => q v H2 (s1.trans s2) ?_⟩
      have e : decide (pa ρ ∧ pb ρ) = decide (pb ρ) := by simp [d]
      rw [e]; exact a2
    · have z := q (.bl false) H1 s1 (by rw [decide_eq_false (fun y => d y.1 : ¬ (pa ρ ∧ pb ρ))]; rfl)
      rw [decide_eq_false d]; refine iteF ?_; exact z⟩⟩
/-! several values -/
variable {es : List Expr} {gs : En → List PV}
theorem xa_nil : PA X [] (tXs X.K G (fun _ => True) fun _ => []) := fun pos pins s σ H Q I ⟨_, _, _, _, _, q⟩ => pa_nil pos pins s σ H Q I (q [] H (Same.refl H) rfl)
theorem xa_cons (ha : PE X e (tX X.K G Ca g)) (hr : PA X es (tXs X.K G Cb gs)) (hs : starEach (e :: es) X.env = (false, eval e X.env) :: starEach es X.env := by rfl) : PA X (e :: es) (tXs X.K G (fun ρ => Ca ρ ∧ Cb ρ) fun ρ => g ρ :: gs ρ) :=
  fun pos pins s σ H Q I ⟨B, ρ, O, R, c, q⟩ => pa_cons ha hr hs pos pins s σ H Q I ⟨B, ρ, O, R, c.1, fun v H1 s1 a1 => ⟨B, ρ, O, R.grow s1, c.2, fun vs H2 s2 a2 => q _ H2 (s1.trans s2) ⟨v, vs, rfl, At.mono (mn_same s2) _ _ a1, a2⟩⟩⟩
end
end L3

/-! ### statements over pure values -/
namespace L3
open PySem PySem.Spec PyProof.Rows L2
structure Ps where
  nx : En → Prop
  rt : PV → Prop
  rl : List Int → Prop := fun _ => False
  rn : PV → Prop := fun _ => False
  bk : En → Prop := fun _ => False
  ct : En → Prop := fun _ => False
  er : Addr → Prop := fun _ => False
noncomputable abbrev Ps.sq (P : Ps) (k : En → Prop) : Ps := { P with nx := k }
noncomputable abbrev Ps.lp (P : Ps) (k : En → Prop) : Ps := { P with nx := k, ct := k, bk := P.nx }
/-- what an error, by its class, owes -/
noncomputable abbrev ER := Addr → Hp → Prop
noncomputable abbrev ER0 : ER := fun _ _ => False
noncomputable abbrev FS := Ps → En → Prop
noncomputable def RepE (K : PySem.W.Frag) (G : Gx) (B : Bs) (σ : L2.St) (H : Hp) (ρ : En) : Prop := ∃ O, Rep K G B σ H ρ O
/-- what the ends of a pure reading owe to the ends of the machine's -/
structure Owe (K : PySem.W.Frag) (G : Gx) (Er : ER) (B : Bs) (P : Ps) (D : Ends) : Prop where
  nx : ∀ σ H ρ, RepE K G B σ H ρ → P.nx ρ → D.nx σ H
  rt : ∀ v H p, Same B.H0 H → At K G (mn H B.Oc) p v → P.rt p → D.rt v H
  rl : ∀ a H ns, Same B.H0 H → B.H0 a = none → H a = some (.lst (ns.map V.int)) → P.rl ns → D.rt (.ref a) H
  rn : ∀ v H p, Same B.H0 H → At K G (mn H fun a => (B.H0 a).isSome) p v → P.rn p → D.rt v H
  bk : ∀ σ H ρ, RepE K G B σ H ρ → P.bk ρ → D.bk σ H
  ct : ∀ σ H ρ, RepE K G B σ H ρ → P.ct ρ → D.ct σ H
  er : ∀ H C, Same B.H0 H → P.er C → Er C H
noncomputable def ts (K : PySem.W.Frag) (G : Gx) (Er : ER) (f : FS) : TS := fun D σ H => ∃ B ρ P, RepE K G B σ H ρ ∧ f P ρ ∧ Owe K G Er B P D
section
variable {X : Cx} {G : Gx} {Er : ER} {pos : Pos} {st : Stmt} {sts : List Stmt} {f f1 f2 : FS} {C : En → Prop} {e : Expr} {t : TS}
theorem toS (h : PS X st t) (k : ∀ B σ H ρ O P D, Rep X.K G B σ H ρ O → f P ρ → Owe X.K G Er B P D → t D σ H) : PS X st (ts X.K G Er f) :=
  fun pins s σ H D I ⟨B, ρ, P, ⟨O, R⟩, c, w⟩ => h pins s σ H D I (k B σ H ρ O P D R c w)
theorem xss_nil : PSs X [] (ts X.K G Er fun P ρ => P.nx ρ) := fun pins s σ H D I ⟨_, ρ, _, R, c, w⟩ => pss_nil pins s σ H D I (w.nx σ H ρ R c)
theorem xss_one (h : PS X st (ts X.K G Er f)) : PSs X [st] (ts X.K G Er f) := pss_one h
theorem xss_cons (h1 : PS X st (ts X.K G Er f1)) (h2 : PSs X sts (ts X.K G Er f2)) : PSs X (st :: sts) (ts X.K G Er fun P ρ => f1 (P.sq (f2 P)) ρ) :=
  fun pins s σ H D I ⟨B, ρ, P, R, c, w⟩ => pss_cons h1 h2 pins s σ H D I ⟨B, ρ, { P with nx := f2 P }, R, c, ⟨fun _ _ ρ' R' c' => ⟨B, ρ', P, R', c', w⟩, w.rt, w.rl, w.rn, w.bk, w.ct, w.er⟩⟩
/-- the same, with a word J for what is true between the two -/
theorem xss_join (h1 : PS X st (ts X.K G Er f1)) (h2 : PSs X sts (ts X.K G Er f2)) : PSs X (st :: sts) (ts X.K G Er fun P ρ => ∃ J : En → Prop, f1 (P.sq J) ρ ∧ ∀ ρ', J ρ' → f2 P ρ') :=
  fun pins s σ H D I ⟨B, ρ, P, R, ⟨J, c, k⟩, w⟩ => pss_cons h1 h2 pins s σ H D I ⟨B, ρ, { P with nx := J }, R, c, ⟨fun _ _ ρ' R' c' => ⟨B, ρ', P, R', k ρ' c', w⟩, w.rt, w.rl, w.rn, w.bk, w.ct, w.er⟩⟩
/-- from here on the list in slot i is not changed -/
theorem xss_freeze (i : Nat) (h : PSs X sts (ts X.K G Er f)) : PSs X sts (ts X.K G Er fun P ρ => f P (frz ρ i)) :=
  fun pins s σ H D I ⟨B, ρ, P, ⟨_, R⟩, c, w⟩ => h pins s σ H D I ⟨B, frz ρ i, P, R.freeze i, c, w⟩
theorem xst_ret (h : PE X e (tX X.K G C g)) : PS X (.Return (some e) pos) (ts X.K G Er fun P ρ => C ρ ∧ P.rt (g ρ)) :=
  toS (ps_ret h) fun B _ _ ρ O _ _ R c w => ⟨B, ρ, O, R, c.1, fun v H1 s1 a1 => w.rt v H1 _ (R.same.trans s1) (At.mono (mn_anti R.hid) _ _ a1) c.2⟩
/-- return a new list of numbers; the list of one's own in slot i -/
theorem xst_retl (h : PE X e (tXl X.K G C g)) : PS X (.Return (some e) pos) (ts X.K G Er fun P ρ => C ρ ∧ P.rl (g ρ)) :=
  toS (ps_ret h) fun B _ _ ρ O _ _ R c w => ⟨B, ρ, O, R, c.1, fun a H1 s1 n1 e1 => w.rl a H1 _ (R.same.trans s1) (R.same.free n1) e1 c.2⟩
theorem xst_retO (i : Nat) (hN : X.N[i]? = some x := by rfl) (hv : Vis X.env.scope x := by first | exact Or.inl rfl | exact Or.inr (Or.inl rfl) | exact Or.inr (Or.inr rfl))
    (hd : (x == ("__debug__" : Str)) = false := by decide) (hcd : (x == ("__classdict__" : Str)) = false := by decide) : PS X (.Return (some (.Name x px)) pos) (ts X.K G Er fun P ρ => isO ρ i ∧ P.rl (getL ρ i)) :=
  toS (ps_ret (pe_var hN hv hd hcd)) fun B _ H ρ O _ _ R c w => by
    obtain ⟨a, vs, e1, e2, e3, e4, e5⟩ := R.ow i _ c.1
    have e5 : vs = (getL ρ i).map V.int := e5
    subst e5
    exact ⟨_, e1, w.rl a H _ R.same e3 e4 c.2⟩
/-- x = a value, a number, a list of numbers that is not changed later -/
theorem xst_set (hN : X.N.Nodup) (hi : X.N[i]? = some x) (hx : Loc X.env.scope x) (he : PE X e (tX X.K G C g)) (hs : swapsWith e (some (.Name x pos')) pos.line X.env = pure false := by rfl)
    (hf : X.fn x = true ∨ X.env.scope.names.lookup x = some .local := by first | exact .inl rfl | exact .inr rfl | assumption) : PS X (.Assign [.Name x pos'] e pos) (ts X.K G Er fun P ρ => C ρ ∧ P.nx (ρ.set i (.fr (g ρ)))) :=
  toS (ps_set hN hi hx he hs hf) fun B σ _ ρ O _ _ R c w => ⟨B, ρ, O, R, c.1, fun _ H1 s1 a1 => w.nx _ H1 _ ⟨O, (R.grow s1).set a1⟩ c.2⟩
theorem xst_setP (hN : X.N.Nodup) (hi : X.N[i]? = some x) (hx : Loc X.env.scope x) (he : PE X e (tX X.K G C g)) (hs : swapsWith e (some (.Name x pos')) pos.line X.env = pure false := by rfl)
    (hf : X.fn x = true ∨ X.env.scope.names.lookup x = some .local := by first | exact .inl rfl | exact .inr rfl | assumption) : PS X (.Assign [.Name x pos'] e pos) (ts X.K G Er fun P ρ => C ρ ∧ ∀ p, p = g ρ → P.nx (ρ.set i (.fr p))) :=
  toS (xst_set hN hi hx he hs hf) fun B σ _ ρ O P D R c w => ⟨B, ρ, P, ⟨O, R⟩, ⟨c.1, c.2 _ rfl⟩, w⟩
theorem xst_setI (hN : X.N.Nodup) (hi : X.N[i]? = some x) (hx : Loc X.env.scope x) (he : PE X e (tXI X.K G C g)) (hs : swapsWith e (some (.Name x pos')) pos.line X.env = pure false := by rfl)
    (hf : X.fn x = true ∨ X.env.scope.names.lookup x = some .local := by first | exact .inl rfl | exact .inr rfl | assumption) : PS X (.Assign [.Name x pos'] e pos) (ts X.K G Er fun P ρ => C ρ ∧ ∀ n, n = g ρ → P.nx (ρ.set i (.fr (.int n)))) :=
  toS (xst_set hN hi hx he hs hf) fun B σ _ ρ O P D R c w => ⟨B, ρ, P, ⟨O, R⟩, ⟨c.1, c.2 _ rfl⟩, w⟩
theorem xst_setL (hN : X.N.Nodup) (hi : X.N[i]? = some x) (hx : Loc X.env.scope x) (he : PE X e (tXL X.K G C g)) (hs : swapsWith e (some (.Name x pos')) pos.line X.env = pure false := by rfl)
    (hf : X.fn x = true ∨ X.env.scope.names.lookup x = some .local := by first | exact .inl rfl | exact .inr rfl | assumption) : PS X (.Assign [.Name x pos'] e pos) (ts X.K G Er fun P ρ => C ρ ∧ ∀ ns, ns = g ρ → P.nx (ρ.set i (.fr (.ints ns)))) :=
  toS (xst_set hN hi hx he hs hf) fun B σ _ ρ O P D R c w => ⟨B, ρ, P, ⟨O, R⟩, ⟨c.1, c.2 _ rfl⟩, w⟩
/-- x = a new list of numbers, one's own from here on -/
theorem xst_own (hN : X.N.Nodup) (hi : X.N[i]? = some x) (hx : Loc X.env.scope x) (he : PE X e (tXl X.K G C g)) (hs : swapsWith e (some (.Name x pos')) pos.line X.env = pure false := by rfl)
    (hf : X.fn x = true ∨ X.env.scope.names.lookup x = some .local := by first | exact .inl rfl | exact .inr rfl | assumption) : PS X (.Assign [.Name x pos'] e pos) (ts X.K G Er fun P ρ => C ρ ∧ ∀ ns, ns = g ρ → P.nx (ρ.set i (.ow (.ints ns)))) :=
  toS (ps_set hN hi hx he hs hf) fun B σ _ ρ O _ _ R c w => ⟨B, ρ, O, R, c.1, fun a H1 s1 n1 e1 => w.nx _ H1 _ ⟨hide a O, R.new (p := .ints (g ρ)) s1 n1 e1 rfl⟩ (c.2 _ rfl)⟩
/-- x op= a number -/
theorem xst_aug {i : Nat} {op : Operator} {g : En → Int} {Pr : Int → Int → Prop} {h : Int → Int → Int} (hN : X.N.Nodup) (hi : X.N[i]? = some x) (hx : Loc X.env.scope x) (he : PE X e (tXI X.K G C g)) (ho : OpR X (inplaceOp op) (rI Pr fun i j => .int (h i j)))
    (hf : X.fn x = true ∨ X.env.scope.names.lookup x = some .local := by first | exact .inl rfl | exact .inr rfl | assumption) : PS X (.AugAssign (.Name x pos') op e pos) (ts X.K G Er fun P ρ => isI ρ i ∧ C ρ ∧ Pr (getI ρ i) (g ρ) ∧ ∀ n, n = h (getI ρ i) (g ρ) → P.nx (ρ.set i (.fr (.int n)))) :=
  toS (ps_aug hN hi hx he ho hf) fun B σ H ρ O _ _ R c w => by
    obtain ⟨c0, c1, c2, c3⟩ := c
    obtain ⟨v, e1, e2⟩ := R.fr i _ c0
    have e2 : v = .int (getI ρ i) := e2
    subst e2
    exact ⟨_, e1, B, ρ, O, R, c1, fun y H1 s1 a1 => ⟨_, _, rfl, a1, c2, w.nx _ H1 _ ⟨O, (R.grow s1).set (p := .int _) rfl⟩ (c3 _ rfl)⟩⟩
theorem xst_if [∀ ρ, Decidable (p ρ)] (hc : PT X c (tXT X.K G C p)) (ha : PSs X a (ts X.K G Er f1)) (hb : PSs X b (ts X.K G Er f2)) : PS X (.If c a b pos) (ts X.K G Er fun P ρ => C ρ ∧ (p ρ → f1 P ρ) ∧ (¬ p ρ → f2 P ρ)) :=
  toS (ps_if hc ha hb) fun B σ _ ρ O P D R c w => ⟨B, ρ, O, R, c.1, fun H1 s1 => by
    by_cases d : p ρ
    · rw [decide_eq_true d]; refine iteT ?_; exact ⟨B, ρ, P, ⟨O, R.grow s1⟩, c.2.1 d, w⟩
    · rw [decide_eq_false d]; refine iteF ?_; exact ⟨B, ρ, P, ⟨O, R.grow s1⟩, c.2.2 d, w⟩⟩
theorem xst_while [∀ ρ, Decidable (p ρ)] (hp : PassesOwn (model X.prog X.w) X.A X.env X.xe) (hc : PT X c (tXT X.K G C p)) (hb : PSs X body (ts X.K G Er f)) :
    PS X (.While c body [] pos) (ts X.K G Er fun P ρ => ∃ (W : En → Prop) (μ : En → Nat), W ρ ∧ ∀ ρ, W ρ → C ρ ∧ (p ρ → f (P.lp fun ρ' => W ρ' ∧ μ ρ' < μ ρ) ρ) ∧ (¬ p ρ → P.nx ρ)) :=
  toS (ps_while hp hc hb) fun B σ H ρ O P D R c w => by
    obtain ⟨W, μ, w0, st⟩ := c
    refine ⟨fun m σ H => ∃ ρ, RepE X.K G B σ H ρ ∧ W ρ ∧ m = μ ρ, ⟨μ ρ, ρ, ⟨O, R⟩, w0, rfl⟩, ?_⟩
    rintro m σ H ⟨ρ, ⟨O, R⟩, hw, rfl⟩
    obtain ⟨c1, c2, c3⟩ := st ρ hw
    refine ⟨B, ρ, O, R, c1, fun H1 s1 => ?_⟩
    by_cases d : p ρ
    · rw [decide_eq_true d]; refine iteT ?_
      refine ⟨fun σ' H' => ∃ ρ', RepE X.K G B σ' H' ρ' ∧ W ρ' ∧ μ ρ' < μ ρ, fun σ' H' ⟨ρ', R', h1, h2⟩ => ⟨_, h2, ρ', R', h1, rfl⟩, B, ρ, _, ⟨O, R.grow s1⟩, c2 d, ⟨fun σ' H' ρ' R' h => ⟨ρ', R', h⟩, w.rt, w.rl, w.rn, w.nx, fun σ' H' ρ' R' h => ⟨ρ', R', h⟩, w.er⟩⟩
    · rw [decide_eq_false d]; refine iteF ?_; exact w.nx σ H1 ρ ⟨O, R.grow s1⟩ (c3 d)
/-- for k in range(n) -/
theorem xst_forR (hp : PassesOwn (model X.prog X.w) X.A X.env X.xe) (hc : X.calm = true) (hg : Gl X "range") (hm : X.mg "range" = none) (ha : PE X a (tXI X.K G C g)) (hN : X.N.Nodup) (hi : X.N[k]? = some x) (hx : Loc X.env.scope x)
    (hb : PSs X body (ts X.K G Er f)) (hs : starEach [a] X.env = [(false, eval a X.env)] := by rfl) (hfs : ∀ x, foldedSetIterable (.Call (.Name "range" p) [a] [] pos') X.env x = pure x := by intro _; rfl)
    (hf : X.fn x = true ∨ X.env.scope.names.lookup x = some .local := by first | exact .inl rfl | exact .inr rfl | assumption) :
    PS X (.For (.Name x px) (.Call (.Name "range" p) [a] [] pos') body [] pos) (ts X.K G Er fun P ρ => C ρ ∧ (-(2 ^ 62) ≤ g ρ ∧ g ρ < 2 ^ 62) ∧ ∃ W : Nat → En → Prop, W 0 ρ ∧ (∀ i ρ', i < (g ρ).toNat → W i ρ' → f (P.lp (W (i + 1))) (ρ'.set k (.fr (.int i)))) ∧ ∀ ρ', W (g ρ).toNat ρ' → P.nx ρ') :=
  toS (ps_for hp hc (pi_range1 hg hm (pa_cons ha pa_nil hs) hs) (pg_name hN hi hx hf) hb hfs) fun B σ H ρ O P D R c w => by
    obtain ⟨c1, ⟨l1, l2⟩, W, w0, st, nd⟩ := c
    refine ⟨B, ρ, O, R, c1, fun v H1 s1 a1 => ?_⟩
    have a1 : v = .int (g ρ) := a1
    subst a1
    refine ⟨g ρ, rfl, l1, l2, for_range (fun i σ H => ∃ ρ', RepE X.K G B σ H ρ' ∧ W i ρ') ⟨ρ, ⟨O, R.grow s1⟩, w0⟩ ?_ ?_⟩
    · rintro i σ H hi ⟨ρ', ⟨O', R'⟩, hw⟩
      have e : (0 : Int) + i = i := by omega
      rw [e]
      exact ⟨B, _, _, ⟨O', R'.set (p := .int i) rfl⟩, st i ρ' hi hw, ⟨fun σ' H' ρ' R' h => ⟨ρ', R', h⟩, w.rt, w.rl, w.rn, w.nx, fun σ' H' ρ' R' h => ⟨ρ', R', h⟩, w.er⟩⟩
    · rintro σ H ⟨ρ', R', hw⟩
      exact w.nx σ H ρ' R' (nd ρ' hw)
theorem xst_forR2 (hp : PassesOwn (model X.prog X.w) X.A X.env X.xe) (hc : X.calm = true) (hg : Gl X "range") (hm : X.mg "range" = none) (ha : PE X a (tXI X.K G C g)) (hb' : PE X b (tXI X.K G Cb h)) (hN : X.N.Nodup) (hi : X.N[k]? = some x) (hx : Loc X.env.scope x)
    (hb : PSs X body (ts X.K G Er f)) (hs : starEach [a, b] X.env = [(false, eval a X.env), (false, eval b X.env)] := by rfl) (hs2 : starEach [b] X.env = [(false, eval b X.env)] := by rfl) (hfs : ∀ x, foldedSetIterable (.Call (.Name "range" p) [a, b] [] pos') X.env x = pure x := by intro _; rfl)
    (hf : X.fn x = true ∨ X.env.scope.names.lookup x = some .local := by first | exact .inl rfl | exact .inr rfl | assumption) :
    PS X (.For (.Name x px) (.Call (.Name "range" p) [a, b] [] pos') body [] pos) (ts X.K G Er fun P ρ => (C ρ ∧ Cb ρ) ∧ (-(2 ^ 62) ≤ g ρ ∧ g ρ < 2 ^ 62 ∧ -(2 ^ 62) ≤ h ρ ∧ h ρ < 2 ^ 62) ∧
      ∃ W : Nat → En → Prop, W 0 ρ ∧ (∀ i ρ', i < (h ρ - g ρ).toNat → W i ρ' → f (P.lp (W (i + 1))) (ρ'.set k (.fr (.int (g ρ + i))))) ∧ ∀ ρ', W (h ρ - g ρ).toNat ρ' → P.nx ρ') :=
  toS (ps_for hp hc (pi_range2 hg hm (pa_cons ha (pa_cons hb' pa_nil hs2) (by rw [hs, hs2])) hs hs2) (pg_name hN hi hx hf) hb hfs) fun B σ H ρ O P D R c w => by
    obtain ⟨⟨c1, c2⟩, l, W, w0, st, nd⟩ := c
    refine ⟨B, ρ, O, R, c1, fun v H1 s1 a1 => ⟨B, ρ, O, R.grow s1, c2, fun u H2 s2 a2 => ?_⟩⟩
    have a1 : v = .int (g ρ) := a1
    have a2 : u = .int (h ρ) := a2
    subst a1 a2
    refine ⟨g ρ, h ρ, rfl, l, for_range (fun i σ H => ∃ ρ', RepE X.K G B σ H ρ' ∧ W i ρ') ⟨ρ, ⟨O, (R.grow s1).grow s2⟩, w0⟩ ?_ ?_⟩
    · rintro i σ H hi ⟨ρ', ⟨O', R'⟩, hw⟩
      exact ⟨B, _, _, ⟨O', R'.set (p := .int _) rfl⟩, st i ρ' hi hw, ⟨fun σ' H' ρ' R' h => ⟨ρ', R', h⟩, w.rt, w.rl, w.rn, w.nx, fun σ' H' ρ' R' h => ⟨ρ', R', h⟩, w.er⟩⟩
    · rintro σ H ⟨ρ', R', hw⟩
      exact w.nx σ H ρ' R' (nd ρ' hw)
theorem owe_base {B : Bs} {σ : L2.St} {H : Hp} {ρ : En} {O : Addr → Bool} {K : PySem.W.Frag} {P : Ps} {D : Ends} (R : Rep K G B σ H ρ O) (w : Owe K G Er B P D) : Owe K G Er (B.at H O) P D :=
  ⟨fun σ' H' ρ' ⟨O', R'⟩ h => w.nx σ' H' ρ' ⟨O', R.unbase R'⟩ h, fun v H' p s a h => w.rt v H' p (R.base_le.trans s) a h, fun a H' ns s n e h => w.rl a H' ns (R.base_le.trans s) (R.base_le.free n) e h, fun v H' p s a h => w.rn v H' p (R.base_le.trans s) (At.mono (mn_anti fun b z => by
    obtain ⟨o, e⟩ := Option.isSome_iff_exists.mp z
    exact Option.isSome_iff_exists.mpr (R.base_le _ _ e).some) _ _ a) h, fun σ' H' ρ' ⟨O', R'⟩ h => w.bk σ' H' ρ' ⟨O', R.unbase R'⟩ h, fun σ' H' ρ' ⟨O', R'⟩ h => w.ct σ' H' ρ' ⟨O', R.unbase R'⟩ h, fun H' C s h => w.er H' C (R.base_le.trans s) h⟩
/-- for x in a list of numbers that is not changed -/
theorem xst_forL {k : Nat} {x : Str} {l : Expr} {body : List Stmt} {g : En → List Int} {px : Pos} (hp : PassesOwn (model X.prog X.w) X.A X.env X.xe) (hc : X.calm = true) (hl : PE X l (tXL X.K G C g)) (hN : X.N.Nodup) (hi : X.N[k]? = some x) (hx : Loc X.env.scope x)
    (hb : PSs X body (ts X.K G Er f)) (hfs : ∀ x, foldedSetIterable l X.env x = pure x := by intro _; rfl) (hf : X.fn x = true ∨ X.env.scope.names.lookup x = some .local := by first | exact .inl rfl | exact .inr rfl | assumption) :
    PS X (.For (.Name x px) l body [] pos) (ts X.K G Er fun P ρ => C ρ ∧ ∃ W : Nat → En → Prop, W 0 ρ ∧ (∀ i n ρ', (g ρ)[i]? = some n → W i ρ' → f (P.lp (W (i + 1))) (ρ'.set k (.fr (.int n)))) ∧ ∀ ρ', W (g ρ).length ρ' → P.nx ρ') :=
  toS (ps_for hp hc (pi_list hl) (pg_name hN hi hx hf) hb hfs) fun B σ H ρ O P D R c w => by
    obtain ⟨c1, W, w0, st, nd⟩ := c
    refine ⟨B, ρ, O, R, c1, fun v H1 s1 a1 => ?_⟩
    obtain ⟨a, e, hq⟩ := a1
    have R1 := R.grow s1
    have w1 := owe_base R1 w
    refine ⟨a, e, ⟨_, .inl (same_rd mn_le hq)⟩, for_list (xs := (g ρ).map V.int) (fun i σ H => ∃ ρ', RepE X.K G (B.at H1 O) σ H ρ' ∧ W i ρ') ⟨ρ, ⟨O, R1.rebase⟩, w0⟩ ?_ ?_ ?_⟩
    · rintro i σ H _ ⟨ρ', ⟨O', R'⟩, _⟩
      exact .inl (same_rd ((Rep.base_mn B H1 O).trans R'.same) hq)
    · rintro i y σ H hy ⟨ρ', ⟨O', R'⟩, hw⟩
      rw [List.getElem?_map] at hy
      cases en : (g ρ)[i]? with
      | none => rw [en] at hy; cases hy
      | some n =>
        rw [en] at hy
        have hy : V.int n = y := Option.some.inj hy
        subst hy
        exact ⟨_, _, _, ⟨O', R'.set (p := .int n) rfl⟩, st i n ρ' en hw, ⟨fun σ' H' ρ' R' h => ⟨ρ', R', h⟩, w1.rt, w1.rl, w1.rn, w1.nx, fun σ' H' ρ' R' h => ⟨ρ', R', h⟩, w1.er⟩⟩
    · rintro σ H ⟨ρ', R', hw⟩
      rw [List.length_map] at hw
      exact w1.nx σ H ρ' R' (nd ρ' hw)
/-- for x in a list of values -/
theorem xst_forP {k : Nat} {x : Str} {l : Expr} {body : List Stmt} {g : En → List PV} {px : Pos} (hp : PassesOwn (model X.prog X.w) X.A X.env X.xe) (hc : X.calm = true) (hl : PE X l (tX X.K G C fun ρ => .lst (g ρ))) (hN : X.N.Nodup) (hi : X.N[k]? = some x) (hx : Loc X.env.scope x)
    (hb : PSs X body (ts X.K G Er f)) (hfs : ∀ x, foldedSetIterable l X.env x = pure x := by intro _; rfl) (hf : X.fn x = true ∨ X.env.scope.names.lookup x = some .local := by first | exact .inl rfl | exact .inr rfl | assumption) :
    PS X (.For (.Name x px) l body [] pos) (ts X.K G Er fun P ρ => C ρ ∧ ∃ W : Nat → En → Prop, W 0 ρ ∧ (∀ i n ρ', (g ρ)[i]? = some n → W i ρ' → f (P.lp (W (i + 1))) (ρ'.set k (.fr n))) ∧ ∀ ρ', W (g ρ).length ρ' → P.nx ρ') :=
  toS (ps_for hp hc (pi_list hl) (pg_name hN hi hx hf) hb hfs) fun B σ H ρ O P D R c w => by
    obtain ⟨c1, W, w0, st, nd⟩ := c
    refine ⟨B, ρ, O, R, c1, fun v H1 s1 a1 => ?_⟩
    obtain ⟨a, vs, e, hq, hal⟩ := a1
    have R1 := R.grow s1
    have w1 := owe_base R1 w
    have el := hal.length
    refine ⟨a, e, ⟨_, .inl (same_rd mn_le hq)⟩, for_list (xs := vs) (fun i σ H => ∃ ρ', RepE X.K G (B.at H1 O) σ H ρ' ∧ W i ρ') ⟨ρ, ⟨O, R1.rebase⟩, w0⟩ ?_ ?_ ?_⟩
    · rintro i σ H _ ⟨ρ', ⟨O', R'⟩, _⟩
      exact .inl (same_rd ((Rep.base_mn B H1 O).trans R'.same) hq)
    · rintro i y σ H hy ⟨ρ', ⟨O', R'⟩, hw⟩
      obtain ⟨n, en, an⟩ := hal.get hy
      exact ⟨_, _, _, ⟨O', R'.set (At.mono (R1.seen R') _ _ an)⟩, st i n ρ' en hw, ⟨fun σ' H' ρ' R' h => ⟨ρ', R', h⟩, w1.rt, w1.rl, w1.rn, w1.nx, fun σ' H' ρ' R' h => ⟨ρ', R', h⟩, w1.er⟩⟩
    · rintro σ H ⟨ρ', R', hw⟩
      rw [← el] at hw
      exact w1.nx σ H ρ' R' (nd ρ' hw)
/-- for k, x in enumerate(a list of numbers) -/
theorem xst_forE {k j : Nat} {x y : Str} {l : Expr} {body : List Stmt} {g : En → List Int} {px py p pos' tp : Pos} {kk : Nat} (hp : PassesOwn (model X.prog X.w) X.A X.env X.xe) (hc : X.calm = true) (hg : Gl X "enumerate") (hm : X.mg "enumerate" = none) (hl : PE X l (tXL X.K G C g))
    (hgt : PG X (.Tuple [.Name x px, .Name y py] kk tp) (gTup X.K 2 (gCons (gName k) (gCons (gName j) gNil)))) (hb : PSs X body (ts X.K G Er f)) (hs : starEach [l] X.env = [(false, eval l X.env)] := by rfl)
    (hfs : ∀ x, foldedSetIterable (.Call (.Name "enumerate" p) [l] [] pos') X.env x = pure x := by intro _; rfl) :
    PS X (.For (.Tuple [.Name x px, .Name y py] kk tp) (.Call (.Name "enumerate" p) [l] [] pos') body [] pos) (ts X.K G Er fun P ρ => C ρ ∧ ∃ W : Nat → En → Prop, W 0 ρ ∧
      (∀ i n ρ', (g ρ)[i]? = some n → W i ρ' → f (P.lp (W (i + 1))) ((ρ'.set k (.fr (.int i))).set j (.fr (.int n)))) ∧ ∀ ρ', W (g ρ).length ρ' → P.nx ρ') :=
  toS (ps_for hp hc (pi_enum hg hm (pa_cons hl pa_nil hs) hs) hgt hb hfs) fun B σ H ρ O P D R c w => by
    obtain ⟨c1, W, w0, st, nd⟩ := c
    refine ⟨B, ρ, O, R, c1, fun v H1 s1 a1 => ?_⟩
    obtain ⟨a, e, hq⟩ := a1
    subst e
    have R1 := R.grow s1
    have w1 := owe_base R1 w
    refine ⟨a, rfl, ⟨_, .inl (same_rd mn_le hq)⟩, for_enum (xs := (g ρ).map V.int) (fun i σ H => ∃ ρ', RepE X.K G (B.at H1 O) σ H ρ' ∧ W i ρ') ⟨ρ, ⟨O, R1.rebase⟩, w0⟩ ?_ ?_ ?_⟩
    · rintro i σ H _ ⟨ρ', ⟨O', R'⟩, _⟩
      exact .inl (same_rd ((Rep.base_mn B H1 O).trans R'.same) hq)
    · rintro i y σ H T hy ⟨ρ', ⟨O', R'⟩, hw⟩ hT
      obtain ⟨n, rfl, en⟩ := int_at hy
      refine ⟨T, _, rfl, SqT.of upd_same, rfl, _, _, rfl, _, _, rfl, rfl, ?_⟩
      exact ⟨_, _, _, ⟨O', ((R'.grow (same_new hT _)).set (p := .int i) rfl).set (p := .int n) rfl⟩, st i n ρ' en hw, ⟨fun σ' H' ρ' R' h => ⟨ρ', R', h⟩, w1.rt, w1.rl, w1.rn, w1.nx, fun σ' H' ρ' R' h => ⟨ρ', R', h⟩, w1.er⟩⟩
    · rintro σ H ⟨ρ', R', hw⟩
      rw [List.length_map] at hw
      exact w1.nx σ H ρ' R' (nd ρ' hw)
end
end L3

/-! ### lists, calls, changes over pure values -/
namespace L3
open PySem PySem.Spec PyProof.Rows L2
theorem getD_at {ns : List Int} {i : Int} (h1 : -(ns.length : Int) ≤ i) (h2 : i < ns.length) : atI (ns.map V.int) i = some (V.int (ns.getD (if 0 ≤ i then i else i + ns.length).toNat 0)) := by
  by_cases c0 : 0 ≤ i
  · rw [if_pos c0]; exact atI_int c0 h2
  · rw [if_neg c0]
    have q2 := atI_int (ns := ns) (i := i + ns.length) (by omega) (by omega)
    unfold atI ixN at q2 ⊢
    rw [List.length_map] at q2 ⊢
    rw [if_pos (show 0 ≤ i + (ns.length : Int) by omega), if_pos (show i + (ns.length : Int) < (ns.length : Int) by omega)] at q2
    rw [if_neg c0, if_pos h1]
    exact q2
/-- the place that an index means -/
noncomputable def ixO (n : Nat) (i : Int) : Nat := (if 0 ≤ i then i else i + n).toNat
theorem ixN_ok {n : Nat} (h1 : -(n : Int) ≤ i) (h2 : i < n) : ixN n i = some (ixO n i) := by
  unfold ixN ixO
  by_cases c : 0 ≤ i
  · rw [if_pos c, if_pos h2, if_pos c]
  · rw [if_neg c, if_pos h1, if_neg c]
theorem ixO_lt {n : Nat} (h1 : -(n : Int) ≤ i) (h2 : i < n) : ixO n i < n := by
  unfold ixO
  by_cases c : 0 ≤ i
  · rw [if_pos c]; omega
  · rw [if_neg c]; omega
section
variable {X : Cx} {G : Gx} {Er : ER} {a b e : Expr} {pos p px : Pos} {C Ca Cb : En → Prop} {ga gb : En → Int} {i : Nat} {es : List Expr}
/-- x[k], x a list of numbers -/
theorem xn_item (i : Nat) (hb : PE X b (tXI X.K G Cb gb)) (hs : PlainIx b) (hN : X.N[i]? = some x := by rfl) (hv : Vis X.env.scope x := by first | exact Or.inl rfl | exact Or.inr (Or.inl rfl) | exact Or.inr (Or.inr rfl))
    (hd : (x == ("__debug__" : Str)) = false := by decide) (hcd : (x == ("__classdict__" : Str)) = false := by decide) :
    PE X (.Subscript (.Name x px) b pos) (tXI X.K G (fun ρ => isLO ρ i ∧ Cb ρ ∧ -((getL ρ i).length : Int) ≤ gb ρ ∧ gb ρ < ((getL ρ i).length : Int)) fun ρ => (getL ρ i).getD (ixO (getL ρ i).length (gb ρ)) 0) :=
  toX (pe_ix ix_list (pe_var hN hv hd hcd) hb hs) fun B σ H ρ O Q R c q => by
    obtain ⟨a, e1, e2⟩ := R.readL c.1
    exact ⟨_, e1, B, ρ, O, R, c.2.1, fun u H1 s1 a1 => ⟨a, _, _, _, rfl, a1, s1.seq e2, getD_at c.2.2.1 c.2.2.2, q _ H1 s1 rfl⟩⟩
theorem xn_len (i : Nat) (hm : X.mg "len" = none) (hN : X.N[i]? = some x := by rfl) (hg : Gl X "len" := by rfl) (hv : Vis X.env.scope x := by first | exact Or.inl rfl | exact Or.inr (Or.inl rfl) | exact Or.inr (Or.inr rfl))
    (hd : (x == ("__debug__" : Str)) = false := by decide) (hcd : (x == ("__classdict__" : Str)) = false := by decide) (he : starEach [.Name x px] X.env = [(false, eval (.Name x px) X.env)] := by rfl) :
    PE X (.Call (.Name "len" p) [.Name x px] [] pos) (tXI X.K G (fun ρ => isLO ρ i) fun ρ => ((getL ρ i).length : Int)) :=
  toX (pe_callB call_len_seq hg hm bt_len (pa_cons (pe_var hN hv hd hcd) pa_nil he) (by decide) (by decide) he rfl) fun B σ H ρ O Q R c q => by
    obtain ⟨a, e1, e2⟩ := R.readL c
    exact ⟨_, e1, a, _, rfl, .inl e2, by rw [List.length_map]; exact q _ H (Same.refl H) rfl⟩
/-- len of any list or tuple -/
noncomputable def lenP : PV → Int
  | .ints ns => (ns.length : Int)
  | .scr ns => (ns.length : Int)
  | .lst xs => (xs.length : Int)
  | .tup xs => (xs.length : Int)
  | _ => 0
noncomputable def hasLen : PV → Prop
  | .ints _ => True
  | .scr _ => True
  | .lst _ => True
  | .tup _ => True
  | _ => False
theorem At.len {K : PySem.W.Frag} {H : Hp} {p : PV} {v : V} (h : At K G H p v) (hl : hasLen p) : ∃ a ys, v = .ref a ∧ (SqL K H a ys ∨ SqT K H a ys) ∧ (ys.length : Int) = lenP p := by
  cases p <;> first | exact hl.elim | skip
  · obtain ⟨a, e, q⟩ := h; exact ⟨a, _, e, .inl (.inl q), by rw [List.length_map]; rfl⟩
  · obtain ⟨a, e, q⟩ := h; exact ⟨a, _, e, .inl q, by rw [List.length_map]; rfl⟩
  · obtain ⟨a, vs, e, q, r⟩ := h; exact ⟨a, vs, e, .inl (.inl q), by rw [← r.length]; rfl⟩
  · obtain ⟨a, vs, e, q, r⟩ := h; exact ⟨a, vs, e, .inr (SqT.of q), by rw [← r.length]; rfl⟩
theorem xn_lenP {g : En → PV} (hm : X.mg "len" = none) (ha : PE X a (tX X.K G C g)) (hg : Gl X "len" := by rfl) (he : starEach [a] X.env = [(false, eval a X.env)] := by rfl) :
    PE X (.Call (.Name "len" p) [a] [] pos) (tXI X.K G (fun ρ => C ρ ∧ hasLen (g ρ)) fun ρ => lenP (g ρ)) :=
  toX (pe_callB call_len_seq hg hm bt_len (pa_cons ha pa_nil he) (by decide) (by decide) he rfl) fun B σ H ρ O Q R c q => ⟨B, ρ, O, R, c.1, fun v H1 s1 a1 => by
    obtain ⟨a, ys, e, s, l⟩ := a1.len c.2
    exact ⟨a, ys, by rw [e], s.imp (fun z => mn_le.seq z) (fun z => same_tup mn_le z), by rw [l]; exact q _ H1 s1 rfl⟩⟩
/-- an item of a list or tuple of values -/
noncomputable def itP : PV → Int → PV
  | .lst xs, k => xs.getD (ixO xs.length k) .non
  | .tup xs, k => xs.getD (ixO xs.length k) .non
  | .ints ns, k => .int (ns.getD (ixO ns.length k) 0)
  | _, _ => .non
noncomputable def hasIt : PV → Int → Prop
  | .lst xs, k => -(xs.length : Int) ≤ k ∧ k < xs.length
  | .tup xs, k => -(xs.length : Int) ≤ k ∧ k < xs.length
  | .ints xs, k => -(xs.length : Int) ≤ k ∧ k < xs.length
  | _, _ => False
theorem AtL.item {K : PySem.W.Frag} {H : Hp} {ps : List PV} {vs : List V} {k : Int} (h : AtL K G H ps vs) (h1 : -(ps.length : Int) ≤ k) (h2 : k < ps.length) : ∃ v, atI vs k = some v ∧ At K G H (ps.getD (ixO ps.length k) .non) v := by
  have l := ixO_lt h1 h2
  have e : ps[ixO ps.length k]? = some (ps.getD (ixO ps.length k) .non) := by rw [List.getD_eq_getElem?_getD, List.getElem?_eq_getElem l]; rfl
  obtain ⟨v, ev, av⟩ := h.at e
  refine ⟨v, ?_, av⟩
  unfold atI
  rw [← h.length, ixN_ok h1 h2]
  exact ev
theorem xp_item {g : En → PV} (ha : PE X a (tX X.K G Ca g)) (hb : PE X b (tXI X.K G Cb gb)) (hs : PlainIx b) : PE X (.Subscript a b pos) (tX X.K G (fun ρ => Ca ρ ∧ Cb ρ ∧ hasIt (g ρ) (gb ρ)) fun ρ => itP (g ρ) (gb ρ)) :=
  toX (pe_ix ix_seq ha hb hs) fun B σ H ρ O Q R c q => two R c.1 c.2.1 fun v u H1 H2 s1 s2 a1 a2 => by
    have h := c.2.2
    revert a1 h q
    generalize g ρ = pg
    intro q a1 h
    cases pg <;> first | exact h.elim | skip
    · obtain ⟨p, e, r⟩ := a1
      exact .inl ⟨p, _, _, _, e, a2, .inl (same_rd mn_le r), getD_at h.1 h.2, q _ H2 (s1.trans s2) rfl⟩
    · obtain ⟨p, vs, e, r, t⟩ := a1
      obtain ⟨v', e', a'⟩ := t.item h.1 h.2
      exact .inl ⟨p, vs, _, v', e, a2, .inl (same_rd mn_le r), e', q _ H2 (s1.trans s2) a'⟩
    · obtain ⟨p, vs, e, r, t⟩ := a1
      obtain ⟨v', e', a'⟩ := t.item h.1 h.2
      exact .inr (.inl ⟨p, vs, _, v', e, a2, SqT.of (mn_le _ _ r), e', q _ H2 (s1.trans s2) a'⟩)
/-- [a, b, ..] of numbers -/
noncomputable def allI : List PV → List Int
  | .int n :: r => n :: allI r
  | _ => []
noncomputable def areI : List PV → Prop
  | [] => True
  | .int _ :: r => areI r
  | _ => False
theorem AtL.ints {K : PySem.W.Frag} {H : Hp} : ∀ {ps : List PV} {vs : List V}, AtL K G H ps vs → areI ps → vs = (allI ps).map V.int
  | [], _, h, _ => h
  | p :: ps, _, h, c => by
    cases p <;> first | exact c.elim | skip
    obtain ⟨v, r, rfl, e, t⟩ := h
    rw [e, AtL.ints t c]
    rfl
theorem xl_lst {gs : En → List PV} (h : PA X es (tXs X.K G C gs)) (hz : ∀ ρ, (gs ρ).length ≤ 1000 := by intro _; exact Nat.le_of_ble_eq_true rfl) : PE X (.List es pos) (tXl X.K G (fun ρ => C ρ ∧ areI (gs ρ)) fun ρ => allI (gs ρ)) :=
  toXl (pe_lst h) fun B σ H ρ O Q R c q => ⟨B, ρ, O, R, c.1, fun vs H1 s1 a1 => ⟨by rw [← a1.length]; exact Nat.le_of_lt (small1000 (hz ρ)), fun a ha => by
    have e := a1.ints c.2
    refine q a _ (s1.trans (same_new ha _)) (s1.free ha) ?_
    rw [upd_same, e]⟩⟩
/-- list(x) of numbers -/
theorem xl_list (hm : X.mg "list" = none) (ha : PE X a (tX X.K G C g)) (hn : ∀ ρ, g ρ = .ints (ns ρ) ∨ g ρ = .scr (ns ρ)) (hg : Gl X "list" := by rfl) (he : starEach [a] X.env = [(false, eval a X.env)] := by rfl) :
    PE X (.Call (.Name "list" p) [a] [] pos) (tXl X.K G C ns) :=
  toXl (pe_callTy call_list_of hg hm bt_list (pa_cons ha pa_nil he) (by decide) (by decide) he rfl) fun B σ H ρ O Q R c q => ⟨B, ρ, O, R, c, fun v H1 s1 a1 => by
    have key : ∃ p, v = .ref p ∧ SqL X.K H1 p ((ns ρ).map V.int) := by
      rcases hn ρ with z | z
      · rw [z] at a1; obtain ⟨p, e, r⟩ := a1; exact ⟨p, e, .inl (same_rd mn_le r)⟩
      · rw [z] at a1; obtain ⟨p, e, r⟩ := a1; exact ⟨p, e, mn_le.seq r⟩
    obtain ⟨p, rfl, r⟩ := key
    exact ⟨p, _, rfl, .inl r, fun l hl => q l _ (s1.trans (same_new hl _)) (s1.free hl) upd_same⟩⟩
/-- x[lo:hi] of numbers -/
noncomputable def cutI (xs : List Int) (lo hi : Option Int) : List Int := (xs.drop (HT.sIx xs.length 0 lo)).take (HT.sIx xs.length xs.length hi - HT.sIx xs.length 0 lo)
theorem cutV_map (xs : List Int) (lo hi : Option Int) : cutV (xs.map V.int) lo hi = (cutI xs lo hi).map V.int := by
  unfold cutV cutI
  rw [List.length_map, ← List.map_drop, ← List.map_take]
noncomputable def tXo (K : PySem.W.Frag) (G : Gx) (C : En → Prop) (g : En → Option Int) : TO := fun σ H Q => ∃ B ρ O, Rep K G B σ H ρ O ∧ C ρ ∧ ∀ H', Same H H' → Q (g ρ) H'
theorem xo_none : PO X none (tXo X.K G (fun _ => True) fun _ => none) := fun pins s σ H Q I ⟨_, _, _, _, _, q⟩ => po_none pins s σ H Q I (q H (Same.refl H))
theorem xo_some (h : PE X e (tXI X.K G C ga)) : PO X (some e) (tXo X.K G C fun ρ => some (ga ρ)) := fun pins s σ H Q I ⟨B, ρ, O, R, c, q⟩ => po_some h pins s σ H Q I ⟨B, ρ, O, R, c, fun _ H1 s1 a1 => ⟨_, a1, q H1 s1⟩⟩
theorem xl_slice {lo hi : Option Expr} {g : En → PV} {ns : En → List Int} {Cl Ch : En → Prop} {gl gh : En → Option Int} (ha : PE X a (tX X.K G C g)) (hl : PO X lo (tXo X.K G Cl gl)) (hh : PO X hi (tXo X.K G Ch gh)) (hn : ∀ ρ, C ρ → g ρ = .ints (ns ρ) ∨ g ρ = .scr (ns ρ)) :
    PE X (.Subscript a (.Slice lo hi none p2) pos) (tXl X.K G (fun ρ => C ρ ∧ Cl ρ ∧ Ch ρ) fun ρ => cutI (ns ρ) (gl ρ) (gh ρ)) :=
  toXl (pe_slice sl_list ha hl hh) fun B σ H ρ O Q R c q => ⟨B, ρ, O, R, c.1, fun v H1 s1 a1 => ⟨B, ρ, O, R.grow s1, c.2.1, fun H2 s2 => ⟨B, ρ, O, (R.grow s1).grow s2, c.2.2, fun H3 s3 => by
    have key : ∃ p, v = .ref p ∧ SqL X.K H1 p ((ns ρ).map V.int) := by
      rcases hn ρ c.1 with z | z
      · rw [z] at a1; obtain ⟨p, e, r⟩ := a1; exact ⟨p, e, .inl (same_rd mn_le r)⟩
      · rw [z] at a1; obtain ⟨p, e, r⟩ := a1; exact ⟨p, e, mn_le.seq r⟩
    obtain ⟨p, rfl, r⟩ := key
    refine ⟨p, _, rfl, (s2.trans s3).seq r, fun l hl => q l _ (((s1.trans s2).trans s3).trans (same_new hl _)) (((s1.trans s2).trans s3).free hl) ?_⟩
    rw [upd_same, cutV_map]⟩⟩⟩
/-- a list of numbers behind another -/
theorem Inv.lstR {X : Cx} {pins : List (Addr × Obj)} {σ : L2.St} {H : Hp} {s : Shared} {l : Addr} {xs : List V} (I : Inv X pins σ H s) (hH : Rd H l (.lst xs)) : xs.length ≤ sizeLine ∧ ∃ (its : List Value) (n : Nat), Vals xs its ∧ xs.length = its.length ∧ s.heap.get? l = some { cls := .type "list", data := .seq its.toArray n } := by
  obtain ⟨z, its, n, r, e⟩ := hH.ok I.hok
  exact ⟨z, its, n, r, r.length, e⟩
noncomputable def rCatR : R2 := fun x y H Q => ∃ l b xs zs, x = .ref l ∧ y = .ref b ∧ Rd H l (.lst xs) ∧ Rd H b (.lst zs) ∧ xs.length + zs.length ≤ sizeLine ∧ ∀ p, H p = none → Q (.ref p) (upd H p (.lst (xs ++ zs)))
theorem op_catR : OpR X (binaryOp .Add) rCatR := by
  intro pins s σ H x y v u Q I rx ry h
  obtain ⟨l, b, xs, zs, rfl, rfl, hH, hB, hz, q⟩ := h
  cases rx
  cases ry
  obtain ⟨z, its, n, r, hl, e⟩ := Inv.lstR I hH
  obtain ⟨z2, its2, n2, r2, hl2, e2⟩ := Inv.lstR I hB
  refine PySem.P.add_list e e2 ?_ (by rw [List.size_toArray, List.size_toArray]; omega)
  have ea : its.toArray ++ its2.toArray = (its ++ its2).toArray := by simp
  rw [ea]
  exact ⟨.ref _, _, I.lnew (t' := s.toks) (r.append r2) (by rw [List.length_append]; omega), rfl, q _ I.fresh⟩
theorem xl_cat (ha : PE X a (tXL X.K G Ca gl)) (hb : PE X b (tXL X.K G Cb hl)) : PE X (.BinOp a .Add b pos) (tXl X.K G (fun ρ => Ca ρ ∧ Cb ρ ∧ (gl ρ).length + (hl ρ).length ≤ sizeLine) fun ρ => gl ρ ++ hl ρ) :=
  toXl (pe_op op_catR ha hb) fun B σ H ρ O Q R c q => two R c.1 c.2.1 fun v u H1 H2 s1 s2 a1 a2 => by
    obtain ⟨l, rfl, r1⟩ := a1
    obtain ⟨b, rfl, r2⟩ := a2
    refine ⟨l, b, _, _, rfl, rfl, same_rd mn_le r1, same_rd mn_le r2, by rw [List.length_map, List.length_map]; exact c.2.2, fun p hp => q p _ ((s1.trans s2).trans (same_new hp _)) ((s1.trans s2).free hp) ?_⟩
    rw [upd_same, List.map_append]
theorem flat_rep {α : Type} (x : α) : ∀ k : Nat, (List.replicate k [x]).flatten = List.replicate k x
  | 0 => rfl
  | k + 1 => by rw [List.replicate_succ, List.flatten_cons, flat_rep x k]; rfl
/-- [x] * k -/
theorem xl_rep {gl : En → List Int} {n : En → Int} (ha : PE X a (tXl X.K G Ca gl)) (hb : PE X b (tXI X.K G Cb gb)) (hn : ∀ ρ, gl ρ = [n ρ]) : PE X (.BinOp a .Mult b pos) (tXl X.K G (fun ρ => Ca ρ ∧ Cb ρ ∧ -(2 ^ 63) ≤ gb ρ ∧ (gb ρ).toNat ≤ 1000) fun ρ => List.replicate (gb ρ).toNat (n ρ)) :=
  toXl (pe_op op_rep ha hb) fun B σ H ρ O Q R c q => ⟨B, ρ, O, R, c.1, fun l H1 s1 n1 e1 => ⟨B, ρ, O, R.grow s1, c.2.1, fun u H2 s2 a2 => by
    rw [hn ρ] at e1
    refine ⟨l, _, _, rfl, a2, s2 _ _ e1, c.2.2.1, by have := c.2.2.2; omega, ?_, fun p hp => q p _ ((s1.trans s2).trans (same_new hp _)) ((s1.trans s2).free hp) ?_⟩
    · rw [List.map_cons, List.map_nil, List.length_singleton, Nat.one_mul]
      exact Nat.le_of_lt (small1000 c.2.2.2)
    · rw [upd_same, List.map_cons, List.map_nil, flat_rep, List.map_replicate]⟩⟩
/-! calls of defs -/
end
/-- values in, a value out; nothing that stood is changed -/
noncomputable def spF (K : PySem.W.Frag) (G : Gx) (pre : List PV → Prop) (F : List PV → PV) : Sp := fun vs H Q _ => ∃ as O, (∀ a, O a = true → H a ≠ none) ∧ AtL K G (mn H O) as vs ∧ pre as ∧ ∀ v H', Same H H' → At K G (mn H' O) (F as) v → Q v H'
/-- values in, a new list of numbers out -/
noncomputable def spL (K : PySem.W.Frag) (G : Gx) (pre : List PV → Prop) (F : List PV → List Int) : Sp := fun vs H Q _ => ∃ as O, (∀ a, O a = true → H a ≠ none) ∧ AtL K G (mn H O) as vs ∧ pre as ∧ ∀ a H', Same H H' → H a = none → H' a = some (.lst ((F as).map V.int)) → Q (.ref a) H'
section
variable {X : Cx} {G : Gx} {Er : ER} {e : Expr} {es : List Expr} {pos p : Pos} {j k : Nat} {x : Str} {ps : List Str} {pre : List PV → Prop} {C : En → Prop} {gs : En → List PV}
theorem xc (o : Ok X.prog X.w X.K X.mg X.base j x ps (spF X.K G pre F)) (hr : Room k X.A) (ha : PA X (e :: es) (tXs X.K G C gs)) (hj : j ≤ k := by decide) (hg : Gl X x := by rfl) (hdb : (x == ("__debug__" : Str)) = false := by decide)
    (he : starEach (e :: es) X.env = (false, eval e X.env) :: starEach es X.env := by rfl) (hpl : (backTo pos (starEach es X.env)).any (·.1) = false := by rfl) :
    PE X (.Call (.Name x p) (e :: es) [] pos) (tX X.K G (fun ρ => C ρ ∧ pre (gs ρ)) fun ρ => F (gs ρ)) :=
  toX (pe_callO o hr ha hj hg hdb he hpl) fun B σ H ρ O Q R c q => ⟨B, ρ, O, R, c.1, fun vs H1 s1 a1 => by
    dsimp only
    rw [List.append_nil]
    exact ⟨gs ρ, O, (R.grow s1).dom, a1, c.2, fun v H2 s2 a2 => q v H2 (s1.trans s2) a2⟩⟩
theorem xcl (o : Ok X.prog X.w X.K X.mg X.base j x ps (spL X.K G pre F)) (hr : Room k X.A) (ha : PA X (e :: es) (tXs X.K G C gs)) (hj : j ≤ k := by decide) (hg : Gl X x := by rfl) (hdb : (x == ("__debug__" : Str)) = false := by decide)
    (he : starEach (e :: es) X.env = (false, eval e X.env) :: starEach es X.env := by rfl) (hpl : (backTo pos (starEach es X.env)).any (·.1) = false := by rfl) :
    PE X (.Call (.Name x p) (e :: es) [] pos) (tXl X.K G (fun ρ => C ρ ∧ pre (gs ρ)) fun ρ => F (gs ρ)) :=
  toXl (pe_callO o hr ha hj hg hdb he hpl) fun B σ H ρ O Q R c q => ⟨B, ρ, O, R, c.1, fun vs H1 s1 a1 => by
    dsimp only
    rw [List.append_nil]
    exact ⟨gs ρ, O, (R.grow s1).dom, a1, c.2, fun a H2 s2 n2 e2 => q a H2 (s1.trans s2) (s1.free n2) e2⟩⟩
end
/-! a def begins -/
noncomputable def startR (N : List Str) (as : List PV) : En := as.map Sl.fr ++ List.replicate (N.length - as.length) .un
theorem rep_start {K : PySem.W.Frag} {G : Gx} {H : Hp} {O : Addr → Bool} {as : List PV} {vs : List V} {N : List Str} (hd : ∀ a, O a = true → H a ≠ none) (h : AtL K G (mn H O) as vs) : Rep K G ⟨H, O⟩ (L2.start N vs) H (startR N as) O := by
  have hl := h.length
  refine ⟨Same.refl H, hd, fun _ z => z, hd, fun _ z => .inl z, fun i p e => ?_, fun i p e => ?_, fun i j p q a e => ?_, by unfold L2.start startR; simp [hl], fun i xss e => ?_⟩
  · unfold startR at e
    by_cases c : i < as.length
    · rw [List.getElem?_append_left (by rw [List.length_map]; exact c), List.getElem?_map] at e
      cases e' : as[i]? with
      | none => rw [e'] at e; cases e
      | some p' =>
        rw [e'] at e
        cases e
        obtain ⟨v, ev, av⟩ := h.at e'
        refine ⟨v, ?_, av⟩
        unfold L2.start
        rw [List.getElem?_append_left (by rw [List.length_map, ← hl]; exact c), List.getElem?_map, ev]
        rfl
    · rw [List.getElem?_append_right (by rw [List.length_map]; omega), List.getElem?_replicate] at e
      split at e <;> cases e
  · exfalso
    unfold startR at e
    by_cases c : i < as.length
    · rw [List.getElem?_append_left (by rw [List.length_map]; exact c), List.getElem?_map] at e
      cases e' : as[i]? <;> rw [e'] at e <;> cases e
    · rw [List.getElem?_append_right (by rw [List.length_map]; omega), List.getElem?_replicate] at e
      split at e <;> cases e
  · exfalso
    unfold startR at e
    by_cases c : i < as.length
    · rw [List.getElem?_append_left (by rw [List.length_map]; exact c), List.getElem?_map] at e
      cases e' : as[i]? <;> rw [e'] at e <;> cases e
    · rw [List.getElem?_append_right (by rw [List.length_map]; omega), List.getElem?_replicate] at e
      split at e <;> cases e
  · exfalso
    unfold startR at e
    by_cases c : i < as.length
    · rw [List.getElem?_append_left (by rw [List.length_map]; exact c), List.getElem?_map] at e
      cases e' : as[i]? <;> rw [e'] at e <;> cases e
    · rw [List.getElem?_append_right (by rw [List.length_map]; omega), List.getElem?_replicate] at e
      split at e <;> cases e
section
variable {P : Program} {w : World} {K : PySem.W.Frag} {mg : Str → Option Value} {base : Heap} {G : Gx}
/-- a def that tells a value -/
theorem okF {x : Str} {st : Stmt} {N ps : List Str} {k : Nat} {pre : List PV → Prop} {F : List PV → PV} (d : Def K mg x st ps) (S : FnScope N ps (defScope st)) (len : ∀ as, pre as → as.length = ps.length)
    (hbody : ∀ (f : Addr) (cdv : Value) (A : Around) (outer : List Env) (s : Shared) (H : Hp) (E : XK), Room k (A.deeper (envOfC x (defScope st) s.heap.objs.size f cdv)) →
      ∃ fs, PSs (cxOf CX0 P w K mg base N x (defScope st) f cdv A outer s H E).nox (defBody st) (ts K G ER0 fs) ∧ ∀ as, pre as → fs { nx := fun _ => F as = .non, rt := fun p => p = F as, rl := fun ns => F as = .ints ns } (startR N as)) : Ok P w K mg base (k + 1) x ps (spF K G pre F) := by
  refine Def.ok d S (fun vs H Q E h => ?_) fun f cdv A outer s H vs Q E hr h => ?_
  · obtain ⟨as, O, _, al, hp, _⟩ := h
    rw [← al.length]; exact len as hp
  obtain ⟨as, O, hd, al, hp, q⟩ := h
  obtain ⟨fs, b, c⟩ := hbody f cdv A outer s H E hr
  refine ⟨_, b, ⟨H, O⟩, startR N as, _, ⟨O, rep_start hd al⟩, c as hp, ⟨fun σ' H' ρ' R' h => ?_, fun v H' p s' a' h => ?_, fun a H' ns s' n e h => ?_, fun _ _ _ _ _ h => h.elim, fun _ _ _ _ h => h, fun _ _ _ _ h => h, fun _ _ _ h => h⟩⟩
  · obtain ⟨O', R'⟩ := R'
    exact q .non H' R'.same (by rw [show F as = .non from h]; rfl)
  · subst h
    exact q v H' s' a'
  · refine q _ H' s' ?_
    rw [h]
    exact ⟨a, rfl, .inl (by
      rw [mn_of]
      · exact e
      · cases z : O a with
        | false => rfl
        | true => exact absurd n (hd a z))⟩
/-- a def that tells a new list of numbers -/
theorem okL {x : Str} {st : Stmt} {N ps : List Str} {k : Nat} {pre : List PV → Prop} {F : List PV → List Int} (d : Def K mg x st ps) (S : FnScope N ps (defScope st)) (len : ∀ as, pre as → as.length = ps.length)
    (hbody : ∀ (f : Addr) (cdv : Value) (A : Around) (outer : List Env) (s : Shared) (H : Hp) (E : XK), Room k (A.deeper (envOfC x (defScope st) s.heap.objs.size f cdv)) →
      ∃ fs, PSs (cxOf CX0 P w K mg base N x (defScope st) f cdv A outer s H E).nox (defBody st) (ts K G ER0 fs) ∧ ∀ as, pre as → fs { nx := fun _ => False, rt := fun _ => False, rl := fun ns => ns = F as } (startR N as)) : Ok P w K mg base (k + 1) x ps (spL K G pre F) := by
  refine Def.ok d S (fun vs H Q E h => ?_) fun f cdv A outer s H vs Q E hr h => ?_
  · obtain ⟨as, O, _, al, hp, _⟩ := h
    rw [← al.length]; exact len as hp
  obtain ⟨as, O, hd, al, hp, q⟩ := h
  obtain ⟨fs, b, c⟩ := hbody f cdv A outer s H E hr
  refine ⟨_, b, ⟨H, O⟩, startR N as, _, ⟨O, rep_start hd al⟩, c as hp, ⟨fun _ _ _ _ h => h.elim, fun _ _ _ _ _ h => h.elim, fun a H' ns s' n e h => ?_, fun _ _ _ _ _ h => h.elim, fun _ _ _ _ h => h, fun _ _ _ _ h => h, fun _ _ _ h => h⟩⟩
  subst h
  exact q a H' s' n e
end
/-! ### changes of a list of one's own -/
/-- a def that changes the list of numbers it is handed alone -/
noncomputable def spM (pre : List Int → Prop) (F : List Int → List Int) : Sp := fun vs H Q _ => ∃ a ns, vs = [.ref a] ∧ H a = some (.lst (ns.map V.int)) ∧ pre ns ∧ ∀ H', (∀ b o, b ≠ a → H b = some o → H' b = some o) → H' a = some (.lst ((F ns).map V.int)) → Q .non H'
theorem upd_le (h : ∀ b o, b ≠ a → H b = some o → H' b = some o) (e : H' a = some o) : Same (upd H a o) H' := same_mk fun b u z => by
  by_cases c : b = a
  · subst c; rw [upd_same] at z; cases z; exact e
  · rw [upd_ne c] at z; exact h b u c z
section
variable {X : Cx} {G : Gx} {Er : ER} {e b : Expr} {pos px pa pc : Pos} {i j k : Nat} {x y : Str} {C Cb : En → Prop} {g gb : En → Int}
theorem xst_append (i : Nat) (he : PE X e (tXI X.K G C g)) (hN : X.N[i]? = some x := by rfl) (hv : Vis X.env.scope x := by first | exact Or.inl rfl | exact Or.inr (Or.inl rfl) | exact Or.inr (Or.inr rfl))
    (hd : (x == ("__debug__" : Str)) = false := by decide) (hcd : (x == ("__classdict__" : Str)) = false := by decide)
    (hbase : attributeBase (.Name x px) "append" X.env (eval (.Name x px) X.env) = eval (.Name x px) X.env := by rfl)
    (hfew : ((backTo pc (starEach (e :: []) X.env)).all (fun x => !x.1) && (backToKw pc (keywordEach [] X.env)).all (fun x => x.1.isSome)
      && decide ((e :: []).length + ([] : List Keyword).length + (if ([] : List Keyword).isEmpty then 0 else 1) < 30)) = true := by rfl)
    (hline : (pa.endLine == pc.line) = true := by rfl) (hs : starEach (e :: []) X.env = (false, eval e X.env) :: starEach [] X.env := by rfl) (hplain : (backTo pc (starEach [] X.env)).any (·.1) = false := by rfl)
    (hsw : swapsWith (.Call (.Attribute (.Name x px) "append" pa) [e] [] pc) none pos.line X.env = pure false := by rfl) :
    PS X (.Expr (.Call (.Attribute (.Name x px) "append" pa) [e] [] pc) pos) (ts X.K G Er fun P ρ => isO ρ i ∧ C ρ ∧ (getL ρ i).length < sizeLine ∧ P.nx (ρ.set i (.ow (.ints (getL ρ i ++ [g ρ]))))) :=
  toS (ps_expr (pe_bm PySem.F.plainAttrs_list PySem.F.slot_list_append PySem.F.type_list_append mt_append (pe_var hN hv hd hcd) (pa_cons he pa_nil hs) hbase hfew hline hs hplain) hsw) fun B σ H ρ O P D R c w => by
    obtain ⟨c0, c1, c2, c3⟩ := c
    obtain ⟨a, vs, e1, e2, e3, e4, e5⟩ := R.ow i _ c0
    subst e5
    refine ⟨_, e1, .inl ⟨rfl, _, SqL.of e4⟩, B, ρ, O, R, c1, fun v H1 s1 a1 => ?_⟩
    subst a1
    refine ⟨a, _, _, rfl, rfl, s1 _ _ e4, by rw [List.length_map]; exact c2, w.nx σ _ _ ⟨O, (R.grow s1).change c0 e1 (p' := .ints (getL ρ i ++ [g ρ])) ?_⟩ c3⟩
    show _ = (getL ρ i ++ [g ρ]).map V.int
    rw [List.map_append]
    rfl
theorem xst_pop (i : Nat) (hN : X.N[i]? = some x := by rfl) (hv : Vis X.env.scope x := by first | exact Or.inl rfl | exact Or.inr (Or.inl rfl) | exact Or.inr (Or.inr rfl))
    (hd : (x == ("__debug__" : Str)) = false := by decide) (hcd : (x == ("__classdict__" : Str)) = false := by decide)
    (hbase : attributeBase (.Name x px) "pop" X.env (eval (.Name x px) X.env) = eval (.Name x px) X.env := by rfl) (hline : (pa.endLine == pc.line) = true := by rfl)
    (hsw : swapsWith (.Call (.Attribute (.Name x px) "pop" pa) [] [] pc) none pos.line X.env = pure false := by rfl) :
    PS X (.Expr (.Call (.Attribute (.Name x px) "pop" pa) [] [] pc) pos) (ts X.K G Er fun P ρ => isO ρ i ∧ getL ρ i ≠ [] ∧ P.nx (ρ.set i (.ow (.ints (getL ρ i).dropLast)))) :=
  toS (ps_expr (pe_bm0 PySem.F.plainAttrs_list PySem.F.slot_list_pop PySem.F.type_list_pop mt_pop (pe_var hN hv hd hcd) hbase hline) hsw) fun B σ H ρ O P D R c w => by
    obtain ⟨c0, c1, c3⟩ := c
    obtain ⟨a, vs, e1, e2, e3, e4, e5⟩ := R.ow i _ c0
    subst e5
    have hl : 0 < (getL ρ i).length := List.length_pos_iff.mpr c1
    refine ⟨_, e1, .inl ⟨rfl, _, SqL.of e4⟩, a, _, V.int ((getL ρ i)[(getL ρ i).length - 1]'(by omega)), rfl, rfl, e4, ?_, w.nx σ _ _ ⟨O, R.change c0 e1 (p' := .ints (getL ρ i).dropLast) ?_⟩ c3⟩
    · rw [List.length_map, List.getElem?_map, List.getElem?_eq_getElem (by omega)]
      rfl
    · show _ = (getL ρ i).dropLast.map V.int
      rw [List.map_dropLast]
theorem xst_setit (i : Nat) (hk : PE X b (tXI X.K G Cb gb)) (he : PE X e (tXI X.K G C g)) (hN : X.N[i]? = some x := by rfl) (hv : Vis X.env.scope x := by first | exact Or.inl rfl | exact Or.inr (Or.inl rfl) | exact Or.inr (Or.inr rfl))
    (hd : (x == ("__debug__" : Str)) = false := by decide) (hcd : (x == ("__classdict__" : Str)) = false := by decide)
    (ha : ∀ v, assign (.Subscript (.Name x px) b ps) X.env v = (do
      let ov ← holding [v] (eval (.Name x px) X.env)
      let iv ← holding [v, ov] (eval b X.env)
      standAt ps
      holding [v, ov, iv] (setItem ov iv v)
      release [v, ov, iv] []) := by intro _; rfl)
    (hs : swapsWithSole [.Subscript (.Name x px) b ps] e pos.line X.env = pure false := by rfl) (hw : swappedStores [.Subscript (.Name x px) b ps] e X.env = pure none := by rfl)
    (h1 : (assignEach [.Subscript (.Name x px) b ps] X.env).map (·.2) = [assign (.Subscript (.Name x px) b ps) X.env] := by rfl) :
    PS X (.Assign [.Subscript (.Name x px) b ps] e pos) (ts X.K G Er fun P ρ => C ρ ∧ isO ρ i ∧ Cb ρ ∧ (-((getL ρ i).length : Int) ≤ gb ρ ∧ gb ρ < ((getL ρ i).length : Int)) ∧ P.nx (ρ.set i (.ow (.ints ((getL ρ i).set (ixO (getL ρ i).length (gb ρ)) (g ρ)))))) :=
  toS (ps_asg he (pg_sub (pe_var hN hv hd hcd) hk set_list ha) hs hw h1) fun B σ H ρ O P D R c w => by
    obtain ⟨c1, c0, c2, cb, c3⟩ := c
    refine ⟨B, ρ, O, R, c1, fun v H1 s1 a1 => ?_⟩
    subst a1
    have R1 := R.grow s1
    obtain ⟨a, vs, e1, e2, e3, e4, e5⟩ := R1.ow i _ c0
    subst e5
    refine ⟨_, e1, B, ρ, O, R1, c2, fun u H2 s2 a2 => ?_⟩
    subst a2
    refine ⟨a, _, _, _, rfl, rfl, s2 _ _ e4, by rw [List.length_map]; exact ixN_ok cb.1 cb.2, w.nx σ _ _ ⟨O, (R1.grow s2).change c0 e1 (p' := .ints _) ?_⟩ c3⟩
    show _ = ((getL ρ i).set _ _).map V.int
    rw [List.map_set]
/-- a call of a def that changes the list of one's own in slot i -/
theorem xst_mut (i : Nat) (o : Ok X.prog X.w X.K X.mg X.base j y ps (spM pre F)) (hr : Room k X.A) (hj : j ≤ k := by decide) (hg : Gl X y := by rfl)
    (hN : X.N[i]? = some x := by rfl) (hv : Vis X.env.scope x := by first | exact Or.inl rfl | exact Or.inr (Or.inl rfl) | exact Or.inr (Or.inr rfl)) (hd : (x == ("__debug__" : Str)) = false := by decide) (hcd : (x == ("__classdict__" : Str)) = false := by decide)
    (hdb : (y == ("__debug__" : Str)) = false := by decide) (he : starEach (.Name x px :: []) X.env = (false, eval (.Name x px) X.env) :: starEach [] X.env := by rfl) (hpl : (backTo pc (starEach [] X.env)).any (·.1) = false := by rfl)
    (hsw : swapsWith (.Call (.Name y pa) [.Name x px] [] pc) none pos.line X.env = pure false := by rfl) :
    PS X (.Expr (.Call (.Name y pa) [.Name x px] [] pc) pos) (ts X.K G Er fun P ρ => isO ρ i ∧ pre (getL ρ i) ∧ P.nx (ρ.set i (.ow (.ints (F (getL ρ i)))))) :=
  toS (ps_expr (pe_callO o hr (pa_cons (pe_var hN hv hd hcd) pa_nil he) hj hg hdb he hpl) hsw) fun B σ H ρ O P D R c w => by
    obtain ⟨c0, c1, c3⟩ := c
    obtain ⟨a, vs, e1, e2, e3, e4, e5⟩ := R.ow i _ c0
    subst e5
    exact ⟨_, e1, a, _, rfl, e4, c1, fun H' k1 k2 => w.nx σ H' _ ⟨O, (R.change c0 e1 (p' := .ints _) rfl).grow (upd_le k1 k2)⟩ c3⟩
end
end L3

/-! ### comprehensions over pure values -/
namespace L3
open PySem PySem.Spec PyProof.Rows L2
noncomputable def capR (cap : List (Option Nat)) (ρ : En) : En := cap.map fun o => match o with
  | some i => (match ρ[i]? with
    | some (.fr p) => .fr p
    | _ => .un)
  | none => .un
section
variable {K : PySem.W.Frag} {G : Gx} {B : Bs} {σ : L2.St} {H H1 : Hp} {ρ : En} {O : Addr → Bool} {D : Addr} {cap : List (Option Nat)}
theorem rep_block (R : Rep K G B σ H1 ρ O) (hD : H1 D = none) (s : Same H1 H) (hn : H D ≠ none) : Rep K G ⟨H1, O⟩ (capS cap σ) H (capR cap ρ) (hide D O) := by
  refine ⟨s, R.dom, hide_le, fun a z y => ?_, fun a z => ?_, fun j p e => ?_, fun j p e => ?_, fun i j p q a e => ?_, by unfold capS capR; rw [List.length_map, List.length_map], fun j xss e => ?_⟩
  · by_cases c : a = D
    · subst c; exact hn y
    · rw [hide_ne c] at z; exact R.dom a z (s.free y)
  · by_cases c : a = D
    · subst c; exact .inr hD
    · rw [hide_ne c] at z; exact .inl z
  · unfold capR at e
    rw [List.getElem?_map] at e
    cases ec : cap[j]? with
    | none => rw [ec] at e; cases e
    | some o =>
      rw [ec] at e
      cases o with
      | none => cases e
      | some i =>
        have e := Option.some.inj e
        dsimp only at e
        split at e
        · rename_i p' er
          cases e
          obtain ⟨v, e1, e2⟩ := R.fr i p er
          refine ⟨v, ?_, At.mono (mn_hide s hD) _ _ e2⟩
          unfold capS
          rw [List.getElem?_map, ec]
          show some ((σ[i]?).join) = some (some v)
          rw [e1]
          rfl
        · cases e
  · exfalso
    unfold capR at e
    rw [List.getElem?_map] at e
    cases ec : cap[j]? with
    | none => rw [ec] at e; cases e
    | some o =>
      rw [ec] at e
      cases o with
      | none => cases e
      | some i =>
        have e := Option.some.inj e
        dsimp only at e
        split at e <;> cases e
  · exfalso
    unfold capR at e
    rw [List.getElem?_map] at e
    cases ec : cap[i]? with
    | none => rw [ec] at e; cases e
    | some o =>
      rw [ec] at e
      cases o with
      | none => cases e
      | some i =>
        have e := Option.some.inj e
        dsimp only at e
        split at e <;> cases e
  · exfalso
    unfold capR at e
    rw [List.getElem?_map] at e
    cases ec : cap[j]? with
    | none => rw [ec] at e; cases e
    | some o =>
      rw [ec] at e
      cases o with
      | none => cases e
      | some i =>
        have e := Option.some.inj e
        dsimp only at e
        split at e <;> cases e
theorem ext_refl : ∀ σ : L2.St, ExtS σ σ
  | [] => True.intro
  | none :: r => ext_refl r
  | some _ :: r => ⟨rfl, ext_refl r⟩
variable {α : Type} {J : It} {g : TG} {C : En → Prop} {gb : En → PV} {Q : VK}
theorem lc_main (items : List α) (setσ : α → V → L2.St) (setr : α → En) (val : α → V) (R : Rep K G B σ H1 ρ O) (hD : H1 D = none) (hlen : items.length ≤ 1000) (hgo : ∀ i H, i < items.length → Same H1 H → J.go i H)
    (hyld : ∀ i it x H H', items[i]? = some it → Same H1 H → J.yld i H x H' → Same H H' ∧ ∀ k : L2.St → Hp → Prop, k (setσ it (val it)) H' → g x (capS cap σ) H' k) (hstop : ∀ H, Same H1 H → J.stop items.length H)
    (hset : ∀ it H, it ∈ items → Same H1 H → Rep K G ⟨H1, O⟩ (capS cap σ) H (capR cap ρ) (hide D O) → Rep K G ⟨H1, O⟩ (setσ it (val it)) H (setr it) (hide D O)) (hext : ∀ it, ExtS (capS cap σ) (setσ it (val it))) (hC : ∀ it ∈ items, C (setr it))
    (hQ : ∀ H' ys, Same H1 H' → H' D = some (.lst ys) → AtL K G (mn H' (hide D O)) (items.map fun it => gb (setr it)) ys → Q (.ref D) H') :
    ∃ W : Nat → Nat → List V → Hp → Prop, (∃ m, W 0 m [] (upd H1 D (.lst []))) ∧ lcW D J (capS cap σ) g noTest (tX K G C gb) Q W := by
  refine ⟨fun i m ys H => m = items.length - i ∧ i ≤ items.length ∧ Same H1 H ∧ H D = some (.lst ys) ∧ AtL K G (mn H (hide D O)) ((items.take i).map fun it => gb (setr it)) ys, ⟨items.length, by simp, Nat.zero_le _, same_new hD _, upd_same, rfl⟩, ?_⟩
  rintro i m ys H ⟨rfl, hi, hs, hd, al⟩
  have hl : ys.length = i := by rw [← al.length, List.length_map, List.length_take]; omega
  refine ⟨hd, small1000 (by omega), ?_⟩
  by_cases hlt : i < items.length
  · refine .inr ⟨hgo i H hlt hs, ?_⟩
    intro x H' hy
    have en : items[i]? = some items[i] := List.getElem?_eq_getElem hlt
    obtain ⟨s1, kk⟩ := hyld i _ x H H' en hs hy
    refine kk _ ⟨hext _, ?_⟩
    refine iteT ?_
    have hd' := s1 _ _ hd
    have R2 := hset items[i] H' (List.getElem_mem hlt) (hs.trans s1) (rep_block R hD (hs.trans s1) (by rw [hd']; exact fun z => by cases z))
    refine ⟨_, _, _, R2, hC _ (List.getElem_mem hlt), fun v H2 s2 a2 => ⟨s2 _ _ hd', items.length - (i + 1), by omega, rfl, hlt, ?_, upd_same, ?_⟩⟩
    · intro b o z
      rw [upd_ne (ne_of_none z hD)]
      exact ((hs.trans s1).trans s2) b o z
    · rw [mn_upd hide_self, take_at en, List.map_append]
      exact AtL.snoc (AtL.mono (mn_same (s1.trans s2)) _ _ al) a2
  · have e : i = items.length := by omega
    subst e
    refine .inl ⟨hstop H hs, hQ H ys hs hd ?_⟩
    rw [List.take_length] at al
    exact al
theorem atL_ints : ∀ {l : List α} {ys : List V}, AtL K G H (l.map fun x => .int (gi x)) ys → ys = (l.map gi).map V.int
  | [], _, h => h
  | x :: r, _, h => by
    obtain ⟨v, t, rfl, e, q⟩ := h
    rw [e, atL_ints q]
    rfl
end
section
variable {K : PySem.W.Frag} {G : Gx} {σ : L2.St} {H : Hp} {Q : VK} {Cs Cb : En → Prop} {gs : En → List Int} {gi : En → Int} {gp : En → PV} {cap : List (Option Nat)}
/-- over a list of numbers -/
theorem lc_L (h : tXp K G (fun ρ => Cs ρ ∧ (gs ρ).length ≤ 1000 ∧ ∀ n ∈ gs ρ, Cb ((capR (none :: cap) ρ).set 0 (.fr (.int n)))) (fun ρ => (gs ρ).map fun n => gp ((capR (none :: cap) ρ).set 0 (.fr (.int n)))) σ H Q) :
    tLC (none :: cap) (iList K (tXL K G Cs gs)) (gName 0) noTest (tX K G Cb gp) σ H Q := by
  obtain ⟨B, ρ, O, R, ⟨c1, c2, c3⟩, q⟩ := h
  refine ⟨B, ρ, O, R, c1, fun v H1 s1 a1 => ?_⟩
  obtain ⟨a, rfl, hq⟩ := a1
  have hq1 : SqL K H1 a ((gs ρ).map V.int) := .inl (same_rd mn_le hq)
  refine ⟨a, rfl, ⟨_, hq1⟩, fun D hD => ?_⟩
  refine lc_main (gs ρ) (fun _ v => (capS (none :: cap) σ).set 0 (some v)) (fun n => (capR (none :: cap) ρ).set 0 (.fr (.int n))) V.int (R.grow s1) hD c2 (fun i H hi s => ⟨_, .int (gs ρ)[i], s.seq hq1, by simp [hi]⟩) ?_ (fun H s => ⟨_, s.seq hq1, by simp⟩) (fun n H _ s R' => R'.set (p := .int n) rfl) ?_ c3 ?_
  · rintro i n x H H' en s ⟨rfl, hx⟩
    obtain ⟨n', rfl, hn⟩ := int_at (hx _ (s.seq hq1))
    rw [hn] at en
    cases en
    exact ⟨Same.refl _, fun k hk => hk⟩
  · intro n
    exact ext_refl _
  · intro H' ys s hd al
    exact q D ys H' (s1.trans s) (s1.free hD) hd al
/-- a list of numbers comes -/
theorem p_of_l {C : En → Prop} {α : Type} {src : En → List α} {gi : En → α → Int} (h : tXl K G C (fun ρ => (src ρ).map (gi ρ)) σ H Q) : tXp K G C (fun ρ => (src ρ).map fun x => .int (gi ρ x)) σ H Q := by
  obtain ⟨B, ρ, O, R, c, q⟩ := h
  refine ⟨B, ρ, O, R, c, fun a vs H' s n e al => q a H' s n ?_⟩
  rw [e, atL_ints al]
end
section
variable {X : Cx} {G : Gx} {Er : ER} {N' : List Str} {sc : Scope} {cl : List (Str × Addr)} {cap : List (Option Nat)} {el tg src : Expr} {at' spos px : Pos} {Cs Cb : En → Prop} {gs : En → List Int} {gn gi : En → Int} {gp : En → PV} {i : Nat} {x : Str}
theorem xl_lcL (L : LcOk X N' sc cl (none :: cap)) (hc : X.calm = true) (hi : PE X src (tXL X.K G Cs gs)) (hg : ∀ s H fp, PG (cxComp X N' sc cl s H fp) tg (gName 0)) (he : ∀ s H fp, PE (cxComp X N' sc cl s H fp) el (tXI X.K G Cb gi)) (hs : ∀ x, foldedSetIterable src X.env x = pure x := by intro _; rfl) :
    PE X (.ListComp el [⟨tg, src, [], 0⟩] sc at') (tXl X.K G (fun ρ => Cs ρ ∧ (gs ρ).length ≤ 1000 ∧ ∀ n ∈ gs ρ, Cb ((capR (none :: cap) ρ).set 0 (.fr (.int n)))) fun ρ => (gs ρ).map fun n => gi ((capR (none :: cap) ρ).set 0 (.fr (.int n)))) :=
  fun pins s σ H Q I h => pe_lc L hc (pi_list hi) hg (fun _ _ _ => pts_nil) he hs pins s σ H Q I (lc_L (p_of_l h))
/-- x = [..], the machine's own way: a list of one's own -/
theorem own_of {t : TE} {st : Stmt} {C : En → Prop} {g : En → List Int} (h : PS X st (tAsg t (gName i))) (k : ∀ σ H Q, tXl X.K G C g σ H Q → t σ H Q) : PS X st (ts X.K G Er fun P ρ => C ρ ∧ ∀ ns, ns = g ρ → P.nx (ρ.set i (.ow (.ints ns)))) :=
  toS h fun B σ H ρ O P D R c w => k σ H _ ⟨B, ρ, O, R, c.1, fun a H1 s1 n1 e1 => w.nx _ H1 _ ⟨hide a O, R.new (p := .ints (g ρ)) s1 n1 e1 rfl⟩ (c.2 _ rfl)⟩
theorem fr_of {t : TE} {st : Stmt} {C : En → Prop} {g : En → List Int} (h : PS X st (tAsg t (gName i))) (k : ∀ σ H Q, tXl X.K G C g σ H Q → t σ H Q) : PS X st (ts X.K G Er fun P ρ => C ρ ∧ ∀ ns, ns = g ρ → P.nx (ρ.set i (.fr (.ints ns)))) :=
  toS h fun B σ H ρ O P D R c w => k σ H _ ⟨B, ρ, O, R, c.1, fun a H1 s1 n1 e1 => w.nx _ H1 _ ⟨O, (R.grow s1).set (p := .ints _) ⟨a, rfl, .inl (by
    rw [mn_of]
    · exact e1
    · cases z : O a with
      | false => rfl
      | true => exact absurd n1 (R.dom a z))⟩⟩ (c.2 _ rfl)⟩
theorem xst_lcL (hN : X.N.Nodup) (hi' : X.N[i]? = some x) (hx : X.env.scope.names.lookup x = some .local) (L : LcOk X N' sc cl (none :: cap)) (hc : X.calm = true) (hi : PE X src (tXL X.K G Cs gs)) (hg : ∀ s H fp, PG (cxComp X N' sc cl s H fp) tg (gName 0)) (he : ∀ s H fp, PE (cxComp X N' sc cl s H fp) el (tXI X.K G Cb gi))
    (hsw : swapsWith (.ListComp el [⟨tg, src, [], 0⟩] sc at') (some (.Name x px)) spos.line X.env = pure true) (hs : ∀ x, foldedSetIterable src X.env x = pure x := by intro _; rfl) :
    PS X (.Assign [.Name x px] (.ListComp el [⟨tg, src, [], 0⟩] sc at') spos) (ts X.K G Er fun P ρ => (Cs ρ ∧ (gs ρ).length ≤ 1000 ∧ ∀ n ∈ gs ρ, Cb ((capR (none :: cap) ρ).set 0 (.fr (.int n)))) ∧ ∀ ns, ns = ((gs ρ).map fun n => gi ((capR (none :: cap) ρ).set 0 (.fr (.int n)))) → P.nx (ρ.set i (.ow (.ints ns)))) :=
  own_of (ps_lc hN hi' hx L hc (pi_list hi) hg (fun _ _ _ => pts_nil) he hsw hs) fun σ H Q h => lc_L (p_of_l h)
end
/-- the slots, written out -/
theorem to_lit {k : En → Prop} (h : ρ = ρ') (q : k ρ') : k ρ := by rw [h]; exact q
end L3

/-! ### isinstance, small built-ins, kinds over pure values -/
namespace L3
open PySem PySem.Spec PyProof.Rows L2
noncomputable def tyP : PV → Option Value
  | .int _ => some (.type "int")
  | .bl _ => some (.type "bool")
  | .non => some (.type "NoneType")
  | .str _ => some (.type "str")
  | .ints _ => some (.type "list")
  | .lst _ => some (.type "list")
  | .tup _ => some (.type "tuple")
  | _ => none
noncomputable def clsP : PV → Option Value
  | .ty n => some (.type n)
  | .cls a => some (.ref a)
  | _ => none
theorem At.ty {K : PySem.W.Frag} {G : Gx} {H : Hp} {p : PV} {v : V} {t : Value} (h : At K G H p v) (e : tyP p = some t) : TyOf K H v t := by
  cases p <;> first | cases e | skip
  · cases (show v = _ from h); exact .int _
  · cases (show v = _ from h); exact .bl _
  · cases (show v = _ from h); exact .non
  · cases (show v = _ from h); exact .str _
  · obtain ⟨a, rfl, r | ⟨o, r⟩⟩ := h
    · exact .lst r
    · exact .frz r
  · obtain ⟨a, vs, rfl, r | ⟨o, r⟩, _⟩ := h
    · exact .lst r
    · exact .frz r
  · obtain ⟨a, vs, rfl, r, _⟩ := h
    exact .tup r
theorem At.cls {K : PySem.W.Frag} {G : Gx} {H : Hp} {p : PV} {v : V} {t : Value} (h : At K G H p v) (e : clsP p = some t) : clsV v = some t := by
  cases p <;> first | cases e | skip
  · cases (show v = _ from h); rfl
  · cases (show v = _ from h); rfl
/-- isinstance(p, c) -/
noncomputable def instP (K : PySem.W.Frag) (p c : PV) : Bool := match tyP p, clsP c with
  | some t, some cv => PySem.W.kitOne K t cv == some true
  | _, _ => false
noncomputable def instOk (K : PySem.W.Frag) (p c : PV) : Prop := ∃ t cv b, tyP p = some t ∧ clsP c = some cv ∧ PySem.W.kitOne K t cv = some b
theorem instP_of {K : PySem.W.Frag} {p c : PV} {t cv : Value} {b : Bool} (h1 : tyP p = some t) (h2 : clsP c = some cv) (h : PySem.W.kitOne K t cv = some b) : instP K p c = b := by
  unfold instP
  rw [h1, h2]
  show (PySem.W.kitOne K t cv == some true) = b
  rw [h]
  cases b <;> rfl
theorem TyOf.up {K : PySem.W.Frag} {H H' : Hp} {v : V} {t : Value} (s : Same H H') (h : TyOf K H v t) : TyOf K H' v t := by
  cases h with
  | non => exact .non
  | bl x => exact .bl x
  | int x => exact .int x
  | str x => exact .str x
  | flt x => exact .flt x
  | lst e => exact .lst (s _ _ e)
  | frz e => exact .frz (s _ _ e)
  | tup e => exact .tup (s _ _ e)
  | dK e => exact .dK (s _ _ e)
  | dT e => exact .dT (s _ _ e)
  | ins e a b c d f => exact .ins (s _ _ e) a b c d f
section
variable {X : Cx} {G : Gx} {a b c e : Expr} {es : List Expr} {pos p px apos : Pos} {C Ca Cb Cc : En → Prop} {ga gc : En → PV} {gi gj : En → Int} {i j k n : Nat} {x m : Str}
theorem xe_isinst (hm : X.mg "isinstance" = none) (ha : PE X a (tX X.K G Ca ga)) (hc : PE X c (tX X.K G Cc gc)) (hg : Gl X "isinstance" := by rfl) (he : starEach [a, c] X.env = (false, eval a X.env) :: starEach [c] X.env := by rfl) (he2 : starEach [c] X.env = [(false, eval c X.env)] := by rfl) (hpl : (backTo pos (starEach [c] X.env)).any (·.1) = false := by rfl) :
    PE X (.Call (.Name "isinstance" p) [a, c] [] pos) (tXB X.K G (fun ρ => Ca ρ ∧ Cc ρ ∧ instOk X.K (ga ρ) (gc ρ)) fun ρ => instP X.K (ga ρ) (gc ρ) = true) :=
  toX (pe_callB call_isinst hg hm bt_isinstance (pa_cons ha (pa_cons hc pa_nil he2) he) (by decide) (by decide) he hpl) fun B σ H ρ O Q R cc q => ⟨B, ρ, O, R, cc.1, fun v H1 s1 a1 => ⟨B, ρ, O, R.grow s1, cc.2.1, fun u H2 s2 a2 => by
    obtain ⟨t, cv, b, e1, e2, e3⟩ := cc.2.2
    refine ⟨v, u, t, cv, b, rfl, a2.cls e2, TyOf.up (mn_le.trans s2) (a1.ty e1), e3, q _ H2 (s1.trans s2) ?_⟩
    have z : instP X.K (ga ρ) (gc ρ) = b := instP_of e1 e2 e3
    show V.bl b = V.bl (decide (instP X.K (ga ρ) (gc ρ) = true))
    rw [z, Bool.decide_eq_true]⟩⟩
/-! calls that tell a number, a truth -/
noncomputable abbrev spFI (K : PySem.W.Frag) (G : Gx) (pre : List PV → Prop) (F : List PV → Int) : Sp := spF K G pre fun as => .int (F as)
noncomputable abbrev spFB (K : PySem.W.Frag) (G : Gx) (pre : List PV → Prop) (F : List PV → Bool) : Sp := spF K G pre fun as => .bl (F as)
noncomputable abbrev spFL (K : PySem.W.Frag) (G : Gx) (pre : List PV → Prop) (F : List PV → List Int) : Sp := spF K G pre fun as => .ints (F as)
variable {ps : List Str} {pre : List PV → Prop} {gs : En → List PV}
theorem xcL (o : Ok X.prog X.w X.K X.mg X.base j x ps (spFL X.K G pre F)) (hr : Room k X.A) (ha : PA X (e :: es) (tXs X.K G C gs)) (hj : j ≤ k := by decide) (hg : Gl X x := by rfl) (hdb : (x == ("__debug__" : Str)) = false := by decide)
    (he : starEach (e :: es) X.env = (false, eval e X.env) :: starEach es X.env := by rfl) (hpl : (backTo pos (starEach es X.env)).any (·.1) = false := by rfl) :
    PE X (.Call (.Name x p) (e :: es) [] pos) (tXL X.K G (fun ρ => C ρ ∧ pre (gs ρ)) fun ρ => F (gs ρ)) := xc o hr ha hj hg hdb he hpl
theorem xci (o : Ok X.prog X.w X.K X.mg X.base j x ps (spFI X.K G pre F)) (hr : Room k X.A) (ha : PA X (e :: es) (tXs X.K G C gs)) (hj : j ≤ k := by decide) (hg : Gl X x := by rfl) (hdb : (x == ("__debug__" : Str)) = false := by decide)
    (he : starEach (e :: es) X.env = (false, eval e X.env) :: starEach es X.env := by rfl) (hpl : (backTo pos (starEach es X.env)).any (·.1) = false := by rfl) :
    PE X (.Call (.Name x p) (e :: es) [] pos) (tXI X.K G (fun ρ => C ρ ∧ pre (gs ρ)) fun ρ => F (gs ρ)) := xc o hr ha hj hg hdb he hpl
theorem xcb (o : Ok X.prog X.w X.K X.mg X.base j x ps (spFB X.K G pre F)) (hr : Room k X.A) (ha : PA X (e :: es) (tXs X.K G C gs)) (hj : j ≤ k := by decide) (hg : Gl X x := by rfl) (hdb : (x == ("__debug__" : Str)) = false := by decide)
    (he : starEach (e :: es) X.env = (false, eval e X.env) :: starEach es X.env := by rfl) (hpl : (backTo pos (starEach es X.env)).any (·.1) = false := by rfl) :
    PE X (.Call (.Name x p) (e :: es) [] pos) (tXB X.K G (fun ρ => C ρ ∧ pre (gs ρ)) fun ρ => F (gs ρ) = true) :=
  toX (xc o hr ha hj hg hdb he hpl) fun B σ H ρ O Q R c q => ⟨B, ρ, O, R, c, fun v H' s a => q v H' s (by dsimp only; rw [Bool.decide_eq_true]; exact a)⟩
/-! kinds: the sort 0 of own objects -/
noncomputable def getZ (ρ : En) (i : Nat) : Int := match ρ[i]? with
  | some (.fr (.ob 0 z)) => z
  | _ => 0
noncomputable def isK (ρ : En) (i : Nat) : Prop := ρ[i]? = some (.fr (.ob 0 (getZ ρ i)))
theorem xn_kmeth {KA : Hp → Addr → Int → Prop} {preK : Int → List Int → Prop} {F : Int → List Int → Int} {pl : Sem Bool} (i : Nat) (M : KM X.prog X.w X.K X.mg X.base j KA m n preK F) (hr : Room k X.A) (ha : PA X (e :: es) (tXs X.K G C gs)) (hn : ∀ ρ, (gs ρ).length = n := by intro _; rfl) (hG : ∀ H a z, G.ob 0 H a z → KA H a z := by first | exact fun _ _ _ h => h.2 | exact fun _ _ _ h => h.elim (fun z => z.2) fun z => absurd z.1 (by decide)) (hGm : ∀ {H H' : Hp} {a : Addr} {z : Int}, KA H a z → Same H H' → KA H' a z := by first | exact fun h s => KAt.same h s | exact fun h s => h.same s) (hj : j ≤ k := by decide)
    (hN : X.N[i]? = some x := by rfl) (hv : Vis X.env.scope x := by first | exact Or.inl rfl | exact Or.inr (Or.inl rfl) | exact Or.inr (Or.inr rfl)) (hd : (x == ("__debug__" : Str)) = false := by decide) (hcd : (x == ("__classdict__" : Str)) = false := by decide)
    (hst : starEach (e :: es) X.env = (false, eval e X.env) :: starEach es X.env := by rfl) (hpl : (backTo pos (starEach es X.env)).any (·.1) = false := by rfl)
    (ht : eval (.Call (.Attribute (.Name x px) m apos) (e :: es) [] pos) X.env = (do
      let ov ← eval (.Name x px) X.env
      standAt apos.atName
      let (f, first) ← holding [ov] (getMethod ov m pl)
      callWith pos f first (backTo pos (starEach (e :: es) X.env)) (backToKw pos (keywordEach [] X.env))) := by rfl) :
    PE X (.Call (.Attribute (.Name x px) m apos) (e :: es) [] pos) (tXI X.K G (fun ρ => isK ρ i ∧ C ρ ∧ areI (gs ρ) ∧ preK (getZ ρ i) (allI (gs ρ))) fun ρ => F (getZ ρ i) (allI (gs ρ))) := by
  intro pins s σ H Q I h
  obtain ⟨B, ρ, O, R, ⟨c0, c1, c2, c3⟩, q⟩ := h
  obtain ⟨v, e1, a, rfl, ka⟩ := R.fr i _ c0
  have ka1 : KA H a (getZ ρ i) := hGm (hG _ _ _ ka) mn_le
  obtain ⟨Cl, dx, fs, ps, f1, f2, M'⟩ := M.ex H a _ ka1
  obtain ⟨f, fd, FF, bb, mm, cc⟩ := M'.ex
  refine pe_meth (pe_var hN hv hd hcd) cc mm (FF.mono hj) hr bb .nil pass0 ha hst hpl ht pins s σ H Q I ⟨_, e1, a, dx, fs, rfl, f1, f2, B, ρ, O, R, c1, fun vs H1 s1 a1 => ?_⟩
  have ev := a1.ints c2
  have el : (allI (gs ρ)).length = n := by rw [← hn ρ, a1.length, ev, List.length_map]
  exact ⟨allI (gs ρ), el, by rw [List.append_nil, ev], hGm ka1 s1, c3, q _ H1 s1 rfl⟩
end
end L3

/-! ### promises of the hand layer, as promises over pure values -/
namespace L3
open PySem PySem.Spec PyProof.Rows L2
theorem areI_len : ∀ {as : List PV}, areI as → (allI as).length = as.length
  | [], _ => rfl
  | p :: r, h => by
    cases p <;> first | exact h.elim | skip
    show (allI r).length + 1 = r.length + 1
    rw [areI_len (as := r) h]
section
variable {P : Program} {w : World} {K : PySem.W.Frag} {mg : Str → Option Value} {base : Heap} {G : Gx} {k n : Nat} {x : Str} {ps : List Str}
/-- the script, then numbers -/
noncomputable def scrI : List PV → List Int
  | .scr ns :: _ => ns
  | _ => []
noncomputable def preS (n : Nat) (pre : List Int → List Int → Prop) : List PV → Prop
  | .scr ns :: r => areI r ∧ r.length = n ∧ pre ns (allI r)
  | _ => False
theorem liftS (o : Ok P w K mg base k x ps (spS K n pre F)) : Ok P w K mg base k x ps (spFI K G (preS n pre) fun as => F (scrI as) (allI as.tail)) :=
  o.imp fun vs H Q E ⟨as, O, _, al, hp, q⟩ => by
    match as, hp, al, q with
    | .scr ns :: r, ⟨h1, h2, h3⟩, al, q =>
      obtain ⟨v, t, rfl, ⟨a, rfl, hs⟩, al2⟩ := al
      exact ⟨a, ns, allI r, by rw [areI_len h1, h2], by rw [al2.ints h1], mn_le.seq hs, h3, q _ H (Same.refl H) rfl⟩
end
end L3

/-! ### x[k] op= e over a list of one's own -/
namespace L3
open PySem PySem.Spec PyProof.Rows L2
section
variable {X : Cx} {G : Gx} {Er : ER} {b e : Expr} {px ps pos : Pos} {C Cb : En → Prop} {g gb : En → Int}
theorem get_list : PGet X (rIxL X.K) := by
  intro pins s σ H x y v u Q I rx ry h
  obtain ⟨p, xs, i, z, rfl, rfl, hq, he, q⟩ := h
  cases rx
  obtain ⟨t, rfl⟩ := ry
  obtain ⟨its, r, pl, hz⟩ := I.list hq
  obtain ⟨j, h1, h2, h3, h4, h5⟩ := atI_get he
  obtain ⟨w, ew, rw'⟩ := r.get h2
  have hl := r.length
  have hn := line63
  have fin : EP X pins σ Q w s := ⟨z, H, I, rw', q⟩
  by_cases h0 : 0 ≤ i
  · have hj : i.toNat = j := by
      rw [seqIndex_of h0 h5] at h1
      exact Option.some.inj h1
    exact wpAny_getItem_list pl.isList h0 (by omega) (by rw [hj]; simpa using ew) fin
  · have hj : (i + (its.toArray.size : Int)).toNat = j := by
      rw [seqIndex_neg (by omega) h4] at h1
      rw [List.size_toArray, ← hl]
      exact Option.some.inj h1
    exact wpAny_getItem_list_neg pl.isList (by omega) (by rw [List.size_toArray] <;> omega) (by omega) (by rw [hj]; simpa using ew) fin
theorem xst_augit (i : Nat) {op : Operator} {Pr : Int → Int → Prop} {h : Int → Int → Int} (hk : PE X b (tXI X.K G Cb gb)) (he : PE X e (tXI X.K G C g)) (ho : OpR X (inplaceOp op) (rI Pr fun i j => .int (h i j))) (hN : X.N[i]? = some x := by rfl) (hv : Vis X.env.scope x := by first | exact Or.inl rfl | exact Or.inr (Or.inl rfl) | exact Or.inr (Or.inr rfl))
    (hd : (x == ("__debug__" : Str)) = false := by decide) (hcd : (x == ("__classdict__" : Str)) = false := by decide)
    (ha : ∀ ov iv new, augStore b ov iv new = (do holding [new, ov, iv] (setItem ov iv new); release [new, ov, iv] []; pure .next) := by intros; rfl) :
    PS X (.AugAssign (.Subscript (.Name x px) b ps) op e pos) (ts X.K G Er fun P ρ => isO ρ i ∧ Cb ρ ∧ (-((getL ρ i).length : Int) ≤ gb ρ ∧ gb ρ < ((getL ρ i).length : Int)) ∧ C ρ ∧ Pr ((getL ρ i).getD (ixO (getL ρ i).length (gb ρ)) 0) (g ρ) ∧
      P.nx (ρ.set i (.ow (.ints ((getL ρ i).set (ixO (getL ρ i).length (gb ρ)) (h ((getL ρ i).getD (ixO (getL ρ i).length (gb ρ)) 0) (g ρ))))))) :=
  toS (ps_augS (pe_var hN hv hd hcd) hk get_list he ho set_list ha) fun B σ H ρ O P D R c w => by
    obtain ⟨c0, c1, cb, c2, cp, c3⟩ := c
    obtain ⟨a, vs, e1, e2, e3, e4, e5⟩ := R.ow i _ c0
    subst e5
    refine ⟨_, e1, B, ρ, O, R, c1, fun u H1 s1 a1 => ?_⟩
    subst a1
    refine ⟨a, _, _, _, rfl, rfl, SqL.of (s1 _ _ e4), getD_at cb.1 cb.2, B, ρ, O, R.grow s1, c2, fun v H2 s2 a2 => ?_⟩
    subst a2
    refine ⟨_, _, rfl, rfl, cp, a, _, _, _, rfl, rfl, s2 _ _ (s1 _ _ e4), by rw [List.length_map]; exact ixN_ok cb.1 cb.2, w.nx σ _ _ ⟨O, ((R.grow s1).grow s2).change c0 e1 (p' := .ints _) ?_⟩ c3⟩
    show _ = ((getL ρ i).set _ _).map V.int
    rw [List.map_set]
    rfl
end
end L3

/-! ### slices of lists of numbers; sizes of numbers -/
namespace L3
open PySem PyProof.Rows L2 FM
/-- numbers of a kind stay small -/
theorem pl_small {z a : Int} {B : Nat} (hz : 0 ≤ z) (hz2 : z < (B : Int)) (ha : a.natAbs < B) : (pl z a).natAbs < B := by
  by_cases h : z = 0
  · subst h; exact ha
  · have := pl_lt (z := z) (n := a) (by omega)
    omega
end L3

/-! ### slices with a step -/
namespace L2
open PySem PySem.Spec PyProof.Rows
section
variable {X : Cx} {e st : Expr} {te : TE} {lo hi : Option Expr} {tl th tt : TO} {pos p2 : Pos}
end
end L2
namespace L3
open PySem PySem.Spec PyProof.Rows L2
section
variable {X : Cx} {G : Gx} {a : Expr} {pos p2 : Pos} {C : En → Prop}
end
end L3

/-! ### polynomials by their numbers: sums, products -/
namespace FM
open L2
theorem getD_ge {xs : List Int} {n : Nat} (h : xs.length ≤ n) : xs.getD n 0 = 0 := by rw [List.getD_eq_getElem?_getD, List.getElem?_eq_none h]; rfl
theorem getD_lt {xs : List Int} {n : Nat} (h : n < xs.length) : xs.getD n 0 = xs[n] := by rw [List.getD_eq_getElem?_getD, List.getElem?_eq_getElem h]; rfl
theorem getD_at' {xs : List Int} {n : Nat} {x : Int} (h : xs[n]? = some x) : xs.getD n 0 = x := by rw [List.getD_eq_getElem?_getD, h]; rfl
theorem getD_mem {xs : List Int} {n : Nat} (h : n < xs.length) : xs.getD n 0 ∈ xs := by rw [getD_lt h]; exact List.getElem_mem h
theorem getD_map (f : Int → Int) (h0 : f 0 = 0) (xs : List Int) (n : Nat) : (xs.map f).getD n 0 = f (xs.getD n 0) := by
  by_cases h : n < xs.length
  · rw [getD_lt (by rw [List.length_map]; exact h), List.getElem_map, getD_lt h]
  · rw [getD_ge (by rw [List.length_map]; omega), getD_ge (by omega), h0]
theorem pl_0 (z : Int) : pl z 0 = 0 := by
  unfold pl
  split
  · rfl
  · exact Int.zero_emod z
theorem snoc_get (xs : List Int) (x : Int) (n : Nat) : (xs ++ [x]).getD n 0 = if n = xs.length then x else xs.getD n 0 := by
  by_cases h : n < xs.length
  · rw [getD_lt (by rw [List.length_append]; omega), List.getElem_append_left h, if_neg (by omega), getD_lt h]
  · by_cases h2 : n = xs.length
    · subst h2
      rw [if_pos rfl, getD_lt (by rw [List.length_append, List.length_singleton]; omega), List.getElem_append_right (Nat.le_refl _)]
      simp
    · rw [if_neg h2, getD_ge (by rw [List.length_append, List.length_singleton]; omega), getD_ge (by omega)]
theorem snoc_or (xs : List Int) : xs = [] ∨ ∃ ys x, xs = ys ++ [x] := by
  by_cases h : xs = []
  · exact .inl h
  · exact .inr ⟨_, _, (List.dropLast_concat_getLast h).symm⟩
theorem trimZ_get : ∀ (k : Nat) (xs : List Int), xs.length = k → ∀ n, (trimZ xs).getD n 0 = xs.getD n 0
  | 0, xs, h, n => by
    have : xs = [] := List.length_eq_zero_iff.mp h
    subst this
    rfl
  | k + 1, xs, h, n => by
    rcases snoc_or xs with rfl | ⟨ys, x, rfl⟩
    · rfl
    · by_cases hx : x = 0
      · subst hx
        have hl : ys.length = k := by rw [List.length_append, List.length_singleton] at h; omega
        rw [trimZ_zero, trimZ_get k ys hl n, snoc_get]
        by_cases h2 : n = ys.length
        · rw [if_pos h2, getD_ge (by omega)]
        · rw [if_neg h2]
      · rw [trimZ_ne _ hx]
theorem trim_get (xs : List Int) (n : Nat) : (trimZ xs).getD n 0 = xs.getD n 0 := trimZ_get _ xs rfl n
/-- in form: no nought at the end -/
noncomputable def InForm (xs : List Int) : Prop := xs ≠ [] → xs.getD (xs.length - 1) 0 ≠ 0
theorem trimZ_form : ∀ (k : Nat) (xs : List Int), xs.length = k → InForm (trimZ xs)
  | 0, xs, h => by
    have : xs = [] := List.length_eq_zero_iff.mp h
    subst this
    intro h; exact absurd rfl h
  | k + 1, xs, h => by
    rcases snoc_or xs with rfl | ⟨ys, x, rfl⟩
    · intro h; exact absurd rfl h
    · by_cases hx : x = 0
      · subst hx
        rw [trimZ_zero]
        exact trimZ_form k ys (by rw [List.length_append, List.length_singleton] at h; omega)
      · rw [trimZ_ne _ hx]
        intro _
        rw [snoc_get, if_pos (by rw [List.length_append, List.length_singleton]; omega)]
        exact hx
theorem trim_form (xs : List Int) : InForm (trimZ xs) := trimZ_form _ xs rfl
theorem form_ext {a b : List Int} (ha : InForm a) (hb : InForm b) (h : ∀ n, a.getD n 0 = b.getD n 0) : a = b := by
  have le : ∀ {a b : List Int}, InForm a → (∀ n, a.getD n 0 = b.getD n 0) → a.length ≤ b.length := fun {a b} ha h => by
    by_cases c : a.length ≤ b.length
    · exact c
    · have hne : a ≠ [] := fun z => by subst z; exact c (Nat.zero_le _)
      exact absurd (by rw [h, getD_ge (by omega)]) (ha hne)
  have hl : a.length = b.length := Nat.le_antisymm (le ha h) (le hb fun n => (h n).symm)
  refine List.ext_getElem hl fun i h1 h2 => ?_
  have := h i
  rw [getD_lt h1, getD_lt h2] at this
  exact this
theorem trim_ext (h : ∀ n, a.getD n 0 = b.getD n 0) : trimZ a = trimZ b :=
  form_ext (trim_form a) (trim_form b) fun n => by rw [trim_get, trim_get, h]
/-- brought to the kind, noughts cut -/
noncomputable def Tz (z : Int) (f : List Int) : List Int := trimZ (f.map (pl z))
theorem Tz_get (z : Int) (f : List Int) (n : Nat) : (Tz z f).getD n 0 = pl z (f.getD n 0) := by unfold Tz; rw [trim_get, getD_map _ (pl_0 z)]
theorem Tz_len (z : Int) (f : List Int) : (Tz z f).length ≤ f.length := by
  unfold Tz
  refine Nat.le_trans (trimZ_len _) ?_
  rw [List.length_map]
  exact Nat.le_refl _
theorem mem_getD {xs : List Int} {m : Int} (h : m ∈ xs) : ∃ n, n < xs.length ∧ xs.getD n 0 = m := by
  obtain ⟨n, h1, h2⟩ := List.getElem_of_mem h
  exact ⟨n, h1, by rw [getD_lt h1, h2]⟩
theorem Tz_mem {z : Int} {f : List Int} {m : Int} (h : m ∈ Tz z f) : ∃ k ∈ f, m = pl z k := by
  obtain ⟨n, h1, h2⟩ := mem_getD h
  rw [Tz_get] at h2
  exact ⟨f.getD n 0, getD_mem (Nat.lt_of_lt_of_le h1 (Tz_len z f)), h2.symm⟩
/-! sums -/
noncomputable def sm : Nat → (Nat → Int) → Int
  | 0, _ => 0
  | n + 1, f => sm n f + f n
theorem sm_congr : ∀ {n : Nat}, (∀ i, i < n → f i = g i) → sm n f = sm n g
  | 0, _ => rfl
  | n + 1, h => by
    show sm n f + f n = sm n g + g n
    rw [sm_congr fun i hi => h i (by omega), h n (by omega)]
theorem sm_zero : ∀ {n : Nat}, (∀ i, i < n → f i = 0) → sm n f = 0
  | 0, _ => rfl
  | n + 1, h => by
    show sm n f + f n = 0
    rw [sm_zero fun i hi => h i (by omega), h n (by omega)]
    rfl
theorem sm_more : ∀ {m : Nat}, n ≤ m → (∀ i, n ≤ i → i < m → f i = 0) → sm m f = sm n f
  | 0, h, _ => by
    have : n = 0 := by omega
    subst this; rfl
  | m + 1, h, z => by
    by_cases c : n = m + 1
    · subst c; rfl
    · show sm m f + f m = sm n f
      rw [z m (by omega) (by omega), Int.add_zero]
      exact sm_more (by omega) fun i h1 h2 => z i h1 (by omega)
theorem sm_head (f : Nat → Int) : ∀ n, sm (n + 1) f = f 0 + sm n fun i => f (i + 1)
  | 0 => by show 0 + f 0 = f 0 + 0; omega
  | n + 1 => by
    show sm (n + 1) f + f (n + 1) = f 0 + (sm n (fun i => f (i + 1)) + f (n + 1))
    rw [sm_head f n]
    omega
theorem sm_rev (f : Nat → Int) : ∀ n, sm (n + 1) f = sm (n + 1) fun i => f (n - i)
  | 0 => rfl
  | n + 1 => by
    rw [sm_head (fun i => f (n + 1 - i)) (n + 1)]
    show sm (n + 1) f + f (n + 1) = f (n + 1 - 0) + sm (n + 1) fun i => f (n + 1 - (i + 1))
    rw [sm_rev f n, Nat.sub_zero]
    have : sm (n + 1) (fun i => f (n - i)) = sm (n + 1) fun i => f (n + 1 - (i + 1)) := sm_congr fun i _ => by rw [Nat.add_sub_add_right]
    omega
/-! products -/
/-- the number at x^n of the product -/
noncomputable def cm (f g : List Int) (n : Nat) : Int := sm (n + 1) fun i => f.getD i 0 * g.getD (n - i) 0
theorem cm_comm (f g : List Int) (n : Nat) : cm f g n = cm g f n := by
  unfold cm
  rw [sm_rev]
  refine sm_congr fun i hi => ?_
  rw [Int.mul_comm, show n - (n - i) = i by omega]
/-- the sum over the first numbers of f alone -/
noncomputable def cpart (f g : List Int) (n i : Nat) : Int := sm i fun j => if j ≤ n then f.getD j 0 * g.getD (n - j) 0 else 0
theorem cpart_all (f g : List Int) (n : Nat) {i : Nat} (h : f.length ≤ i) : cpart f g n i = cm f g n := by
  have e : cm f g n = cpart f g n (n + 1) := sm_congr fun j hj => by rw [if_pos (by omega)]
  rw [e]
  unfold cpart
  rcases Nat.le_total i (n + 1) with c | c
  · refine (sm_more c fun j h1 h2 => ?_).symm
    rw [getD_ge (show f.length ≤ j by omega), Int.zero_mul]
    split <;> rfl
  · refine sm_more c fun j h1 h2 => ?_
    rw [if_neg (by omega)]
theorem cm_ge {n : Nat} (h : f.length + g.length ≤ n + 1) : cm f g n = 0 := by
  unfold cm
  refine sm_zero fun i hi => ?_
  by_cases c : i < f.length
  · rw [getD_ge (show g.length ≤ n - i by omega), Int.mul_zero]
  · rw [getD_ge (show f.length ≤ i by omega), Int.zero_mul]
/-- the product as a list -/
noncomputable def convL (f g : List Int) : List Int := (List.range (f.length + g.length)).map (cm f g)
theorem convL_get (f g : List Int) (n : Nat) : (convL f g).getD n 0 = cm f g n := by
  unfold convL
  by_cases h : n < f.length + g.length
  · rw [getD_lt (by rw [List.length_map, List.length_range]; exact h), List.getElem_map, List.getElem_range]
  · rw [getD_ge (by rw [List.length_map, List.length_range]; omega), cm_ge (by omega)]
/-- a list by its numbers -/
theorem list_ext {a b : List Int} (hl : a.length = b.length) (h : ∀ n, a.getD n 0 = b.getD n 0) : a = b := by
  refine List.ext_getElem hl fun i h1 h2 => ?_
  have := h i
  rw [getD_lt h1, getD_lt h2] at this
  exact this
/-- a row while the product is reckoned: i rows done, k places of the next -/
noncomputable def RowAt (f g : List Int) (i k : Nat) (row : List Int) : Prop := row.length = f.length + g.length ∧ ∀ n, row.getD n 0 = cpart f g n i + if i ≤ n ∧ n - i < k then f.getD i 0 * g.getD (n - i) 0 else 0
theorem row_start (f g : List Int) : RowAt f g 0 0 (List.replicate (f.length + g.length) 0) := by
  refine ⟨List.length_replicate, fun n => ?_⟩
  rw [if_neg (by omega)]
  by_cases h : n < f.length + g.length
  · rw [getD_lt (by rw [List.length_replicate]; exact h), List.getElem_replicate]; rfl
  · rw [getD_ge (by rw [List.length_replicate]; omega)]; rfl
theorem set_get (row : List Int) (j : Nat) (x : Int) (n : Nat) (h : j < row.length) : (row.set j x).getD n 0 = if n = j then x else row.getD n 0 := by
  by_cases c : n = j
  · subst c
    rw [if_pos rfl, getD_lt (by rw [List.length_set]; exact h), List.getElem_set_self]
  · rw [if_neg c, List.getD_eq_getElem?_getD, List.getElem?_set_ne (by omega), ← List.getD_eq_getElem?_getD]
theorem row_step (h : RowAt f g i k row) (hi : i < f.length) (hk : k < g.length) : RowAt f g i (k + 1) (row.set (i + k) (row.getD (i + k) 0 + f.getD i 0 * g.getD k 0)) := by
  obtain ⟨hl, hr⟩ := h
  refine ⟨by rw [List.length_set]; exact hl, fun n => ?_⟩
  rw [set_get _ _ _ _ (by omega)]
  by_cases c : n = i + k
  · subst c
    rw [if_pos rfl, hr, if_neg (by omega), if_pos (by omega), show i + k - i = k by omega]
    omega
  · rw [if_neg c, hr]
    by_cases d : i ≤ n ∧ n - i < k
    · rw [if_pos d, if_pos (by omega)]
    · rw [if_neg d, if_neg (by omega)]
theorem row_next {i : Nat} (h : RowAt f g i g.length row) : RowAt f g (i + 1) 0 row := by
  obtain ⟨hl, hr⟩ := h
  refine ⟨hl, fun n => ?_⟩
  rw [hr, if_neg (show ¬ (i + 1 ≤ n ∧ n - (i + 1) < 0) by omega)]
  show _ = cpart f g n i + (if i ≤ n then f.getD i 0 * g.getD (n - i) 0 else 0) + 0
  by_cases c : i ≤ n
  · rw [if_pos c]
    by_cases d : n - i < g.length
    · rw [if_pos ⟨c, d⟩]; omega
    · rw [if_neg (by omega), getD_ge (show g.length ≤ n - i by omega), Int.mul_zero]; omega
  · rw [if_neg (by omega), if_neg c]; omega
theorem row_end {f g row : List Int} (h : RowAt f g f.length 0 row) : row = convL f g := by
  obtain ⟨hl, hr⟩ := h
  refine list_ext (by rw [hl]; unfold convL; rw [List.length_map, List.length_range]) fun n => ?_
  rw [hr, if_neg (by omega), convL_get, cpart_all f g n (Nat.le_refl _)]
  omega
end FM

/-! ### arguments that are only read; lists of lists of one's own -/
namespace L3
open PySem PySem.Spec PyProof.Rows L2
theorem mn_no (H : Hp) : mn H (fun _ => false) = H := by funext b; exact mn_of rfl
noncomputable def getT (ρ : En) (i : Nat) : List (List Int) := match ρ[i]? with
  | some (.o2 xss) => xss
  | _ => []
noncomputable def isT (ρ : En) (i : Nat) : Prop := ρ[i]? = some (.o2 (getT ρ i))
section
variable {X : Cx} {G : Gx} {Er : ER} {a b c e : Expr} {es : List Expr} {pos p px ps pa pc : Pos} {C Ca Cb : En → Prop} {g : En → PV} {gs : En → List PV} {gi : En → Int} {i j k : Nat} {x : Str} {pl : List Str} {pre : List PV → Prop}
end
section
variable {K : PySem.W.Frag} {G : Gx} {B : Bs} {σ : L2.St} {H H1 : Hp} {ρ : En} {O : Addr → Bool} {i k : Nat} {xss : List (List Int)} {zs : List Int} {D a : Addr} {as : List Addr}
theorem O2At.Dn (q : O2At B σ H ρ O i xss D as) : D ∉ as := fun m => by
  obtain ⟨k, e⟩ := List.mem_iff_getElem?.mp m
  have h := q.ea.2 k D e
  rw [q.hD] at h
  injection h with h
  injection h with h
  have h0 := congrArg (fun l => l[k]?) h
  simp only [List.getElem?_map, e, Option.map_some] at h0
  cases hx : (xss.getD k [])[k]? with
  | none => rw [hx] at h0; cases h0
  | some n => rw [hx] at h0; cases h0
/-- one of them changes -/
theorem Rep.changeT (R : Rep K G B σ H ρ O) (e : ρ[i]? = some (.o2 xss)) (q : O2At B σ H ρ O i xss D as) (ek : as[k]? = some a) : Rep K G B σ (upd H a (.lst (zs.map V.int))) (ρ.set i (.o2 (xss.set k zs))) O := by
  have hl : i < ρ.length := (List.getElem?_eq_some_iff.mp e).1
  have ma : a ∈ as := List.mem_of_getElem? ek
  have nDa : D ≠ a := fun z => q.Dn (by rw [z]; exact ma)
  have oa := q.el a ma
  have kl : k < xss.length := by rw [← q.ea.1]; exact (List.getElem?_eq_some_iff.mp ek).1
  have back : ∀ (m : Nat) r, (ρ.set i (.o2 (xss.set k zs)))[m]? = some (.ow r) → ρ[m]? = some (.ow r) := fun m r z => by
    rcases set_at z with ⟨_, z, _⟩ | ⟨_, z⟩
    · cases z
    · exact z
  refine ⟨fun d o z => ?_, R.cd, R.hid, fun d z y => ?_, R.vis, fun j r ej => ?_, fun j r ej => ?_, fun j k r t d j1 j2 j3 j4 => R.inj j k r t d (back j r j1) (back k t j2) j3 j4, by rw [List.length_set]; exact R.len, fun j xss' ej => ?_⟩
  · rw [upd_ne (ne_of_none z oa.2)]; exact R.same d o z
  · by_cases w : d = a
    · subst w; rw [upd_same] at y; cases y
    · rw [upd_ne w] at y; exact R.dom d z y
  · rw [mn_upd oa.1]
    rcases set_at ej with ⟨_, e', _⟩ | ⟨_, e'⟩
    · cases e'
    · exact R.fr j r e'
  · rw [mn_upd oa.1]
    obtain ⟨d, ws, f1, f2, f3, f4, f5⟩ := R.ow j r (back j r ej)
    obtain ⟨u1, u2⟩ := q.un j r d (back j r ej) f1
    refine ⟨d, ws, f1, f2, f3, ?_, f5⟩
    rw [upd_ne (fun z => u2 (by rw [z]; exact ma))]
    exact f4
  · have ji : j = i := by
      rcases set_at ej with ⟨rfl, _, _⟩ | ⟨_, e'⟩
      · rfl
      · exact q.one j xss' e'
    subst ji
    rw [set_eq hl] at ej
    cases ej
    refine ⟨D, as, q.at_, q.oD, q.nD, by rw [upd_ne nDa]; exact q.hD, q.el, ⟨by rw [List.length_set]; exact q.ea.1, fun m b eb => ?_⟩, q.nd, fun m r d e1 e2 => q.un m r d (back m r e1) e2, fun m xss'' e1 => ?_⟩
    · by_cases mk : m = k
      · subst mk
        rw [ek] at eb
        cases eb
        rw [upd_same, List.getD_eq_getElem?_getD, List.getElem?_set_self kl]
        rfl
      · have nb : b ≠ a := fun z => by
          subst z
          obtain ⟨h1, e1⟩ := List.getElem?_eq_some_iff.mp ek
          obtain ⟨h2, e2⟩ := List.getElem?_eq_some_iff.mp eb
          exact mk ((List.getElem_inj q.nd).mp (e2.trans e1.symm))
        rw [upd_ne nb, q.ea.2 m b eb, List.getD_eq_getElem?_getD, List.getD_eq_getElem?_getD, List.getElem?_set_ne (Ne.symm mk)]
    · rcases set_at e1 with ⟨rfl, _, _⟩ | ⟨_, e'⟩
      · rfl
      · exact q.one m xss'' e'
/-- a new one comes behind them -/
theorem Rep.appT (R : Rep K G B σ H ρ O) (e : ρ[i]? = some (.o2 xss)) (q : O2At B σ H ρ O i xss D as) (s : Same H H1) (na : H a = none) (ea : H1 a = some (.lst [])) : Rep K G B σ (upd H1 D (.lst ((as ++ [a]).map V.ref))) (ρ.set i (.o2 (xss ++ [[]]))) (hide a O) := by
  have hl : i < ρ.length := (List.getElem?_eq_some_iff.mp e).1
  have naD : a ≠ D := Ne.symm (ne_of_none q.hD na)
  have nas : a ∉ as := fun z => q.ea.has z na
  have oD' : hide a O D = true := hide_le _ q.oD
  have R1 := R.grow s
  have back : ∀ (m : Nat) r, (ρ.set i (.o2 (xss ++ [[]])))[m]? = some (.ow r) → ρ[m]? = some (.ow r) := fun m r z => by
    rcases set_at z with ⟨_, z, _⟩ | ⟨_, z⟩
    · cases z
    · exact z
  refine ⟨fun d o z => ?_, R.cd, fun d z => hide_le d (R.hid d z), fun d z y => ?_, fun d z => ?_, fun j r ej => ?_, fun j r ej => ?_, fun j k r t d j1 j2 j3 j4 => R.inj j k r t d (back j r j1) (back k t j2) j3 j4, by rw [List.length_set]; exact R.len, fun j xss' ej => ?_⟩
  · rw [upd_ne (ne_of_none z q.nD)]; exact (R.same.trans s) d o z
  · by_cases w : d = D
    · subst w; rw [upd_same] at y; cases y
    · rw [upd_ne w] at y
      by_cases w2 : d = a
      · subst w2; rw [ea] at y; cases y
      · rw [hide_ne w2] at z; exact R1.dom d z y
  · by_cases w : d = a
    · subst w; exact .inr (R.same.free na)
    · rw [hide_ne w] at z; exact R.vis d z
  · rw [mn_upd oD']
    rcases set_at ej with ⟨_, e', _⟩ | ⟨_, e'⟩
    · cases e'
    · obtain ⟨v, f1, f2⟩ := R.fr j r e'
      exact ⟨v, f1, At.mono (mn_hide s na) _ _ f2⟩
  · rw [mn_upd oD']
    obtain ⟨d, ws, f1, f2, f3, f4, f5⟩ := R.ow j r (back j r ej)
    obtain ⟨u1, u2⟩ := q.un j r d (back j r ej) f1
    exact ⟨d, ws, f1, hide_le d f2, f3, by rw [upd_ne u1]; exact s _ _ f4, f5.mono (mn_hide s na)⟩
  · have ji : j = i := by
      rcases set_at ej with ⟨rfl, _, _⟩ | ⟨_, e'⟩
      · rfl
      · exact q.one j xss' e'
    subst ji
    rw [set_eq hl] at ej
    cases ej
    refine ⟨D, as ++ [a], q.at_, oD', q.nD, upd_same, fun b hb => ?_, ⟨by rw [List.length_append, List.length_append, q.ea.1]; rfl, fun m b eb => ?_⟩, ?_, fun m r d e1 e2 => ?_, fun m xss'' e1 => ?_⟩
    · rcases List.mem_append.mp hb with hb | hb
      · exact ⟨hide_le _ (q.el b hb).1, (q.el b hb).2⟩
      · rw [List.mem_singleton.mp hb]; exact ⟨hide_self, R.same.free na⟩
    · by_cases ml : m < as.length
      · rw [List.getElem?_append_left ml] at eb
        have mb := List.mem_of_getElem? eb
        rw [upd_ne (fun z => q.Dn (by rw [← z]; exact mb)), s _ _ (q.ea.2 m b eb), List.getD_eq_getElem?_getD, List.getD_eq_getElem?_getD, List.getElem?_append_left (by rw [← q.ea.1]; exact ml)]
      · rw [List.getElem?_append_right (by omega)] at eb
        have m0 : m - as.length = 0 := by
          have := (List.getElem?_eq_some_iff.mp eb).1
          rw [List.length_singleton] at this
          omega
        rw [m0] at eb
        cases eb
        rw [upd_ne naD, ea, List.getD_eq_getElem?_getD, List.getElem?_append_right (by rw [← q.ea.1]; omega), ← q.ea.1, m0]
        rfl
    · exact List.nodup_append.mpr ⟨q.nd, by simp, fun x hx y hy z => nas (by rw [List.mem_singleton.mp hy] at z; rw [← z]; exact hx)⟩
    · obtain ⟨u1, u2⟩ := q.un m r d (back m r e1) e2
      refine ⟨u1, fun z => ?_⟩
      rcases List.mem_append.mp z with z | z
      · exact u2 z
      · obtain ⟨d', ws, f1, _, _, f4, _⟩ := R.ow m r (back m r e1)
        rw [e2] at f1
        cases f1
        rw [List.mem_singleton.mp z, na] at f4
        cases f4
    · rcases set_at e1 with ⟨rfl, _, _⟩ | ⟨_, e'⟩
      · rfl
      · exact q.one m xss'' e'
noncomputable def no2 (ρ : En) : Bool := ρ.all fun s => match s with
  | .o2 _ => false
  | _ => true
theorem no2_at (h : no2 ρ = true) {j : Nat} (e : ρ[j]? = some (.o2 xss)) : False := by
  have := List.all_eq_true.mp h _ (List.mem_of_getElem? e)
  cases this
noncomputable def hideL (as : List Addr) (O : Addr → Bool) : Addr → Bool := fun b => if b ∈ as then true else O b
theorem hideL_in {b : Addr} (h : b ∈ as) : hideL as O b = true := by unfold hideL; rw [if_pos h]
theorem hideL_out {b : Addr} (h : b ∉ as) : hideL as O b = O b := by unfold hideL; rw [if_neg h]
theorem hideL_le (b : Addr) (h : O b = true) : hideL as O b = true := by
  unfold hideL
  split
  · rfl
  · exact h
/-- new lists in a new list, all one's own -/
theorem Rep.newT (R : Rep K G B σ H ρ O) (h2 : no2 ρ = true) (s : Same H H1) (nas : ∀ a ∈ as, H a = none) (nd : as.Nodup) (ea : EachAt H1 as xss) (nD : H D = none) (hD : H1 D = some (.lst (as.map V.ref))) : Rep K G B (σ.set i (some (.ref D))) H1 (ρ.set i (.o2 xss)) (hideL (D :: as) O) := by
  have na : ∀ b, b ∈ D :: as → H b = none := fun b hb => (List.mem_cons.mp hb).elim (fun z => by rw [z]; exact nD) (nas b)
  have h1 : ∀ b, b ∈ D :: as → H1 b ≠ none := fun b hb => (List.mem_cons.mp hb).elim (fun z => by rw [z, hD]; exact fun y => by cases y) fun z => ea.has z
  have up : Same (mn H O) (mn H1 (hideL (D :: as) O)) := fun c o z => by
    obtain ⟨c1, c2⟩ := mn_get z
    have : c ∉ D :: as := fun y => by rw [na c y] at c2; cases c2
    rw [mn_of (by rw [hideL_out this]; exact c1)]
    exact s c o c2
  have back : ∀ (m : Nat) r, (ρ.set i (.o2 xss))[m]? = some (.ow r) → i ≠ m ∧ ρ[m]? = some (.ow r) := fun m r z => by
    rcases set_at z with ⟨_, z, _⟩ | ⟨n, z⟩
    · cases z
    · exact ⟨n, z⟩
  refine ⟨R.same.trans s, R.cd, fun c z => hideL_le c (R.hid c z), fun c z y => ?_, fun c z => ?_, fun j r e => ?_, fun j r e => ?_, fun j k r t c e1 e2 e3 e4 => ?_, by rw [List.length_set, List.length_set]; exact R.len, fun j xss' e => ?_⟩
  · by_cases m : c ∈ D :: as
    · exact h1 c m y
    · rw [hideL_out m] at z; exact R.dom c z (s.free y)
  · by_cases m : c ∈ D :: as
    · exact .inr (R.same.free (na c m))
    · rw [hideL_out m] at z; exact R.vis c z
  · rcases set_at e with ⟨_, e', _⟩ | ⟨n, e'⟩
    · cases e'
    · obtain ⟨v, f1, f2⟩ := R.fr j r e'
      exact ⟨v, by rw [set_ne n]; exact f1, At.mono up _ _ f2⟩
  · obtain ⟨n, e'⟩ := back j r e
    obtain ⟨c, ws, f1, f2, f3, f4, f5⟩ := R.ow j r e'
    exact ⟨c, ws, by rw [set_ne n]; exact f1, hideL_le c f2, f3, s _ _ f4, f5.mono up⟩
  · obtain ⟨n1, y1⟩ := back j r e1
    obtain ⟨n2, y2⟩ := back k t e2
    rw [set_ne n1] at e3
    rw [set_ne n2] at e4
    exact R.inj j k r t c y1 y2 e3 e4
  · rcases set_at e with ⟨rfl, e', l⟩ | ⟨n, e'⟩
    · cases e'
      refine ⟨D, as, set_eq (by rw [R.len]; exact l), hideL_in List.mem_cons_self, R.same.free nD, hD, fun b hb => ⟨hideL_in (List.mem_cons_of_mem _ hb), R.same.free (nas b hb)⟩, ea, nd, fun j r c e1 e2 => ?_, fun j xss' e1 => ?_⟩
      · obtain ⟨n, y⟩ := back j r e1
        rw [set_ne n] at e2
        obtain ⟨c', ws, f1, f2, f3, f4, f5⟩ := R.ow j r y
        rw [e2] at f1
        cases f1
        exact ⟨ne_of_none f4 nD, fun z => by rw [nas c z] at f4; cases f4⟩
      · rcases set_at e1 with ⟨rfl, _, _⟩ | ⟨_, e'⟩
        · rfl
        · exact (no2_at h2 e').elim
    · exact (no2_at h2 e').elim
end
end L3

/-! ### lists compared, sums, kinds made, comprehensions with a test, zip, a tuple taken apart -/
namespace L2
open PySem PySem.Spec PyProof.Rows
section
variable {X : Cx}
end
end L2
namespace L3
open PySem PySem.Spec PyProof.Rows L2
section
variable {X : Cx} {G : Gx} {Er : ER} {a b e : Expr} {pos p px apos : Pos} {C Ca Cb : En → Prop} {gl hl : En → List Int} {i j k : Nat} {x : Str}
/-! values that are new: told by a def whose caller goes on changing what it handed in -/
/-- the same, with what is known named -/
noncomputable def tXnB (K : PySem.W.Frag) (G : Gx) (C : En → Prop) (g : En → PV) (B : Bs) (ρ : En) : TE := fun σ H Q => ∃ O, Rep K G B σ H ρ O ∧ C ρ ∧ ∀ v H', Same H H' → At K G (mn H' fun a => (B.H0 a).isSome) (g ρ) v → Q v H'
noncomputable abbrev PN (X : Cx) (G : Gx) (e : Expr) (C : En → Prop) (g : En → PV) : Prop := ∀ B ρ, PE X e (tXnB X.K G C g B ρ)
/-- an item of a list or tuple of values, known to be a number, a list of numbers -/
noncomputable def pvI : PV → Int
  | .int n => n
  | _ => 0
noncomputable def pvL : PV → List Int
  | .ints ns => ns
  | _ => []
theorem xn_of (h : PE X e (tX X.K G C g)) : PE X e (tXI X.K G (fun ρ => C ρ ∧ g ρ = .int (pvI (g ρ))) fun ρ => pvI (g ρ)) :=
  toX h fun B σ H ρ O Q R c q => ⟨B, ρ, O, R, c.1, fun v H' s a => q v H' s (by rw [← c.2]; exact a)⟩
theorem xl_of (h : PE X e (tX X.K G C g)) : PE X e (tXL X.K G (fun ρ => C ρ ∧ g ρ = .ints (pvL (g ρ))) fun ρ => pvL (g ρ)) :=
  toX h fun B σ H ρ O Q R c q => ⟨B, ρ, O, R, c.1, fun v H' s a => q v H' s (by rw [← c.2]; exact a)⟩
noncomputable def pvP : PV → List PV
  | .lst xs => xs
  | _ => []
theorem xp_of (h : PE X e (tX X.K G C g)) : PE X e (tX X.K G (fun ρ => C ρ ∧ g ρ = .lst (pvP (g ρ))) fun ρ => .lst (pvP (g ρ))) :=
  toX h fun B σ H ρ O Q R c q => ⟨B, ρ, O, R, c.1, fun v H' s a => q v H' s (by rw [← c.2]; exact a)⟩
theorem atL_of_ints {K : PySem.W.Frag} {H : Hp} : ∀ ns : List Int, AtL K G H (ns.map PV.int) (ns.map V.int)
  | [] => rfl
  | n :: r => ⟨_, _, rfl, rfl, atL_of_ints r⟩
end
section
variable {P : Program} {w : World} {K : PySem.W.Frag} {mg : Str → Option Value} {base : Heap} {G : Gx}
end
/-! kinds that are made where they are used -/
noncomputable def spNewW (C : Addr) : Sp := fun vs H Q _ => ∃ x dx : Addr, vs = [.ref x] ∧ H x = some (.ins C dx []) ∧ Q .non (upd H x (.ins C dx [("size", .int 0)]))
theorem mk_seen {H : Hp} {O : Addr → Bool} {x : Addr} (hd : ∀ a, O a = true → H a ≠ none) (hx : H x = none) {H' : Hp} : mn H' O x = H' x := mn_of (by
  cases z : O x with
  | false => rfl
  | true => exact absurd hx (hd x z))
theorem mk_grow (hx : H x = none) (hd : H dx = none) : Same H (upd (upd (upd H dx (.own x)) x (.ins C dx [])) x (.ins C dx fs)) := same_mk fun b o e => by
  rw [upd_ne (ne_of_none e hx), upd_ne (ne_of_none e hx), upd_ne (ne_of_none e hd)]
  exact e
/-- Wholes alone -/
noncomputable def KW (cW : Addr) (H : Hp) (a : Addr) (z : Int) : Prop := z = 0 ∧ ∃ dx fs, H a = some (.ins cW dx fs) ∧ fs.lookup ("size" : Str) = some (.int 0) ∧ ∀ m ∈ kMeths, fs.lookup m = none
theorem KW.same (k : KW cW H a z) (s : Same H H') : KW cW H' a z := by
  obtain ⟨e0, dx, fs, e, r⟩ := k
  exact ⟨e0, dx, fs, s _ _ e, r⟩
noncomputable def GkW (cW : Addr) : Gx := ⟨fun k H a z => k = 0 ∧ KW cW H a z, fun _ _ _ _ _ s h => ⟨h.1, h.2.same s⟩⟩
theorem gkW (H : Hp) (a dx : Addr) (h : H a = some (.ins cW dx [("size", .int 0)])) : (GkW cW).ob 0 H a 0 := by
  have hm : ∀ m ∈ kMeths, List.lookup m [("size", V.int 0)] = none := by decide +kernel
  exact ⟨rfl, rfl, dx, _, h, rfl, hm⟩
section
variable {X : Cx} {G : Gx} {pos p : Pos} {j k : Nat} {x : Str} {C : Addr}
theorem xk_W (o : OkI X.prog X.w X.K X.mg X.base CX0 j x C ["self"] (spNewW C)) (hr : Room k X.A) (hG : ∀ (H : Hp) (a dx : Addr), H a = some (.ins C dx [("size", .int 0)]) → G.ob 0 H a 0) (hj : j + 1 ≤ k := by decide) (hg : Gl X x := by rfl) (hdb : (x == ("__debug__" : Str)) = false := by decide) :
    PE X (.Call (.Name x p) [] [] pos) (tX X.K G (fun _ => True) fun _ => .ob 0 0) :=
  toX (pe_makeO0 o hr pass0 hj hg hdb) fun B σ H ρ O Q R _ q => fun y dx hy hd hne => by
    refine ⟨y, dx, rfl, upd_same, rfl, q (.ref y) _ (mk_grow hy hd) ⟨y, rfl, hG _ _ dx ?_⟩⟩
    rw [mk_seen R.dom hy]
    exact upd_same
end
/-! comprehensions with a test -/
section
variable {K : PySem.W.Frag} {G : Gx} {B : Bs} {σ : L2.St} {H H1 : Hp} {ρ : En} {O : Addr → Bool} {D : Addr} {cap : List (Option Nat)}
variable {α : Type} {J : It} {g : TG} {C Ct : En → Prop} {pt : En → Prop} [∀ ρ, Decidable (pt ρ)] {gb : En → PV} {Q : VK}
theorem lc_mainT (items : List α) (setσ : α → V → L2.St) (setr : α → En) (val : α → V) (R : Rep K G B σ H1 ρ O) (hD : H1 D = none) (hlen : items.length ≤ 10000) (hgo : ∀ i H, i < items.length → Same H1 H → J.go i H)
    (hyld : ∀ i it x H H', items[i]? = some it → Same H1 H → J.yld i H x H' → Same H H' ∧ ∀ k : L2.St → Hp → Prop, k (setσ it (val it)) H' → g x (capS cap σ) H' k) (hstop : ∀ H, Same H1 H → J.stop items.length H)
    (hset : ∀ it H, it ∈ items → Same H1 H → Rep K G ⟨H1, O⟩ (capS cap σ) H (capR cap ρ) (hide D O) → Rep K G ⟨H1, O⟩ (setσ it (val it)) H (setr it) (hide D O)) (hext : ∀ it, ExtS (capS cap σ) (setσ it (val it))) (hCt : ∀ it ∈ items, Ct (setr it)) (hC : ∀ it ∈ items, pt (setr it) → C (setr it))
    (hQ : ∀ H' ys, Same H1 H' → H' D = some (.lst ys) → AtL K G (mn H' (hide D O)) ((items.filter fun it => decide (pt (setr it))).map fun it => gb (setr it)) ys → Q (.ref D) H') :
    ∃ W : Nat → Nat → List V → Hp → Prop, (∃ m, W 0 m [] (upd H1 D (.lst []))) ∧ lcW D J (capS cap σ) g (tXT K G Ct pt) (tX K G C gb) Q W := by
  refine ⟨fun i m ys H => m = items.length - i ∧ i ≤ items.length ∧ Same H1 H ∧ H D = some (.lst ys) ∧ AtL K G (mn H (hide D O)) (((items.take i).filter fun it => decide (pt (setr it))).map fun it => gb (setr it)) ys, ⟨items.length, by simp, Nat.zero_le _, same_new hD _, upd_same, rfl⟩, ?_⟩
  rintro i m ys H ⟨rfl, hi, hs, hd, al⟩
  have hl : ys.length ≤ i := by
    rw [← al.length, List.length_map]
    refine Nat.le_trans (List.length_filter_le _ _) ?_
    rw [List.length_take]; omega
  refine ⟨hd, Nat.lt_of_le_of_lt (show ys.length ≤ 10000 by omega) (by decide), ?_⟩
  by_cases hlt : i < items.length
  · refine .inr ⟨hgo i H hlt hs, ?_⟩
    intro x H' hy
    have en : items[i]? = some items[i] := List.getElem?_eq_getElem hlt
    obtain ⟨s1, kk⟩ := hyld i _ x H H' en hs hy
    refine kk _ ⟨hext _, ?_⟩
    have hd' := s1 _ _ hd
    have R2 := hset items[i] H' (List.getElem_mem hlt) (hs.trans s1) (rep_block R hD (hs.trans s1) (by rw [hd']; exact fun z => by cases z))
    refine ⟨_, _, _, R2, hCt _ (List.getElem_mem hlt), fun H3 s3 => ?_⟩
    by_cases d : pt (setr items[i])
    · rw [decide_eq_true d]
      refine iteT ?_
      refine ⟨_, _, _, R2.grow s3, hC _ (List.getElem_mem hlt) d, fun v H2 s2 a2 => ⟨s2 _ _ (s3 _ _ hd'), items.length - (i + 1), by omega, rfl, hlt, ?_, upd_same, ?_⟩⟩
      · intro b o z
        rw [upd_ne (ne_of_none z hD)]
        exact (((hs.trans s1).trans s3).trans s2) b o z
      · rw [mn_upd hide_self, take_at en, List.filter_append, List.filter_cons_of_pos (by exact decide_eq_true d), List.map_append]
        exact AtL.snoc (AtL.mono (mn_same ((s1.trans s3).trans s2)) _ _ al) a2
    · rw [decide_eq_false d]
      refine iteF ?_
      refine ⟨items.length - (i + 1), by omega, rfl, hlt, hs.trans (s1.trans s3), s3 _ _ hd', ?_⟩
      rw [take_at en, List.filter_append, List.filter_cons_of_neg (by simpa using d), List.filter_nil, List.append_nil]
      exact AtL.mono (mn_same (s1.trans s3)) _ _ al
  · have e : i = items.length := by omega
    subst e
    refine .inl ⟨hstop H hs, hQ H ys hs hd ?_⟩
    rw [List.take_length] at al
    exact al
end
section
variable {K : PySem.W.Frag} {G : Gx} {σ : L2.St} {H : Hp} {Q : VK} {Cs Ct Cb : En → Prop} {pt : En → Prop} [∀ ρ, Decidable (pt ρ)] {gs hs : En → List Int} {gi : En → Int} {gp : En → PV} {cap : List (Option Nat)}
end
section
variable {X : Cx} {G : Gx} {Er : ER} {N' : List Str} {sc : Scope} {cl : List (Str × Addr)} {cap : List (Option Nat)} {el tg src tst l l2 : Expr} {at' spos px p pos' : Pos} {Cs Cs' Ct Cb : En → Prop} {pt : En → Prop} [∀ ρ, Decidable (pt ρ)] {gs hs : En → List Int} {gi : En → Int} {gp : En → PV} {i : Nat} {x : Str}
end
end L3
/-! the law's promise, with the size of the script's numbers -/
namespace L2
open PySem PySem.Spec PyProof.Rows PySem.W PySem.Calls
theorem wl_all : ∀ (ns : List Int), ∀ n ∈ ns, WData.weight (.int n) ≤ WData.weightAll (ns.map WData.int)
  | [], n, h => by cases h
  | m :: r, n, h => by
    rw [List.map_cons]
    simp only [WData.weightAll]
    rcases List.mem_cons.mp h with rfl | h
    · omega
    · have := wl_all r n h
      omega
theorem wl_bits {ns : List Int} (h : WData.layableAll [WData.list (ns.map WData.int)] = true) {n : Int} (hn : n ∈ ns) : Builtin.Int.intBits n ≤ 2 ^ 20 := by
  have h1 : WData.layable (WData.list (ns.map WData.int)) = true := List.all_eq_true.mp h _ List.mem_cons_self
  unfold WData.layable at h1
  rw [Bool.and_eq_true] at h1
  have h2 := of_decide_eq_true h1.2
  have h3 := wl_all ns n hn
  simp only [WData.weight] at h2 h3
  exact Nat.le_trans h3 h2
theorem walk_of2 {l : PySem.W.OpenLaw} {n k : Nat} {XP : (Str → Option Value) → Heap → Prop} {YP : World → Heap → Prop} {d : DefRec} {K : Params → PySem.W.Frag} {CX : World → CXT} {sp : World → Sp}
    (hn : l.most = some n) (hn2 : n ≤ sizeLine) (hdf : d.params.defaults = []) (hr : Room k callerA) (hY : ∀ (w : World) (h : Heap), YP w h → (K w.params).In h)
    (F : ∀ (w : World) (mg : Str → Option Value) (fa : Addr) (h : Heap), (K w.params).In h → h.Ns mainGlobals mg → mg d.name = some (.ref fa) →
      ∃ fd : FuncData, (∀ (s : Shared) (u : Value), BindsTo s fd ⟨[u], []⟩ [(x, u)]) ∧ ∀ base : Heap, (K w.params).In base → base.Ns mainGlobals mg → FnOk l.prog w (K w.params) mg base (CX w) k fa fd [x] (sp w))
    (LO : ∀ (w : World) (h : Heap), YP w h → LamOk (K w.params) h)
    (hsp : ∀ (w : World) (H : Hp) (a : Addr) (ns : List Int), ns.length ≤ n → (∀ m ∈ ns, Builtin.Int.intBits m ≤ 2 ^ 20) → SqL (K w.params) H a (ns.map V.int) → sp w [.ref a] H (fun v _ => v = .bl true) fun _ _ _ => False)
    (hCX : ∀ (w : World) (H : Hp) (s : Shared) (e : Value) (s' : Shared), CX w [] H s (fun _ _ _ => False) e s' → False) : PySem.W.WalkO q loose XP YP l.row.toRowW d [] (fun f vs => PySem.call f vs) := by
  intro w s₀ s₁ mg mb G Y fa o pm cd doc dV kV ho hd hcd hD hmg hg args vals as hpre hlay hrd hwl hlo
  obtain rfl : dV = .none := Dflts.none hD hdf
  obtain rfl : kV = .none := Dflts.noKw hD
  obtain ⟨a, vs, ns, rfl, rfl, hobj, hints, hlen⟩ := Att.script_of hn hpre hwl
  have KX := hY w _ Y
  obtain ⟨fd, hb, hF⟩ := F w mg fa _ KX G.T.g hmg
  refine enter_call (codeAny_mono (law_call KX G.T.g G.T.b G.T.builtins G.T.nolimit hg hobj hints (Nat.le_trans hlen hn2) hr (LO w _ Y) G.T.bmain hF hb (fun H hS => hsp w H a ns hlen (fun m hm => wl_bits hlay hm) hS) fun H e s' => hCX w H s₁ e s') fun r s' hq => ?_)
  obtain ⟨rfl, h2, h3, h4⟩ := hq
  exact ⟨.inl ⟨.bool true, .bool true, [], rfl, fun _ => rfl, .bool true, Att.post_true l _, fun _ => ⟨List.Pairwise.nil, fun _ hm => (nomatch hm)⟩⟩, h2, h3, h4⟩
noncomputable def spLaw2 (K : PySem.W.Frag) : Sp := fun vs H Q _ => ∃ (a : Addr) (ns : List Int), vs = [.ref a] ∧ SqL K H a (ns.map V.int) ∧ ns.length ≤ 63 ∧ (∀ m ∈ ns, Builtin.Int.intBits m ≤ 2 ^ 20) ∧ ∀ H', Q (.bl true) H'
end L2
namespace L3
open PySem PySem.Spec PyProof.Rows L2
theorem lawF2 {P : Program} {w : World} {K : PySem.W.Frag} {mg : Str → Option Value} {base : Heap} {G : Gx} {k : Nat} {x : Str} {st : Stmt} {N : List Str} {f : Addr} {fd : FuncData} {y : Str} (F : Fun K x x st f fd) (S : FnScope N [y] (defScope st))
    (hbody : ∀ (cdv : Value) (A : Around) (outer : List Env) (s : Shared) (H : Hp) (E : XK), Room k (A.deeper (envOfC x (defScope st) s.heap.objs.size f cdv)) →
      ∃ fs, PSs (cxOf CX0 P w K mg base N x (defScope st) f cdv A outer s H E).nox (defBody st) (ts K G ER0 fs) ∧ ∀ ns : List Int, ns.length ≤ 63 → (∀ m ∈ ns, Builtin.Int.intBits m ≤ 2 ^ 20) → fs { nx := fun _ => False, rt := fun p => p = .bl true } (startR N [.scr ns])) : FnOk P w K mg base CX0 (k + 1) f fd [y] (spLaw2 K) := by
  refine F.ok S (fun vs H Q E h => ?_) fun cdv A outer s H vs Q E hr h => ?_
  · obtain ⟨a, ns, rfl, _⟩ := h
    rfl
  obtain ⟨a, ns, rfl, hS, hl, hb, q⟩ := h
  obtain ⟨fs, b, c⟩ := hbody cdv A outer s H E hr
  have al : AtL K G (mn H fun _ => false) [.scr ns] [.ref a] := ⟨_, _, rfl, ⟨a, rfl, by rw [mn_no]; exact hS⟩, rfl⟩
  refine ⟨_, b, ⟨H, fun _ => false⟩, startR N [.scr ns], _, ⟨_, rep_start (fun _ z => by cases z) al⟩, c ns hl hb, ⟨fun _ _ _ _ h => h.elim, fun v H' p s' a' h => ?_, fun _ _ _ _ _ _ h => h.elim, fun _ _ _ _ _ h => h.elim, fun _ _ _ _ h => h, fun _ _ _ _ h => h, fun _ _ _ h => h⟩⟩
  subst h
  subst a'
  exact q H'
end L3

/-! ### a try around a call, an except with a name -/
namespace L2
open PySem PySem.Spec PyProof.Rows
section
variable {X : Cx} {pins : List (Addr × Obj)} {σ : St} {H : Hp} {s : Shared} {h' : Heap} {ch : List Addr}
end
section
variable {X : Cx} {pins : List (Addr × Obj)} {σ : St} {H1 H' : Hp} {s1 s' : Shared} {a : Addr} {cls : Value}
end

section
variable {X : Cx} {pins : List (Addr × Obj)} {σ : St} {H H' : Hp} {s : Shared} {h0 : Heap} {a : Addr} {cls : Value}
end

section
variable {X : Cx} {call : Expr} {te : XK → TE} {x n y : Str} {C : Addr} {i j : Nat} {px py pn hp p1 p2 pos : Pos}
end
end L2

/-! ### defs that may refuse, read over pure values -/
namespace L3
open PySem PySem.Spec PyProof.Rows L2
/-- what a call comes to: a value, or an error of a class -/
inductive Rs where
  | val (p : PV) | err (C : Addr)
section
variable {P : Program} {w : World} {K : PySem.W.Frag} {mg : Str → Option Value} {base : Heap} {G : Gx}
end
section
variable {X : Cx} {G : Gx} {E : XK} {e : Expr} {es : List Expr} {pos p cpos np pos' : Pos} {i j k : Nat} {x y : Str} {ps : List Str} {pre : List PV → Prop} {C : En → Prop} {gs : En → List PV} {F : List PV → Rs} {Cc : Addr}
/-- a call that does not refuse here -/
noncomputable def Rs.get : Rs → PV
  | .val p => p
  | .err _ => .non
end
end L3

/-! ### isinstance of a caught error; a try read over pure values -/
namespace L2
open PySem PySem.Spec PyProof.Rows
/-- what isinstance asks of an error's own class -/
structure ErrK (K : PySem.W.Frag) (C : Addr) : Prop where
  hg : PySem.W.findIn K (.ref C) "__getattribute__" = some (some (.builtin "BaseException.__getattribute__"))
  hk : PySem.W.findIn K (.ref C) "__getattr__" = some none
  hb : PySem.W.mroIn K C (.type "BaseException") = some true
  hd : PySem.W.hasDictIn K C = true
  ha : PySem.W.findIn K (.ref C) "__class__" = some (some (.builtin "object.__class__"))
  hn : PySem.W.specialIn K (.builtin "object.__class__") "__get__" = some (some (.builtin "getset_descriptor.__get__"))
  htk : PySem.W.takesIn K (.builtin "object.__class__") = some true
  hm : PySem.W.mroIn K C (.type "object") = some true
end L2
namespace L3
open PySem PySem.Spec PyProof.Rows L2
section
variable {X : Cx} {G : Gx} {a c e : Expr} {es : List Expr} {pos p : Pos} {Ca Cc C : En → Prop} {ga gc : En → PV}
end
section
variable {X : Cx} {G : Gx} {Er : ER} {e : Expr} {es : List Expr} {C : En → Prop} {gs : En → List PV} {pre : List PV → Prop} {F : List PV → Rs} {f x n y : Str} {Cc : Addr} {i j k l : Nat} {ps : List Str} {px py pn hp p1 p2 pos p cpos : Pos}
end
end L3

/-! ### values compared deeply, range with a step -/
namespace L2
open PySem PySem.Spec PyProof.Rows
end L2
namespace L3
open PySem PySem.Spec PyProof.Rows L2
/-! data -/
mutual
noncomputable def dat : PV → PyData
  | .int n => .int n
  | .bl b => .bool b
  | .non => .none
  | .str s => .str s
  | .ints ns => .list (ns.map PyData.int)
  | .lst xs => .list (dats xs)
  | .tup xs => .tuple (dats xs)
  | _ => .none
noncomputable def dats : List PV → List PyData
  | [] => []
  | p :: ps => dat p :: dats ps
end
section
variable {X : Cx} {pins : List (Addr × Obj)} {σ : L2.St} {H : Hp} {s : Shared} {G : Gx}
end
noncomputable def eqD (p q : PV) : Prop := PySem.Spec.same (dat p) (dat q) = true
noncomputable instance (p q : PV) : Decidable (eqD p q) := inferInstanceAs (Decidable (_ = true))
section
variable {X : Cx} {G : Gx} {Er : ER} {a b : Expr} {pos : Pos} {Ca Cb : En → Prop} {ga gb : En → PV}
end
end L3

/-! ### expressions that may refuse: calls, makers; a try around any of them; fields of kinds -/
namespace L3
open PySem PySem.Spec PyProof.Rows L2
/-- an expression that may refuse -/
noncomputable def tR (K : PySem.W.Frag) (G : Gx) (C : En → Prop) (F : En → Rs) (E : XK) : TE := fun σ H Q => ∃ B ρ O, Rep K G B σ H ρ O ∧ C ρ ∧ (∀ p, F ρ = .val p → ∀ v H', Same H H' → At K G (mn H' O) p v → Q v H') ∧ ∀ c, F ρ = .err c → ∀ H', Same H H' → E (.ref c) none H'
noncomputable abbrev PR (X : Cx) (G : Gx) (e : Expr) (C : En → Prop) (F : En → Rs) : Prop := ∀ E, Passes (CXe X.prog X.w) X E → PE X e (tR X.K G C F E)
section
variable {X : Cx} {G : Gx} {Er : ER} {E : XK} {e : Expr} {es : List Expr} {pos p pos' : Pos} {i j k l : Nat} {x y n : Str} {ps : List Str} {pre : List PV → Prop} {C : En → Prop} {gs : En → List PV} {g : En → PV} {F : List PV → Rs} {FE : En → Rs} {Cc Cl : Addr} {px py pn hp p1 p2 : Pos}
/-! fields of kinds -/
end
end L3

/-! ### methods that may refuse; isinstance of kinds -/
namespace L2
open PySem PySem.Spec PyProof.Rows
end L2
namespace L3
open PySem PySem.Spec PyProof.Rows L2
section
variable {X : Cx} {G : Gx} {a b c e : Expr} {es : List Expr} {pos p px apos : Pos} {C Ca Cb Cc : En → Prop} {ga gc : En → PV} {gs : En → List PV} {i j k n : Nat} {x m : Str}
end
end L3

/-! for over zip, list(range(n)), what k01 asks of kinds -/
namespace L2
open PySem PySem.Spec PyProof.Rows
end L2
namespace L3
open PySem PySem.Spec PyProof.Rows L2
section
variable {X : Cx} {G : Gx} {Er : ER} {f : FS} {C C2 : En → Prop} {pos p pos' : Pos} {e : Expr} {es : List Expr} {g : En → PV} {x : Str} {ps : List Str} {j k : Nat} {Cl : Addr} {gs : En → List PV}
/-! objects of other sorts taken as kinds -/
end
end L3

/-! defs that refuse or tell a new value -/
namespace L3
open PySem PySem.Spec PyProof.Rows L2
section
variable {P : Program} {w : World} {K : PySem.W.Frag} {mg : Str → Option Value} {base : Heap} {G : Gx}
end
section
variable {X : Cx} {G : Gx} {e : Expr} {es : List Expr} {pos p : Pos} {j k : Nat} {x : Str} {ps : List Str} {pre : List PV → Prop} {C : En → Prop} {gs : En → List PV} {F : List PV → Rs}
end
end L3

/-! try: y = e / except C: return None -/
namespace L2
open PySem PySem.Spec PyProof.Rows
section
variable {X : Cx} {call : Expr} {te : XK → TE} {x y : Str} {C : Addr} {j k0 : Nat} {px py pn hp p1 p2 pos : Pos}
end
end L2
namespace L3
open PySem PySem.Spec PyProof.Rows L2
section
variable {X : Cx} {G : Gx} {Er : ER} {e : Expr} {C : En → Prop} {FE : En → Rs} {x y : Str} {Cc : Addr} {j k0 : Nat} {px py pn hp p1 p2 pos : Pos}
end
section
variable {X : Cx} {G : Gx} {a b c e : Expr} {p pos : Pos} {C Ca Cb Cc : En → Prop} {ga gb g : En → PV} {gl : En → List Int}
theorem xv_if [∀ ρ, Decidable (pt ρ)] (hc : PT X c (tXT X.K G Cc pt)) (ha : PE X a (tX X.K G Ca ga)) (hb : PE X b (tX X.K G Cb gb)) : PE X (.IfExp c a b pos) (tX X.K G (fun ρ => Cc ρ ∧ (pt ρ → Ca ρ) ∧ (¬ pt ρ → Cb ρ)) fun ρ => if pt ρ then ga ρ else gb ρ) :=
  toX (pe_ifExp hc ha hb) fun B σ H ρ O Q R c q => ⟨B, ρ, O, R, c.1, fun H1 s1 => by
    by_cases d : pt ρ
    · rw [decide_eq_true d]
      refine iteT ⟨B, ρ, O, R.grow s1, c.2.1 d, fun v H2 s2 a2 => q v H2 (s1.trans s2) ?_⟩
      rw [if_pos d]; exact a2
    · rw [decide_eq_false d]
      refine iteF ⟨B, ρ, O, R.grow s1, c.2.2 d, fun v H2 s2 a2 => q v H2 (s1.trans s2) ?_⟩
      rw [if_neg d]; exact a2⟩
end
end L3

/-! ### texts; range downwards -/
namespace L2
open PySem PySem.Spec PyProof.Rows
end L2
namespace L3
open PySem PySem.Spec PyProof.Rows L2
section
variable {X : Cx} {G : Gx} {Er : ER} {f : FS} {a b c e : Expr} {pos p : Pos} {C Ca Cb Cc : En → Prop} {ga gb gs : En → Str} {gi : En → Int} {g : En → PV} {i k : Nat} {x : Str}
end
end L3

/-! ### pairs in lists, reversed ranges, min of three, longer f-texts -/
namespace L2
open PySem PySem.Spec PyProof.Rows
section
variable {prog : Program} {w : World} {A : Around} {E : Value → Shared → Prop} {s : Shared}
end
end L2
namespace L3
open PySem PySem.Spec PyProof.Rows L2
section
variable {X : Cx} {G : Gx} {Er : ER} {f : FS} {a b c e : Expr} {pos p : Pos} {C Ca Cb Cc Cs : En → Prop} {ga gb gs : En → Str} {gi gj gk : En → Int} {g : En → PV} {i k : Nat} {x : Str}
/-- the two of a pair -/
noncomputable def fstP : PV → PV
  | .tup [a, _] => a
  | _ => .non
noncomputable def sndP : PV → PV
  | .tup [_, b] => b
  | _ => .non
noncomputable def isPair (q : PV) : Prop := q = .tup [fstP q, sndP q]
end
section
variable {K : PySem.W.Frag} {G : Gx} {σ : L2.St} {H : Hp} {Q : VK} {Cs Cb : En → Prop} {gp : En → PV} {cap : List (Option Nat)}
end
section
variable {X : Cx} {G : Gx} {Er : ER} {N' : List Str} {sc : Scope} {cl : List (Str × Addr)} {cap : List (Option Nat)} {el tg src : Expr} {at' spos px : Pos} {Cs Cb Ca C2 Cc : En → Prop} {gs : En → List Int} {ga gb gc gi : En → Int} {gp : En → PV} {i : Nat} {x : Str} {a b c : Expr}
theorem frP_of {t : TE} {st : Stmt} {C : En → Prop} {g : En → List PV} (h : PS X st (tAsg t (gName i))) (k : ∀ σ H Q, tXp X.K G C g σ H Q → t σ H Q) : PS X st (ts X.K G Er fun P ρ => C ρ ∧ ∀ ns, ns = g ρ → P.nx (ρ.set i (.fr (.lst ns)))) :=
  toS h fun B σ H ρ O P D R c w => k σ H _ ⟨B, ρ, O, R, c.1, fun a vs H1 s1 n1 e1 al => w.nx _ H1 _ ⟨O, (R.grow s1).set (p := .lst _) ⟨a, vs, rfl, .inl (by
    rw [mn_of]
    · exact e1
    · cases z : O a with
      | false => rfl
      | true => exact absurd n1 (R.dom a z)), by
    refine AtL.mono ?_ _ _ al
    exact mn_anti hide_le⟩⟩ (c.2 _ rfl)⟩
end
/-! lists of pairs of a list of numbers and a number, compared -/
noncomputable def isGo (q : PV) : Prop := ∃ g o, q = .tup [.ints g, .int o]
end L3

/-! ### any, not of a list, lists of values of one's own, list(reversed(..)) -/
namespace L2
open PySem PySem.Spec PyProof.Rows
/-! list(reversed(a list)) -/
section
variable {prog : Program} {w : World} {A : Around} {R : Result → Shared → Prop} {s : Shared}
variable {I : Addr} {fp wr : List Addr} {G : Array GenState → Array GenState → Prop} {n : Nat} {P : Nat → Value → Prop} {St : Nat → Shared → Prop}
end
section
variable {prog : Program} {w : World} {A : Around} {E : Value → Shared → Prop} {s : Shared}
variable {I : Addr} {fp wr : List Addr} {G : Array GenState → Array GenState → Prop} {n : Nat} {P : Nat → Value → Prop} {St : Nat → Shared → Prop}
end
end L2
namespace L3
open PySem PySem.Spec PyProof.Rows L2
section
variable {X : Cx} {G : Gx} {Er : ER} {a b c e : Expr} {pos p : Pos} {C Ca : En → Prop} {gl : En → List Int} {g : En → PV} {gp : En → List PV} {i : Nat} {x : Str} {px pa pc : Pos}
end
end L3

/-! ### lists of lists: comprehensions over them, items, slices, changes -/
namespace L3
open PySem PySem.Spec PyProof.Rows L2
section
variable {K : PySem.W.Frag} {G : Gx} {σ : L2.St} {H : Hp} {Q : VK} {Cs Cb : En → Prop} {gp : En → PV} {cap : List (Option Nat)}
/-- over a list of values -/
theorem lc_V {gl : En → List PV} (h : tXp K G (fun ρ => Cs ρ ∧ (gl ρ).length ≤ 1000 ∧ ∀ q ∈ gl ρ, Cb ((capR (none :: cap) ρ).set 0 (.fr q))) (fun ρ => (gl ρ).map fun q => gp ((capR (none :: cap) ρ).set 0 (.fr q))) σ H Q) :
    tLC (none :: cap) (iList K (tX K G Cs fun ρ => .lst (gl ρ))) (gName 0) noTest (tX K G Cb gp) σ H Q := by
  obtain ⟨B, ρ, O, R, ⟨c1, c2, c4⟩, q⟩ := h
  refine ⟨B, ρ, O, R, c1, fun v H1 s1 a1 => ?_⟩
  obtain ⟨a, vs, rfl, hq, hal⟩ := a1
  have hq1 : SqL K H1 a vs := .inl (same_rd mn_le hq)
  have el := hal.length
  have R1 := R.grow s1
  refine ⟨a, rfl, ⟨_, hq1⟩, fun D hD => ?_⟩
  have one : ∀ i n, (gl ρ)[i]? = some n → At K G (mn H1 O) n (vs.getD i .non) := fun i n en => by
    have hi : i < vs.length := by rw [← el]; exact (List.getElem?_eq_some_iff.mp en).1
    obtain ⟨n', en', an⟩ := hal.get (List.getElem?_eq_getElem hi)
    rw [en] at en'
    cases en'
    rw [List.getD_eq_getElem?_getD, List.getElem?_eq_getElem hi]
    exact an
  obtain ⟨items, hit⟩ : ∃ items : List (Nat × PV), items = (gl ρ).zipIdx.map fun z => (z.2, z.1) := ⟨_, rfl⟩
  have hlen : items.length = (gl ρ).length := by rw [hit, List.length_map, List.length_zipIdx]
  have hat : ∀ (i : Nat) (it : Nat × PV), items[i]? = some it → it.1 = i ∧ (gl ρ)[i]? = some it.2 := fun i it e => by
    rw [hit, List.getElem?_map, List.getElem?_zipIdx] at e
    cases eg : (gl ρ)[i]? with
    | none => rw [eg] at e; cases e
    | some n =>
      rw [eg] at e
      have e := Option.some.inj e
      subst e
      exact ⟨Nat.zero_add i, rfl⟩
  have hmem : ∀ it ∈ items, (gl ρ)[it.1]? = some it.2 := fun it hm => by
    obtain ⟨i, e⟩ := List.mem_iff_getElem?.mp hm
    obtain ⟨h1, h2⟩ := hat i it e
    rw [h1]
    exact h2
  have hmap : items.map (fun it => gp ((capR (none :: cap) ρ).set 0 (.fr it.2))) = (gl ρ).map fun q => gp ((capR (none :: cap) ρ).set 0 (.fr q)) := by
    refine List.ext_getElem? fun i => ?_
    rw [List.getElem?_map, List.getElem?_map]
    by_cases c : i < (gl ρ).length
    · have c' : i < items.length := by omega
      obtain ⟨h1, h2⟩ := hat i items[i] (List.getElem?_eq_getElem c')
      rw [List.getElem?_eq_getElem c', h2]
      rfl
    · rw [List.getElem?_eq_none (show items.length ≤ i by omega), List.getElem?_eq_none (show (gl ρ).length ≤ i by omega)]
      rfl
  refine lc_main items (fun _ v => (capS (none :: cap) σ).set 0 (some v)) (fun it => (capR (none :: cap) ρ).set 0 (.fr it.2)) (fun it => vs.getD it.1 .non) R1 hD (by rw [hlen]; exact c2)
    (fun i H hi s => ⟨vs, vs[i]'(by rw [← el, ← hlen]; exact hi), s.seq hq1, by rw [List.getElem?_eq_getElem]⟩) ?_ (fun H s => ⟨_, s.seq hq1, by rw [hlen, el]; exact Nat.le_refl _⟩) (fun it H hm s R' => ?_) ?_ ?_ ?_
  · rintro i it x H H' en s ⟨rfl, hx⟩
    obtain ⟨h1, h2⟩ := hat i it en
    have e3 := hx _ (s.seq hq1)
    refine ⟨Same.refl _, fun kk hk => ?_⟩
    rw [h1, List.getD_eq_getElem?_getD, e3] at hk
    exact hk
  · exact R'.set (At.mono (mn_hide (O := O) s hD) _ _ (one _ _ (hmem it hm)))
  · intro it
    exact ext_refl _
  · intro it hm
    exact c4 it.2 (List.mem_of_getElem? (hmem it hm))
  · intro H' ys s hd al
    refine q D ys H' (s1.trans s) (s1.free hD) hd ?_
    rw [hmap] at al
    exact al
end
section
variable {X : Cx} {G : Gx} {Er : ER} {N' : List Str} {sc : Scope} {cl : List (Str × Addr)} {cap : List (Option Nat)} {el tg src : Expr} {at' spos px : Pos} {Cs Cb : En → Prop} {gn gi : En → Int} {gp : En → PV} {gl : En → List PV} {i : Nat} {x : Str}
end
section
variable {K : PySem.W.Frag} {G : Gx} {H : Hp}
theorem atL_drop : ∀ {ps : List PV} {vs : List V}, AtL K G H ps vs → ∀ k : Nat, AtL K G H (ps.drop k) (vs.drop k)
  | _, _, h, 0 => h
  | [], _, h, k + 1 => by
    rw [h]
    rfl
  | p :: r, _, h, k + 1 => by
    obtain ⟨u, t, rfl, e, z⟩ := h
    exact atL_drop z k
theorem atL_take : ∀ {ps : List PV} {vs : List V}, AtL K G H ps vs → ∀ k : Nat, AtL K G H (ps.take k) (vs.take k)
  | _, _, _, 0 => rfl
  | [], _, h, k + 1 => by
    rw [h]
    rfl
  | p :: r, _, h, k + 1 => by
    obtain ⟨u, t, rfl, e, z⟩ := h
    exact ⟨u, t.take k, rfl, e, atL_take z k⟩
end
section
variable {X : Cx} {G : Gx} {Er : ER} {a b e : Expr} {pos p px : Pos} {C Ca Cb : En → Prop} {gb : En → Int} {g : En → PV} {gp : En → List PV} {i : Nat} {x : Str}
noncomputable def cutP (xs : List PV) (lo hi : Option Int) : List PV := (xs.drop (HT.sIx xs.length 0 lo)).take (HT.sIx xs.length xs.length hi - HT.sIx xs.length 0 lo)
/-- x[lo:hi] of a list of values -/
theorem xp_slice {lo hi : Option Expr} {Cl Ch : En → Prop} {gl gh : En → Option Int} (ha : PE X a (tX X.K G C fun ρ => .lst (gp ρ))) (hl : PO X lo (tXo X.K G Cl gl)) (hh : PO X hi (tXo X.K G Ch gh)) :
    PE X (.Subscript a (.Slice lo hi none p2) pos) (tXp X.K G (fun ρ => C ρ ∧ Cl ρ ∧ Ch ρ) fun ρ => cutP (gp ρ) (gl ρ) (gh ρ)) :=
  fun pins s σ H Q I ⟨B, ρ, O, R, c, q⟩ => pe_slice sl_list ha hl hh pins s σ H Q I ⟨B, ρ, O, R, c.1, fun v H1 s1 a1 => ⟨B, ρ, O, R.grow s1, c.2.1, fun H2 s2 => ⟨B, ρ, O, (R.grow s1).grow s2, c.2.2, fun H3 s3 => by
    obtain ⟨l, vs, rfl, r, al⟩ := a1
    have al3 := AtL.mono (mn_same (s2.trans s3)) _ _ al
    have ell := al.length
    refine ⟨l, _, rfl, (s2.trans s3).seq (.inl (same_rd mn_le r)), fun y hy => q y _ _ (((s1.trans s2).trans s3).trans (same_new hy _)) (((s1.trans s2).trans s3).free hy) upd_same (AtL.mono (mn_hide (same_new hy _) hy) _ _ ?_)⟩
    show AtL X.K G (mn H3 O) (cutP (gp ρ) (gl ρ) (gh ρ)) (cutV vs (gl ρ) (gh ρ))
    unfold cutP cutV
    rw [ell]
    exact atL_take (atL_drop al3 _) _⟩⟩⟩
end
/-! rests by a prime, alone -/
noncomputable def KR (cR : Addr) (H : Hp) (a : Addr) (z : Int) : Prop := 0 < z ∧ ∃ dx fs, H a = some (.ins cR dx fs) ∧ fs.lookup ("size" : Str) = some (.int z) ∧ ∀ m ∈ kMeths, fs.lookup m = none
section
variable {X : Cx} {G : Gx} {pos p : Pos} {j k : Nat} {x y : Str} {C : Addr} {e : Expr} {Ca : En → Prop} {ga : En → Int}
end
/-! tables of numbers, compared -/
end L3

/-! a list of numbers, written by a comprehension over range of two and of three -/
namespace L3
open PySem L2 PyProof.Rows
section
variable {X : Cx} {G : Gx} {N' : List Str} {sc : Scope} {cl : List (Str × Addr)} {cap : List (Option Nat)} {el tg : Expr} {at' : Pos} {Cb Ca C2 Cc : En → Prop} {ga gb gc gi : En → Int} {a b c : Expr}
end
end L3

/-! for x in a tuple of values -/
namespace L3
open PySem L2 PyProof.Rows
section
variable {X : Cx} {G : Gx} {Er : ER} {pos : Pos} {f : FS} {C : En → Prop} {e : Expr}
end
end L3

/-! ### max with a default; zip, enumerate and tests over lists of values; sums of them -/
namespace L2
open PySem PySem.Spec PyProof.Rows
section
variable {prog : Program} {w : World} {A : Around} {R : Result → Shared → Prop} {E : Value → Shared → Prop} {I : Addr} {fp wr : List Addr} {n : Nat} {Pv : Nat → Value → Prop} {St : Nat → Heap → Prop}
end
end L2
namespace L3
open PySem PySem.Spec PyProof.Rows L2
section
variable {X : Cx} {G : Gx} {Er : ER} {a b e : Expr} {pos p px apos kp pz : Pos} {C Ca Cb : En → Prop} {gl : En → List Int} {gp hp : En → List PV} {g : En → PV} {i j k : Nat} {x : Str}
end
/-! comprehensions over zip, enumerate, with a test, of lists of values -/
section
variable {K : PySem.W.Frag} {G : Gx} {σ : L2.St} {H : Hp} {Q : VK} {Cs Cs' Cb Ct : En → Prop} {pt : En → Prop} [∀ ρ, Decidable (pt ρ)] {gp : En → PV} {cap : List (Option Nat)} {gl hl : En → List PV}
end
section
variable {X : Cx} {G : Gx} {Er : ER} {N' : List Str} {sc : Scope} {cl : List (Str × Addr)} {cap : List (Option Nat)} {el tg src tst l l2 : Expr} {at' spos px p pos' : Pos} {Cs Cs' Ct Cb : En → Prop} {pt : En → Prop} [∀ ρ, Decidable (pt ρ)] {gp : En → PV} {gl hl : En → List PV} {i : Nat} {x : Str}
theorem xst_lcVPf (hN : X.N.Nodup) (hi' : X.N[i]? = some x) (hx : X.env.scope.names.lookup x = some .local) (L : LcOk X N' sc cl (none :: cap)) (hc : X.calm = true) (hi : PE X src (tX X.K G Cs fun ρ => .lst (gl ρ))) (hg : ∀ s H fp, PG (cxComp X N' sc cl s H fp) tg (gName 0)) (he : ∀ s H fp, PE (cxComp X N' sc cl s H fp) el (tX X.K G Cb gp))
    (hsw : swapsWith (.ListComp el [⟨tg, src, [], 0⟩] sc at') (some (.Name x px)) spos.line X.env = pure true) (hs : ∀ x, foldedSetIterable src X.env x = pure x := by intro _; rfl) :
    PS X (.Assign [.Name x px] (.ListComp el [⟨tg, src, [], 0⟩] sc at') spos) (ts X.K G Er fun P ρ => (Cs ρ ∧ (gl ρ).length ≤ 1000 ∧ ∀ q ∈ gl ρ, Cb ((capR (none :: cap) ρ).set 0 (.fr q))) ∧ ∀ ns, ns = ((gl ρ).map fun q => gp ((capR (none :: cap) ρ).set 0 (.fr q))) → P.nx (ρ.set i (.fr (.lst ns)))) :=
  frP_of (ps_lc hN hi' hx L hc (pi_list hi) hg (fun _ _ _ => pts_nil) he hsw hs) fun σ H Q h => lc_V h
end
end L3

/-! ### a comprehension whose own name is read by one inside it -/
namespace L2
open PySem PySem.Spec PyProof.Rows
section
variable {M : Model} {A : Around} {E : Value → Shared → Prop} {s : Shared}
end
section
variable {X : Cx} {pins : List (Addr × Obj)} {σ : St} {H : Hp} {s : Shared} {N' : List Str} {sc : Scope} {cl : List (Str × Addr)} {cap : List (Option Nat)} {fp : List Addr} {y : Str}
end
section
variable {X : Cx} {pins : List (Addr × Obj)} {σ : St} {H : Hp} {s : Shared} {N' : List Str} {sc : Scope} {cl : List (Str × Addr)} {cap : List (Option Nat)} {fp : List Addr} {y : Str}
  {el tg src : Expr} {cs : List Expr} {at' : Pos} {g : TG} {tt : TT} {te : TE} {J : It} {it : Addr} {tn : Nat → Heap → Prop} {Q : VK}
end
end L2
namespace L3
open PySem PySem.Spec PyProof.Rows L2
section
variable {X : Cx} {G : Gx} {Er : ER} {N' : List Str} {sc : Scope} {cl : List (Str × Addr)} {cap : List (Option Nat)} {el tg src : Expr} {at' spos px : Pos} {Cs Cb : En → Prop} {gn gi : En → Int} {gp : En → PV} {i : Nat} {x y : Str} {p pos' : Pos}
end
end L3

/-! ### pop at a place, insert, of lists of values of one's own; zip with a test -/
namespace L2
open PySem PySem.Spec PyProof.Rows
section
variable {X : Cx}
end
end L2
namespace L3
open PySem PySem.Spec PyProof.Rows L2
section
variable {K : PySem.W.Frag} {G : Gx} {H : Hp}
end
section
variable {X : Cx} {G : Gx} {Er : ER} {a b e : Expr} {pos p px py apos pc pa : Pos} {C Ca Cb : En → Prop} {gb : En → Int} {g : En → PV} {i j : Nat} {x y : Str}
end
section
variable {K : PySem.W.Frag} {G : Gx} {σ : L2.St} {H : Hp} {Q : VK} {Cs Cs' Cb Ct : En → Prop} {pt : En → Prop} [∀ ρ, Decidable (pt ρ)] {gp : En → PV} {cap : List (Option Nat)} {gl hl : En → List PV}
end
section
variable {X : Cx} {G : Gx} {Er : ER} {N' : List Str} {sc : Scope} {cl : List (Str × Addr)} {cap : List (Option Nat)} {el tg src tst l l2 : Expr} {at' spos px p pos' : Pos} {Cs Cs' Ct Cb : En → Prop} {pt : En → Prop} [∀ ρ, Decidable (pt ρ)] {gp : En → PV} {gl hl : En → List PV} {i : Nat} {x : Str}
end
end L3

/-! ### not in a table; a list of two taken apart; wholes and rests -/
namespace L2
open PySem PySem.Spec PyProof.Rows
section
variable {X : Cx} {pos : Pos}
end
end L2
namespace L3
open PySem PySem.Spec PyProof.Rows L2
section
variable {X : Cx} {G : Gx} {Er : ER} {f : FS} {C : En → Prop} {pos : Pos} {i j : Nat} {e : Expr}
end
/-! not in a table -/
noncomputable def rowI : PV → List Int
  | .ints l => l
  | _ => []
section
variable {X : Cx} {G : Gx} {a b : Expr} {pos : Pos} {Ca Cb : En → Prop} {gl : En → List Int} {gp : En → List PV}
end
/-! wholes and rests by a prime -/
noncomputable def KWR (cW cR : Addr) (H : Hp) (a : Addr) (z : Int) : Prop := KW cW H a z ∨ KR cR H a z
end L3

/-! ### three kinds made; enumerate and zip of tables in a for -/
namespace L3
open PySem PySem.Spec PyProof.Rows L2
section
variable {X : Cx} {G : Gx} {pos p : Pos} {j k : Nat} {x y z : Str} {C : Addr} {e e2 : Expr} {Ca Cb : En → Prop} {ga gb : En → Int}
end
section
variable {X : Cx} {G : Gx} {Er : ER} {f : FS} {C C2 : En → Prop} {pos p pos' : Pos}
/-- for k, x in enumerate(a list of values) -/
theorem xst_forEP {k j : Nat} {g : En → List PV} {kk : Nat} (hp : PassesOwn (model X.prog X.w) X.A X.env X.xe) (hc : X.calm = true) (hg : Gl X "enumerate") (hm : X.mg "enumerate" = none) (hl : PE X l (tX X.K G C fun ρ => .lst (g ρ)))
    (hgt : PG X (.Tuple [.Name x px, .Name y py] kk tp) (gTup X.K 2 (gCons (gName k) (gCons (gName j) gNil)))) (hb : PSs X body (ts X.K G Er f)) (hs : starEach [l] X.env = [(false, eval l X.env)] := by rfl)
    (hfs : ∀ x, foldedSetIterable (.Call (.Name "enumerate" p) [l] [] pos') X.env x = pure x := by intro _; rfl) :
    PS X (.For (.Tuple [.Name x px, .Name y py] kk tp) (.Call (.Name "enumerate" p) [l] [] pos') body [] pos) (ts X.K G Er fun P ρ => C ρ ∧ ∃ W : Nat → En → Prop, W 0 ρ ∧
      (∀ i n ρ', (g ρ)[i]? = some n → W i ρ' → f (P.lp (W (i + 1))) ((ρ'.set k (.fr (.int i))).set j (.fr n))) ∧ ∀ ρ', W (g ρ).length ρ' → P.nx ρ') :=
  toS (ps_for hp hc (pi_enum hg hm (pa_cons hl pa_nil hs) hs) hgt hb hfs) fun B σ H ρ O P D R c w => by
    obtain ⟨c1, W, w0, st, nd⟩ := c
    refine ⟨B, ρ, O, R, c1, fun v H1 s1 a1 => ?_⟩
    obtain ⟨a, vs, rfl, hq, hal⟩ := a1
    have R1 := R.grow s1
    have w1 := owe_base R1 w
    have el := hal.length
    refine ⟨a, rfl, ⟨_, .inl (same_rd mn_le hq)⟩, for_enum (xs := vs) (fun i σ H => ∃ ρ', RepE X.K G (B.at H1 O) σ H ρ' ∧ W i ρ') ⟨ρ, ⟨O, R1.rebase⟩, w0⟩ ?_ ?_ ?_⟩
    · rintro i σ H _ ⟨ρ', ⟨O', R'⟩, _⟩
      exact .inl (same_rd ((Rep.base_mn B H1 O).trans R'.same) hq)
    · rintro i y σ H T hy ⟨ρ', ⟨O', R'⟩, hw⟩ hT
      obtain ⟨n, en, an⟩ := hal.get hy
      have R2 := R'.grow (same_new hT (.tup [.int i, y]))
      refine ⟨T, _, rfl, SqT.of upd_same, rfl, _, _, rfl, _, _, rfl, rfl, ?_⟩
      exact ⟨_, _, _, ⟨O', (R2.set (p := .int i) rfl).set (At.mono (R1.seen R2) _ _ an)⟩, st i n ρ' en hw, ⟨fun σ' H' ρ' R' h => ⟨ρ', R', h⟩, w1.rt, w1.rl, w1.rn, w1.nx, fun σ' H' ρ' R' h => ⟨ρ', R', h⟩, w1.er⟩⟩
    · rintro σ H ⟨ρ', R', hw⟩
      rw [← el] at hw
      exact w1.nx σ H ρ' R' (nd ρ' hw)
end
end L3

/-! ### a comprehension with a test over a list of values of one's own; a list of a list and a table, compared -/
namespace L3
open PySem PySem.Spec PyProof.Rows L2
section
variable {K : PySem.W.Frag} {G : Gx} {σ : L2.St} {H : Hp} {Q : VK} {Cb Ct : En → Prop} {pt : En → Prop} [∀ ρ, Decidable (pt ρ)] {gp : En → PV} {cap : List (Option Nat)} {j : Nat}
end
section
variable {X : Cx} {G : Gx} {N' : List Str} {sc : Scope} {cl : List (Str × Addr)} {cap : List (Option Nat)} {el tg tst : Expr} {at' px : Pos} {Ct Cb : En → Prop} {pt : En → Prop} [∀ ρ, Decidable (pt ρ)] {gp : En → PV}
end
end L3

/-! ### a comprehension over reversed(a list of values) -/
namespace L3
open PySem PySem.Spec PyProof.Rows L2
section
variable {K : PySem.W.Frag} {G : Gx} {σ : L2.St} {H : Hp} {Q : VK} {Cs Cb : En → Prop} {gp : En → PV} {cap : List (Option Nat)} {gl : En → List PV}
end
section
variable {X : Cx} {G : Gx} {Er : ER} {N' : List Str} {sc : Scope} {cl : List (Str × Addr)} {cap : List (Option Nat)} {el tg src : Expr} {at' spos px p pos' : Pos} {Cs Cb : En → Prop} {gp : En → PV} {gl : En → List PV} {i : Nat} {x : Str}
end
end L3
namespace L3
open PySem PySem.Spec PyProof.Rows L2
section
variable {X : Cx} {G : Gx} {a b : Expr} {pos : Pos} {Ca Cb : En → Prop} {ga gb : En → Int}
end
end L3

/-! ### count(True), index(True) of lists of truths; makers that do not refuse here -/
namespace L2
open PySem PySem.Spec PyProof.Rows
section
variable {X : Cx}
end
end L2
namespace L3
open PySem PySem.Spec PyProof.Rows L2
section
variable {K : PySem.W.Frag} {G : Gx} {H : Hp}
end
section
variable {X : Cx} {G : Gx} {e : Expr} {C : En → Prop} {g : En → PV} {apos cpos p : Pos} {k2 : Nat}
end
/-! where a text begins with constants alone, Lean walks into it as it looks at its type: shut it away -/
section
variable {X : Cx} {G : Gx} {Er : ER} {a b c e : Expr} {es : List Expr} {sts : List Stmt} {C Ca Cb : En → Prop} {g : En → PV} {gb : En → Int} {gp gs : En → List PV} {f1 f2 : Ps → En → Prop} {pos p2 : Pos} {t : TE} {ta : TA} {tt : TS}
end
end L3

/-! ### a number (not) in a list of numbers, its index, `is not False`, a tuple whose last thing may refuse -/
namespace L2
open PySem PySem.Spec PyProof.Rows
section
variable {X : Cx}
end
end L2
namespace L3
open PySem PySem.Spec PyProof.Rows L2
section
variable {X : Cx} {G : Gx} {Er : ER} {E : XK} {a b e e1 e2 e3 : Expr} {C Ca Cb C1 C2 C3 : En → Prop} {ga : En → Int} {gl : En → List Int} {g g1 g2 : En → PV} {FE : En → Rs} {apos cpos p pos : Pos} {k2 : Nat}
end
end L3

/-! ### a lambda as the key of a sort -/
namespace L2
open PySem PySem.Spec PyProof.Rows
/-! lists: a permutation of images is the image of a permutation; one order only -/
theorem perm_map_inv {α β : Type} {f : α → β} {l m : List β} (h : l.Perm m) : ∀ {L : List α}, L.map f = m → ∃ L' : List α, L'.Perm L ∧ L'.map f = l := by
  induction h with
  | nil =>
    intro L e
    have : L = [] := List.map_eq_nil_iff.mp e
    subst this
    exact ⟨[], .nil, rfl⟩
  | cons x _ ih =>
    intro L e
    obtain ⟨a, r, rfl, rfl, e2⟩ := List.map_eq_cons_iff.mp e
    obtain ⟨L', p, q⟩ := ih e2
    exact ⟨a :: L', .cons a p, by rw [List.map_cons, q]⟩
  | swap x y l =>
    intro L e
    obtain ⟨a, r1, rfl, rfl, e2⟩ := List.map_eq_cons_iff.mp e
    obtain ⟨b, r, rfl, rfl, rfl⟩ := List.map_eq_cons_iff.mp e2
    exact ⟨b :: a :: r, .swap a b r, rfl⟩
  | trans _ _ ih1 ih2 =>
    intro L e
    obtain ⟨L1, p1, q1⟩ := ih2 e
    obtain ⟨L2, p2, q2⟩ := ih1 q1
    exact ⟨L2, p2.trans p1, q2⟩
section
variable {X : Cx} {pins : List (Addr × Obj)} {σ : St} {H : Hp} {s : Shared}
theorem triples_app : ∀ {l m : List Value}, TriplesOk l → TriplesOk m → TriplesOk (l ++ m)
  | [], _, _, h => h
  | .int _ _ :: .int _ _ :: _ :: rest, m, h1, h2 => by
    exact triples_app (l := rest) h1 h2
theorem among_app : ∀ {l : List Value}, TriplesOk l → codeAmong pos (l ++ m) = some cv → codeAmong pos l = some cv ∨ codeAmong pos m = some cv
  | [], _, h => .inr h
  | .int line t :: .int col u :: c :: rest, ht, h => by
    have h : (if line == pos.line && col == pos.col then some c else codeAmong pos (rest ++ m)) = some cv := h
    show (if line == pos.line && col == pos.col then some c else codeAmong pos rest) = some cv ∨ _
    split at h
    · rename_i g
      rw [if_pos g]
      exact .inl h
    · rename_i g
      rw [if_neg g]
      exact among_app (l := rest) ht h
/-- a table grows by a code record that is new -/
theorem Inv.grown {P c' : Addr} {t : TabD} {oc : Obj} {more : Array Value} {h' : Heap} {tk : Nat} (I : Inv X pins σ H s) (e : H P = some (.tbl t)) (hx : ∀ b o, b ≠ P → s.heap.get? b = some o → h'.get? b = some o) (hge : s.heap.objs.size ≤ c')
    (hc : h'.get? c' = some oc) (hq : CodeQ oc t.q) (hP : h'.get? P = some (PySem.W.tabObj (t.ps ++ more))) (ht : TriplesOk more.toList) (hm : ∀ p cv, codeAmong p more.toList = some cv → cv = .ref c') :
    Inv X pins σ (upd (upd H c' (.frz oc (.ext fun _ => True))) P (.tbl (t ++ more))) { s with heap := h', toks := tk } := by
  have fr : H c' = none := I.hok.fresh hge
  have hcP : c' ≠ P := fun z => by rw [z, e] at fr; cases fr
  have old : ∀ b u, H b = some u → b ≠ c' := fun b u q z => by rw [z, fr] at q; cases q
  have nP : ∀ b, H b = none → b ≠ P := fun b q z => by rw [z, e] at q; cases q
  refine I.un ⟨fun b o q n _ _ => hx b o (nP b n) q, fun b o q n _ _ => ⟨o.slots, hx b o (nP b n) q⟩, fun b o q n _ => ?_, fun b o q _ => ?_, fun b xs q => ?_, fun b o u q => ?_, fun b ps q => ?_⟩ fun b u q => ?_
  · rw [upd_ne (nP b n), upd_ne (Nat.ne_of_lt (Nat.lt_of_lt_of_le (Heap.lt_size q) hge))]
    exact n
  · by_cases z : b = P
    · subst z; exact ⟨_, hP⟩
    · exact ⟨o, hx b o z q⟩
  · rw [upd_ne (fun z => by rw [z, e] at q; cases q), upd_ne (old b _ q)]; exact q
  · rw [upd_ne (fun z => by rw [z, e] at q; cases q), upd_ne (old b _ q)]; exact q
  · by_cases z : b = P
    · subst z
      rw [e] at q; cases q
      exact ⟨more, upd_same⟩
    · exact ⟨#[], by rw [upd_ne z, upd_ne (old b _ q), q]; simp⟩
  · have frz2 : ∀ c o u, H c = some (.frz o u) → (upd (upd H c' (.frz oc (.ext fun _ => True))) P (.tbl (t ++ more))) c = some (.frz o u) := fun c o u q => by
      rw [upd_ne (fun z => by rw [z, e] at q; cases q), upd_ne (old c _ q)]; exact q
    by_cases z : b = P
    · subst z
      rw [upd_same] at q; cases q
      obtain ⟨e1, e2, e3⟩ := I.hok b _ e
      refine ⟨hP, ?_, fun p cv hcm => ?_⟩
      · show TriplesOk (t.ps ++ more).toList
        rw [Array.toList_append]
        exact triples_app e2 ht
      · have hcm : codeAmong p (t.ps ++ more).toList = some cv := hcm
        rw [Array.toList_append] at hcm
        rcases among_app e2 hcm with hcm | hcm
        · obtain ⟨c, o1, u1, y, q1, q2⟩ := e3 p cv hcm
          exact ⟨c, o1, u1, y, frz2 c o1 u1 q1, q2⟩
        · exact ⟨c', oc, _, hm p cv hcm, by rw [upd_ne hcP, upd_same], hq⟩
    · rw [upd_ne z] at q
      by_cases y : b = c'
      · subst y
        rw [upd_same] at q; cases q
        exact ⟨hc, True.intro, ⟨_, hc⟩, fun _ _ h _ => h⟩
      · rw [upd_ne y] at q
        have up : ∀ c o, H c = some o → c ≠ P → (upd (upd H c' (.frz oc (.ext fun _ => True))) P (.tbl (t ++ more))) c = some o := fun c o q n => by
          rw [upd_ne n, upd_ne (old c _ q)]; exact q
        refine (I.hok b u q).stay (fun c v hcb r => hx c v ?_ r) (fun c r => up c _ r fun w => by rw [w, e] at r; cases r) (fun c xs r => up c _ r fun w => by rw [w, e] at r; cases r) fun c o u r => frz2 c o u r
        rcases hcb with rfl | hcb
        · exact z
        · exact fun w => by rw [w, e] at hcb; cases hcb
theorem CodeQ.rec {h : Heap} {c : Addr} {oc : Obj} {q : Str} (e : h.get? c = some oc) (k : CodeQ oc q) : h.CodeRec (.ref c) q := let ⟨vs, t, a, b⟩ := k; ⟨c, oc, vs, t, rfl, e, a, b⟩
/-- the lambda of a def: made, its code record told -/
theorem lam_eval (I : Inv X pins σ H s) (hcode : X.env.code = .ref c) (hx : (c, P, q) ∈ lamsIn X.K) (hq : X.env.qual ++ "<lambda>" = q)
    (hdef : defaultsOf params X.env = ([], [])) (hcl : closureFor scope X.env = pure [])
    (Q : Value → Shared → Prop)
    (h : ∀ f c' ctv H' s', Inv X pins σ H' s' → (∀ b o, H b = some o → (∀ t, o ≠ .tbl t) → H' b = some o) → (∀ b t, H b = some (.tbl t) → ∃ ps, H' b = some (.tbl ⟨t.q, ps⟩)) → s'.heap.get? f = some (PySem.W.kla_obj "<lambda>" q params body scope [] ((X.mg "__name__").getD .none) c' ctv) → H' f = none →
      (∃ oc u, H' c' = some (.frz oc u) ∧ CodeQ oc q) → s'.os = s.os → s.heap.objs.size ≤ f → Q (.ref f) s') :
    wpAny (model X.prog X.w) X.A (eval (.Lambda params body scope posL) X.env) Q E s := by
  obtain ⟨ps0, e0⟩ := I.ok.frf.t _ hx
  obtain ⟨m1, e1⟩ := I.base.tbls _ _ e0
  have e1 : H P = some (.tbl ⟨q, ps0 ++ m1⟩) := e1
  generalize ps0 ++ m1 = ps at e1
  obtain ⟨hP, ht, hr⟩ := I.hok P _ e1
  have C : PySem.W.CodeHd s.heap c P := PySem.W.codeHd_of_K I.kIn (lamsIn_hd hx)
  have hg : s.heap.Ns mainGlobals X.mg := I.mod.glob.keeps I.bk
  have nob : ∀ b o, X.base.get? b = some o → b ≠ P := fun b o e z => by
    have := (I.bs b o e).2
    rw [z, e1] at this; cases this
  have hgP : mainGlobals ≠ P := by
    obtain ⟨o, es, ep, e, _⟩ := I.mod.glob
    exact nob _ _ e
  obtain ⟨bm, ob, b1, b2, b3, b4, b5, b6⟩ := I.mod.bm
  have hbG : bm ≠ mainGlobals := fun z => by
    obtain ⟨o, es, ep, e, hd, _⟩ := I.mod.glob
    rw [z, e] at b3; cases b3; rw [hd] at b6; cases b6
  have hb : s.heap.BuiltinsAt X.mg P := ⟨bm, ob, b1, b2, hbG, nob _ _ b3, I.bk _ _ b3, b4, b5, b6⟩
  refine PySem.W.kla_eval hdef ?_
  rw [hq]
  cases hf : codeAmong posL ps.toList with
  | none =>
    refine PySem.W.kla_makeFunction (mg := X.mg) hcl I.ok.glob hg hcode C hP ht hf hgP hb fun c' ctv h' tk hx' hge hlt hrec htb => ?_
    obtain ⟨c2, oc, vs, t, ec, hoc, hd, hv⟩ := hrec
    cases ec
    have I2 := I.grown (c' := c') (oc := oc) (more := #[rawInt posL.line, rawInt posL.col, .ref c']) (h' := h') (tk := tk) e1 (fun b o n e => hx' b o n e) hge hoc ⟨vs, t, hd, hv⟩ htb trivial (fun p cv hc => by
      have hc : (if (posL.line : Int) == p.line && (posL.col : Int) == p.col then some (Value.ref c') else none) = some cv := hc
      split at hc
      · exact (Option.some.inj hc).symm
      · cases hc)
    have I3 := I2.kept (h' := h'.push (PySem.W.kla_obj "<lambda>" q params body scope [] ((X.mg "__name__").getD .none) c' ctv)) (t' := tk) fun b u e => Heap.get?_push_of_some _ e
    have fr : H c' = none := I.hok.fresh hge
    have old : ∀ b u, H b = some u → b ≠ c' := fun b u q z => by rw [z, fr] at q; cases q
    have hcP : c' ≠ P := fun z => by rw [z, e1] at fr; cases fr
    refine h h'.objs.size c' ctv _ _ I3 (fun b o q n => ?_) (fun b t q => ?_) (Heap.get?_push_size _ rfl) (I2.hok.fresh (Nat.le_refl _)) ⟨oc, _, by rw [upd_ne hcP, upd_same], vs, t, hd, hv⟩ rfl (Nat.le_trans hge (Nat.le_of_lt (Heap.lt_size hoc)))
    · rw [upd_ne (fun z => by rw [z, e1] at q; cases q; exact n _ rfl), upd_ne (old b _ q)]; exact q
    · by_cases z : b = P
      · subst z
        rw [e1] at q; cases q
        exact ⟨_, upd_same⟩
      · exact ⟨t.ps, by rw [upd_ne z, upd_ne (old b _ q), q]⟩
  | some cv =>
    obtain ⟨c', oc, u, rfl, g1, g2⟩ := hr posL cv hf
    refine PySem.W.kla_makeFunctionHit (mg := X.mg) hcl I.ok.glob hg hcode C hP ht hf hb fun ctv h' tk hk hsz => ?_
    have I3 := I.kept (h' := h'.push (PySem.W.kla_obj "<lambda>" q params body scope [] ((X.mg "__name__").getD .none) c' ctv)) (t' := tk) fun b u e => Heap.get?_push_of_some _ (hk b u e)
    exact h h'.objs.size c' ctv _ _ I3 (fun b o q _ => q) (fun b t q => ⟨t.ps, q⟩) (Heap.get?_push_size _ rfl) (I.hok.fresh hsz) ⟨oc, u, g1, g2⟩ rfl hsz
end
end L2
namespace L2
open PySem PySem.Spec PyProof.Rows
theorem bt_sorted : bootBuiltins "sorted" = some (.builtin "sorted") := by decide +kernel
section
variable {prog : Program} {w : World} {A : Around} {s : Shared} {Q : Value → Shared → Prop} {E : Value → Shared → Prop}
end
end L2
namespace L3
open PySem PySem.Spec PyProof.Rows L2
section
variable {K : PySem.W.Frag} {G : Gx} {H : Hp}
end
/-- a code value of a def that makes a lambda of the name q -/
noncomputable def LamC (K : PySem.W.Frag) (cd : Value) (q : Str) : Prop := ∃ c P, cd = .ref c ∧ (c, P, q) ∈ lamsIn K
section
variable {X : Cx} {G : Gx} {a : Expr} {pos p kp posL p1 p2 p3 : Pos} {Ca : En → Prop} {ga : En → PV} {k j : Nat} {y : Str} {params : Arguments} {scope : Scope}
end
/-- a def of the module that makes a lambda -/
noncomputable def LamDef (K : PySem.W.Frag) (mg : Str → Option Value) (x : Str) : Prop := ∃ f oc od fd sl, mg x = some (.ref f) ∧ K.lookup f = some ⟨oc, od, .func fd, sl⟩ ∧ LamC K fd.code (x ++ ".<locals>." ++ "<lambda>")
noncomputable def lamHas (K : PySem.W.Frag) (cd : Value) (q : Str) : Bool := match cd with
  | .ref c => (lamsIn K).any fun x => x.1 == c && x.2.2 == q
  | _ => false
theorem lamHas_of {K : PySem.W.Frag} {cd : Value} {q : Str} (h : lamHas K cd q = true) : LamC K cd q := by
  unfold lamHas at h
  split at h
  · rename_i c
    obtain ⟨x, hx, e⟩ := List.any_eq_true.mp h
    rw [Bool.and_eq_true, beq_iff_eq, beq_iff_eq] at e
    obtain ⟨a, b, d⟩ := x
    obtain ⟨e1, e2⟩ := e
    subst e1 e2
    exact ⟨a, b, rfl, hx⟩
  · cases h
/-- the tables at the first: ts are empty tables -/
noncomputable def lamOkB (K : PySem.W.Frag) (ts : List Addr) : Bool := (lamsIn K).all fun x => (ts.contains x.2.1 && (K.lookup x.2.1).isNone) && (lamsIn K).all fun y => x.2.1 != y.2.1 || x.2.2 == y.2.2
theorem lamOk_of {K : PySem.W.Frag} {h : Heap} {ts : List Addr} (e : lamOkB K ts = true) (t : ∀ P ∈ ts, h.get? P = some (PySem.W.tabObj #[])) : LamOk K h := by
  have a := fun x hx => Bool.and_eq_true_iff.mp (List.all_eq_true.mp e x hx)
  refine ⟨fun x hx => t _ ?_, fun x hx => ?_, fun x hx y hy z => ?_⟩
  · exact List.contains_iff_mem.mp (Bool.and_eq_true_iff.mp (a x hx).1).1
  · exact Option.isNone_iff_eq_none.mp (Bool.and_eq_true_iff.mp (a x hx).1).2
  · have := List.all_eq_true.mp (a x hx).2 y hy
    rw [Bool.or_eq_true, bne_iff_ne, beq_iff_eq] at this
    exact this.resolve_left fun n => n z
section
variable {P : Program} {w : World} {K : PySem.W.Frag} {mg : Str → Option Value} {base : Heap} {G : Gx}
/-- okF for a def that makes a lambda -/
theorem okFL {x : Str} {st : Stmt} {N ps : List Str} {k : Nat} {pre : List PV → Prop} {F : List PV → PV} (d : Def K mg x st ps) (S : FnScope N ps (defScope st)) (LD : LamDef K mg x) (len : ∀ as, pre as → as.length = ps.length)
    (hbody : ∀ (f : Addr) (cdv : Value) (A : Around) (outer : List Env) (s : Shared) (H : Hp) (E : XK), Room k (A.deeper (envOfC x (defScope st) s.heap.objs.size f cdv)) → LamC K cdv (x ++ ".<locals>." ++ "<lambda>") →
      ∃ fs, PSs (cxOf CX0 P w K mg base N x (defScope st) f cdv A outer s H E).nox (defBody st) (ts K G ER0 fs) ∧ ∀ as, pre as → fs { nx := fun _ => F as = .non, rt := fun p => p = F as, rl := fun ns => F as = .ints ns } (startR N as)) : Ok P w K mg base (k + 1) x ps (spF K G pre F) := by
  obtain ⟨f, fd, FF, b, m⟩ := d.ex
  refine ⟨f, fd, ?_, b, FF.kp, m⟩
  obtain ⟨oc, od, kV, doc, pm, an, cdv, ct, osl, rfl, lk, hcd⟩ := FF.ex
  have hl : LamC K cdv (x ++ ".<locals>." ++ "<lambda>") := by
    obtain ⟨f', oc', od', fd', sl', m', lk', hl⟩ := LD
    rw [m] at m'
    cases m'
    rw [lk] at lk'
    cases lk'
    exact hl
  refine fn_of lk hcd S (fun vs H Q E h => ?_) fun A outer s H vs Q E hr h => ?_
  · obtain ⟨as, O, _, al, hp, _⟩ := h
    rw [← al.length]; exact len as hp
  obtain ⟨as, O, hd, al, hp, q⟩ := h
  obtain ⟨fs, b, c⟩ := hbody f cdv A outer s H E hr hl
  refine ⟨_, b.nox, ⟨H, O⟩, startR N as, _, ⟨O, rep_start hd al⟩, c as hp, ⟨fun σ' H' ρ' R' h => ?_, fun v H' p s' a' h => ?_, fun a H' ns s' n e h => ?_, fun _ _ _ _ _ h => h.elim, fun _ _ _ _ h => h, fun _ _ _ _ h => h, fun _ _ _ h => h⟩⟩
  · obtain ⟨O', R'⟩ := R'
    exact q .non H' R'.same (by rw [show F as = .non from h]; rfl)
  · subst h
    exact q v H' s' a'
  · refine q _ H' s' ?_
    rw [h]
    exact ⟨a, rfl, .inl (by
      rw [mn_of]
      · exact e
      · cases z : O a with
        | false => rfl
        | true => exact absurd n (hd a z))⟩
end
end L3

/-! ### lists of numbers compared by <, keys (length, list) compared -/
namespace L2
open PySem PySem.Spec PyProof.Rows
open PySem.AutoSeq1 (wpAny_loadPart')
open PySem.MeetsSeq PySem.MeetsSeq2 PySem.MeetsSeq3 PySem.SeqAt
section
variable {prog : Program} {w : World} {A : Around} {E : Value → Shared → Prop} {s : Shared} {a b : Addr} {xs ys : List Value} {ns ms : List Int} {Q : Value → Shared → Prop}
end
section
variable {prog : Program} {w : World} {A : Around} {E : Value → Shared → Prop} {s : Shared} {Q : Bool → Shared → Prop}
end
end L2

/-! ### the library's tree of comparisons sorts (fewer than 64 things, one strict order, none alike) -/
namespace L2
open PySem PySem.Spec PyProof.Rows PySem.W
noncomputable def KOk (n : Nat) (lt : Nat → Nat → Bool) {α : Type} (Post : α → Prop) : KasT α → Prop
  | .ret a => Post a
  | .ask i j k => i < n ∧ j < n ∧ KOk n lt Post (k (lt i j))
section
variable {n : Nat} {lt : Nat → Nat → Bool} {α β : Type}
/-- a strict order of the first n -/
structure Ord (n : Nat) (lt : Nat → Nat → Bool) : Prop where
  asy : ∀ i j, i < n → j < n → lt i j = true → lt j i = false
  tot : ∀ i j, i < n → j < n → i ≠ j → lt i j = false → lt j i = true
  tr : ∀ i j k, i < n → j < n → k < n → lt i j = true → lt j k = true → lt i k = true
noncomputable def PR (n : Nat) (p : Array Nat) : Prop := p.toList.Perm (List.range n)
noncomputable def Srt (lt : Nat → Nat → Bool) (p : Array Nat) (m : Nat) : Prop := ∀ i j, i < j → j < m → lt (p.getD i 0) (p.getD j 0) = true
noncomputable def Dsc (lt : Nat → Nat → Bool) (p : Array Nat) (m : Nat) : Prop := ∀ i j, i < j → j < m → lt (p.getD j 0) (p.getD i 0) = true
end
end L2

/-! ### sorted with a key (length, list) -/
namespace L3
open PySem PySem.Spec PyProof.Rows L2
/-! the order -/
section
variable {X : Cx} {pins : List (Addr × Obj)} {σ : L2.St} {H : Hp} {s t : Shared} {D kS : Addr} {G : Gx} {O : Addr → Bool}
theorem inv_pin (I : Inv X pins σ H s) (e : s.heap.get? D = some o) (n : H D = none) (dl : D ≠ X.env.locals) (fs : D ∉ X.fs) (dc : ∀ v, o.data ≠ .cell v) : Inv X ((D, o) :: pins) σ H s :=
  { I with pin := fun p hp => (List.mem_append.mp hp).elim (fun hp => I.pin p (List.mem_append_left _ hp)) fun hp => (List.mem_cons.mp hp).elim (fun z => z ▸ ⟨e, n, dl, fs, dc⟩) fun hp => I.pin p (List.mem_append_right _ hp) }
theorem inv_unpin (I : Inv X (q :: pins) σ H s) : Inv X pins σ H s ∧ s.heap.get? q.1 = some q.2 ∧ H q.1 = none := by
  obtain ⟨a, b, _⟩ := I.pin q (List.mem_append_right _ List.mem_cons_self)
  exact ⟨{ I with pin := fun p hp => I.pin p ((List.mem_append.mp hp).elim (fun hp => List.mem_append_left _ hp) fun hp => List.mem_append_right _ (List.mem_cons_of_mem _ hp)) }, a, b⟩
/-- an address that nothing here knows -/
structure Fresh (X : Cx) (pins : List (Addr × Obj)) (D : Addr) : Prop where
  big : X.s₀.heap.objs.size ≤ D
  loc : D ≠ X.env.locals
  cel : ∀ x c, X.env.cells.lookup x = some c → c ≠ D
  pin : ∀ p ∈ X.pn ++ pins, p.1 ≠ D
  fs : D ∉ X.fs
theorem Fresh.of (I : Inv X pins σ H t) (h : t.heap.objs.size ≤ D) : Fresh X pins D where
  big := Nat.le_trans I.sz h
  loc := Nat.ne_of_gt (Nat.lt_of_lt_of_le I.lt h)
  cel := fun x c e => by
    obtain ⟨v, o, ho, _⟩ := I.cell x c e
    exact Nat.ne_of_lt (Nat.lt_of_lt_of_le (Heap.lt_size ho) h)
  pin := fun p hp => Nat.ne_of_lt (Nat.lt_of_lt_of_le (Heap.lt_size (I.pin p hp).1) h)
  fs := I.nofs h
theorem inv_poke (I : Inv X pins σ H s) (F : Fresh X pins D) (sb : Heap.SameBut D s.heap h') (e : h'.get? D = some o') (n : H D = none) : Inv X pins σ H { s with heap := h' } := by
  have kp : ∀ b o, b ≠ D → s.heap.get? b = some o → h'.get? b = some o := fun b o hb q => by rw [sb.2 b hb]; exact q
  have nD : ∀ b u, H b = some u → b ≠ D := fun b u q z => by rw [z, n] at q; cases q
  refine I.step (ch := [D]) (g' := s.gens) (d' := s.drawn) (t' := s.toks) (fun b hb => ?_) (fun b o _ _ hb q _ => kp b o (fun z => hb (List.mem_singleton.mpr z)) q) (fun b o _ _ hb q _ => ⟨o.slots, kp b o (fun z => hb (List.mem_singleton.mpr z)) q⟩) (fun b o _ _ q => q) (fun b o _ q => ?_) (fun b _ q => q) (fun b _ _ q => q) (fun b ps q => ⟨#[], by rw [q]; simp⟩) (fun m hm => ?_) (fun b u q => ?_) I.bare
  · rw [List.mem_singleton.mp hb]
    exact ⟨.inr F.big, F.loc, F.cel, F.pin⟩
  · by_cases z : b = D
    · rw [z]; exact ⟨o', e⟩
    · exact ⟨o, kp b o z q⟩
  · obtain ⟨o, es, ep, ho, r⟩ := hm
    exact ⟨o, es, ep, kp _ _ (Ne.symm F.loc) ho, r⟩
  · refine (I.hok b u q).stay (fun c v hcb rr => kp c v ?_ rr) (fun c rr => rr) (fun c _ rr => rr) fun c _ _ rr => rr
    rcases hcb with rfl | hcb
    · exact nD _ _ q
    · exact nD _ _ hcb
end
section
variable {X : Cx} {pins : List (Addr × Obj)} {σ : L2.St} {H : Hp} {s t : Shared} {D kS : Addr} {G : Gx} {O : Addr → Bool} {A : Around} {f : Value} {its : List Value} {gs : List (List Int)} {e1 : Nat} {P : PySem.Fin → Shared → Prop} {E : Value → Shared → Prop}
noncomputable def sOut (its : List Value) (p : List Nat) : List Value := p.map fun i => its.getD i Value.none
theorem sOut_id (its : List Value) : sOut its (List.range its.length) = its := by
  unfold sOut
  refine List.ext_getElem (by rw [List.length_map, List.length_range]) fun i h1 h2 => ?_
  rw [List.getElem_map, List.getElem_range, List.getD_eq_getElem?_getD, List.getElem?_eq_getElem h2]
  rfl
end
end L3

/-! ### sorted by (length, list): the rules -/
namespace L3
open PySem PySem.Spec PyProof.Rows L2
section
variable {X : Cx} {pins : List (Addr × Obj)} {σ : L2.St} {H : Hp} {s t : Shared} {D l : Addr} {G : Gx} {O : Addr → Bool} {f : Value} {its : List Value} {gs : List (List Int)} {E : Value → Shared → Prop}
theorem inv_track (I : Inv X pins σ H s) (F : Fresh X pins D) (n : H D = none) (e : s.heap.get? D = some (seqObj "list" its.toArray c)) (rv : Vals vs its) (hl : vs.length ≤ sizeLine) : Inv X pins σ (upd H D (.lst vs)) s := by
  have nD : ∀ b u, H b = some u → b ≠ D := fun b u q z => by rw [z, n] at q; cases q
  refine I.step (ch := [D]) (h' := s.heap) (g' := s.gens) (d' := s.drawn) (t' := s.toks) (fun b hb => ?_) (fun b o _ _ _ q _ => q) (fun b o _ _ _ q _ => ⟨o.slots, q⟩) (fun b o hb _ q => ?_) (fun b o _ q => ⟨o, q⟩) (fun b _ q => ?_) (fun b _ _ q => ?_) (fun b ps q => ⟨#[], ?_⟩) (fun m hm => hm) (fun b u q => ?_) I.bare
  · rw [List.mem_singleton.mp hb]
    exact ⟨.inr F.big, F.loc, F.cel, F.pin⟩
  · rw [upd_ne (fun z => hb (List.mem_singleton.mpr z))]; exact q
  · rw [upd_ne (nD _ _ q)]; exact q
  · rw [upd_ne (nD _ _ q)]; exact q
  · rw [upd_ne (nD _ _ q), q]; simp
  · by_cases z : b = D
    · subst z
      rw [upd_same] at q; cases q
      exact ⟨hl, its, c, rv, e⟩
    · rw [upd_ne z] at q
      exact (I.hok b u q).stay (fun c v _ rr => rr) (fun c rr => by rw [upd_ne (nD _ _ rr)]; exact rr) (fun c _ rr => by rw [upd_ne (nD _ _ rr)]; exact rr) fun c _ _ rr => by rw [upd_ne (nD _ _ rr)]; exact rr
end
end L3

/-! ### sorted(.., key=f) and sorted(.., key=lambda y: f(y[0])), f told by (length, list) -/
namespace L2
open PySem PySem.Spec PyProof.Rows
section
variable {prog : Program} {w : World} {A : Around} {s : Shared} {Q : Value → Shared → Prop} {E : Value → Shared → Prop}
end
end L2
namespace L3
open PySem PySem.Spec PyProof.Rows L2
section
variable {X : Cx} {pins : List (Addr × Obj)} {σ : L2.St} {H : Hp} {s : Shared} {G : Gx} {O : Addr → Bool} {A : Around} {pre : List PV → Prop} {F : List PV → PV} {j k : Nat} {fn : Str} {x : Str}
end
section
variable {X : Cx} {G : Gx} {a : Expr} {pos p pk kp posL p1 p2 p3 pf pc : Pos} {Ca : En → Prop} {ga : En → PV} {i j k : Nat} {x y fn : Str} {params : Arguments} {scope : Scope} {pre : List PV → Prop} {F : List PV → PV}
end
end L3

/-! ### a comprehension with a test over range -/
namespace L3
open PySem PySem.Spec PyProof.Rows L2
section
variable {K : PySem.W.Frag} {G : Gx} {σ : L2.St} {H : Hp} {Q : VK} {Cs Ct Cb : En → Prop} {pt : En → Prop} [∀ ρ, Decidable (pt ρ)] {gn : En → Int} {gp : En → PV} {cap : List (Option Nat)}
end
section
variable {X : Cx} {G : Gx} {N' : List Str} {sc : Scope} {cl : List (Str × Addr)} {cap : List (Option Nat)} {el tg src tst : Expr} {at' p pos' : Pos} {Cs Ct Cb : En → Prop} {pt : En → Prop} [∀ ρ, Decidable (pt ρ)] {gn : En → Int} {gi : En → Int}
end
end L3

/-! ### short words for what the readings say often -/
namespace L3
open PySem PySem.Spec PyProof.Rows L2
theorem ncl : ¬ (some NameKind.cell : Option NameKind) = some NameKind.local := nofun
theorem scm {N ps : List Str} {sc : Scope} (a : sc.kind = .function := by rfl) (b : sc.isCoroutine = false := by rfl) (c : sc.isGenerator = false := by rfl) (d : N.Nodup := by decide +kernel) (e : N.take ps.length = ps := by rfl) (f : ∀ x ∈ ps, sc.names.lookup x = some .local ∨ sc.names.lookup x = some .cell := by decide +kernel) (g : ∀ y ∈ sc.names, y.2 ≠ .free := by decide +kernel) : FnScope N ps sc := ⟨a, b, c, d, e, f, g⟩
theorem pg_n (i : Nat) {X : Cx} {x : Str} {pos : Pos} (hN : X.N.Nodup := by (dsimp only [cxComp]; decide +kernel)) (hi : X.N[i]? = some x := by rfl) (hx : Loc X.env.scope x := by exact Or.inl rfl) (hf : X.fn x = true ∨ X.env.scope.names.lookup x = some .local := by exact .inr rfl) : PG X (.Name x pos) (gName i) := pg_name hN hi hx hf
end L3

/-! ### sorting more than 63 things: the order, and merging -/
namespace TM
open PySem PyProof.Rows
section
variable {α : Type} {D : α → Prop} {lt : α → α → Bool}
/-- an order, by what is asked of two things; some may be alike -/
structure Od (D : α → Prop) (lt : α → α → Bool) : Prop where
  asy : ∀ x y, D x → D y → lt x y = true → lt y x = false
  tr : ∀ x y z, D x → D y → D z → lt y x = false → lt z y = false → lt z x = false
theorem Od.flip (O : Od D lt) : Od D fun x y => lt y x := ⟨fun x y a b h => O.asy y x b a h, fun x y z a b c h k => O.tr z y x c b a k h⟩
theorem Od.rfl (O : Od D lt) {x : α} (h : D x) : lt x x = false := by
  cases e : lt x x with
  | false => exact Eq.refl _
  | true =>
    have := O.asy x x h h e
    rw [e] at this
    cases this
/-- in order -/
noncomputable def So (lt : α → α → Bool) (l : List α) : Prop := l.Pairwise fun x y => lt y x = false
theorem So.rev {l : List α} (h : So lt l) : So (fun x y => lt y x) l.reverse := List.pairwise_reverse.mpr h
theorem So.unrev {l : List α} (h : So (fun x y => lt y x) l.reverse) : So lt l := List.pairwise_reverse.mp h
theorem So.app {a b : List α} : So lt (a ++ b) ↔ So lt a ∧ So lt b ∧ ∀ x ∈ a, ∀ y ∈ b, lt y x = false := List.pairwise_append
/-- two runs being merged -/
structure Mg (lt : α → α → Bool) (t out ra rb : List α) : Prop where
  perm : (out ++ ra ++ rb).Perm t
  s1 : So lt (out ++ ra)
  s2 : So lt (out ++ rb)
  ne : ra ≠ []
  last : ∀ z, ra.getLast? = some z → ∀ y ∈ rb, lt y z = true ∧ lt z y = false
theorem Mg.takeB {t out ra ys rb : List α} (h : Mg lt t out ra (ys ++ rb)) (hy : ∀ y ∈ ys, ∀ x ∈ ra, lt x y = false) : Mg lt t (out ++ ys) ra rb := by
  obtain ⟨p, s1, s2, ne, la⟩ := h
  obtain ⟨a1, a2, a3⟩ := So.app.mp s1
  obtain ⟨b1, b2, b3⟩ := So.app.mp s2
  obtain ⟨c1, c2, c3⟩ := So.app.mp b2
  refine ⟨?_, So.app.mpr ⟨So.app.mpr ⟨a1, c1, fun x hx y hy => b3 x hx y (List.mem_append_left _ hy)⟩, a2, fun x hx y hy' => ?_⟩, ?_, ne, fun z hz y hy => la z hz y (List.mem_append_right _ hy)⟩
  · refine List.Perm.trans ?_ p
    rw [List.append_assoc, List.append_assoc, List.append_assoc]
    refine List.Perm.append_left _ ?_
    rw [← List.append_assoc, ← List.append_assoc]
    exact List.Perm.append_right _ List.perm_append_comm
  · rcases List.mem_append.mp hx with hx | hx
    · exact a3 x hx y hy'
    · exact hy x hx y hy'
  · rw [List.append_assoc]; exact s2
theorem Mg.takeA {t out xs ra rb : List α} (h : Mg lt t out (xs ++ ra) rb) (hn : ra ≠ []) (hx : ∀ x ∈ xs, ∀ y ∈ rb, lt y x = false) : Mg lt t (out ++ xs) ra rb := by
  obtain ⟨p, s1, s2, ne, la⟩ := h
  obtain ⟨a1, a2, a3⟩ := So.app.mp s1
  obtain ⟨b1, b2, b3⟩ := So.app.mp s2
  obtain ⟨c1, c2, c3⟩ := So.app.mp a2
  refine ⟨by rw [← List.append_assoc] at p; exact p, by rw [← List.append_assoc] at s1; exact s1, So.app.mpr ⟨So.app.mpr ⟨a1, c1, fun x hx y hy => a3 x hx y (List.mem_append_left _ hy)⟩, b2, fun x hx' y hy => ?_⟩, hn, fun z hz y hy => la z ?_ y hy⟩
  · rcases List.mem_append.mp hx' with h | h
    · exact b3 x h y hy
    · exact hx x h y hy
  · rw [List.getLast?_append, hz]; exact rfl
theorem Mg.done {t out ra : List α} (h : Mg lt t out ra []) : So lt (out ++ ra) ∧ (out ++ ra).Perm t := ⟨h.s1, by have := h.perm; rw [List.append_nil] at this; exact this⟩
theorem Mg.lastA {t out rb : List α} {x : α} (h : Mg lt t out [x] rb) : So lt (out ++ rb ++ [x]) ∧ (out ++ rb ++ [x]).Perm t := by
  refine ⟨So.app.mpr ⟨h.s2, List.pairwise_singleton _ _, fun a ha y hy => ?_⟩, ?_⟩
  · rw [List.mem_singleton.mp hy]
    rcases List.mem_append.mp ha with ha | ha
    · exact (So.app.mp h.s1).2.2 a ha x List.mem_cons_self
    · exact (h.last x (Eq.refl _) a ha).2
  · refine List.Perm.trans ?_ h.perm
    rw [List.append_assoc, List.append_assoc]
    exact List.Perm.append_left _ List.perm_append_comm
/-- what is at most the head of what is in order is at most all of it -/
theorem head_all (O : Od D lt) {x y : α} {r : List α} (h : So lt (x :: r)) (hd : ∀ z ∈ x :: r, D z) (hy : D y) (k : lt x y = false) : ∀ z ∈ x :: r, lt z y = false := fun z hz => by
  rcases List.mem_cons.mp hz with rfl | hz'
  · exact k
  · exact O.tr y x z hy (hd x List.mem_cons_self) (hd z hz) k ((List.pairwise_cons.mp h).1 z hz')
end
end TM

namespace TM
open PySem PyProof.Rows
noncomputable def gallop' : Bool → Keyed → Array Keyed → Nat → Nat → Nat → StateT SortSt Sem (Option Nat) := sortPriv% PySem.Builtin.gallop
section
variable {M : Model} {A : Around} {E : Value → Shared → Prop} {s : Shared} {κ : SortKind} {D : Keyed → Prop} {lt : Keyed → Keyed → Bool}
/-- things are compared, and nothing else happens -/
structure Cp (M : Model) (A : Around) (E : Value → Shared → Prop) (s : Shared) (κ : SortKind) (D : Keyed → Prop) (lt : Keyed → Keyed → Bool) : Prop where
  od : Od D lt
  run : ∀ {x y : Keyed} {st : SortSt} {Q : Option Bool → SortSt → Prop}, D x → D y → kindOf st = κ → Q (some (lt x y)) st → wpS M A E s (lt' x y) Q st
theorem elem_ok {arr : Array Keyed} {i : Nat} {x : Keyed} {st : SortSt} {Q : Keyed → SortSt → Prop} (h : arr[i]? = some x) (q : Q x st) : wpS M A E s (elem' arr i) Q st := by
  rw [elem'_eq, h]
  exact wpS_pure q
noncomputable def byd (lt : Keyed → Keyed → Bool) (left : Bool) (key x : Keyed) : Bool := if left = true then lt x key else !lt key x
theorem beyond_ok {arr : Array Keyed} {i : Nat} {x key : Keyed} {left : Bool} {st : SortSt} {Q : Option Bool → SortSt → Prop} (C : Cp M A E s κ D lt) (h : arr[i]? = some x) (hx : D x) (hk : D key) (ks : kindOf st = κ) (q : Q (some (byd lt left key x)) st) :
    wpS M A E s (elem' arr i >>= fun x => if left = true then lt' x key else lt' key x >>= fun r => pure (Option.map (fun x => !x) r)) Q st := by
  refine wpS_bind (elem_ok h ?_)
  unfold byd at q
  cases left with
  | true =>
    rw [if_pos rfl] at q ⊢
    exact C.run hx hk ks q
  | false =>
    rw [if_neg (by decide)] at q ⊢
    exact wpS_bind (C.run hk hx ks (wpS_pure q))
theorem gallop_ok {left : Bool} {key : Keyed} {arr : Array Keyed} {base n hint : Nat} {st : SortSt} {Q : Option Nat → SortSt → Prop} (C : Cp M A E s κ D lt) (hn : hint < n) (b : Nat → Keyed) (hb : ∀ i, i < n → arr[base + i]? = some (b i) ∧ D (b i)) (hs : ∀ i j, i < j → j < n → lt (b j) (b i) = false) (hk : D key) (ks : kindOf st = κ)
    (h : ∀ k, k ≤ n → (∀ i, i < k → byd lt left key (b i) = true) → (∀ i, k ≤ i → i < n → byd lt left key (b i) = false) → Q (some k) st) : wpS M A E s (gallop' left key arr base n hint) Q st := by
  have mono : ∀ i j, i ≤ j → j < n → byd lt left key (b j) = true → byd lt left key (b i) = true := fun i j hij hj => by
    rcases Nat.lt_or_eq_of_le hij with hij | rfl
    · unfold byd
      have o := hs i j hij hj
      have di := (hb i (by omega)).2
      have dj := (hb j hj).2
      cases left with
      | true =>
        rw [if_pos rfl, if_pos rfl]
        intro z
        cases e : lt (b i) key with
        | true => rfl
        | false =>
          have := C.od.tr key (b i) (b j) hk di dj e o
          rw [z] at this
          cases this
      | false =>
        rw [if_neg (by decide), if_neg (by decide)]
        intro z
        have z : lt key (b j) = false := by
          cases e : lt key (b j) with
          | true => rw [e] at z; cases z
          | false => rfl
        rw [C.od.tr (b i) (b j) key di dj hk o z]
        rfl
    · exact id
  have monoF : ∀ i j, i ≤ j → j < n → byd lt left key (b i) = false → byd lt left key (b j) = false := fun i j hij hj z => by
    cases e : byd lt left key (b j) with
    | false => rfl
    | true =>
      have := mono i j hij hj e
      rw [z] at this
      cases this
  have bk : ∀ {i : Nat} {Q : Option Bool → SortSt → Prop}, i < n → Q (some (byd lt left key (b i))) st → wpS M A E s (elem' arr (base + i) >>= fun x => if left = true then lt' x key else lt' key x >>= fun r => pure (Option.map (fun x => !x) r)) Q st := fun hi q => beyond_ok C (hb _ hi).1 (hb _ hi).2 hk ks q
  have fin : ∀ lo hi, lo ≤ hi → hi ≤ n → (∀ i, i < lo → byd lt left key (b i) = true) → (∀ i, hi ≤ i → i < n → byd lt left key (b i) = false) → wpS M A E s (forIn [:n] ((none, lo, hi) : Option (Option Nat) × Nat × Nat) fun x t => if t.2.1 ≥ t.2.2 then pure (ForInStep.done (none, t.2.1, t.2.2)) else (elem' arr (base + (t.2.1 + (t.2.2 - t.2.1) / 2)) >>= fun x => if left = true then lt' x key else lt' key x >>= fun r => pure (Option.map (fun x => !x) r)) >>= fun r => match r with
      | some more => if more = true then pure (ForInStep.yield (none, t.2.1 + (t.2.2 - t.2.1) / 2 + 1, t.2.2)) else pure (ForInStep.yield (none, t.2.1, t.2.1 + (t.2.2 - t.2.1) / 2))
      | x => pure (ForInStep.done (some none, t.2.1, t.2.2))) (fun t st' => st' = st ∧ t.1 = none ∧ t.2.2 ≤ n ∧ (∀ i, i < t.2.2 → byd lt left key (b i) = true) ∧ ∀ i, t.2.2 ≤ i → i < n → byd lt left key (b i) = false) st := by
    intro lo hi h1 h2 h3 h4
    refine wpS_forRange (I := fun x t st' => st' = st ∧ t.1 = none ∧ t.2.1 ≤ t.2.2 ∧ t.2.2 ≤ n ∧ t.2.2 - t.2.1 ≤ n - x ∧ (∀ i, i < t.2.1 → byd lt left key (b i) = true) ∧ ∀ i, t.2.2 ≤ i → i < n → byd lt left key (b i) = false) ?_ ?_ ⟨rfl, rfl, h1, h2, by show hi - lo ≤ n - 0; omega, h3, h4⟩
    · rintro x ⟨r, lo, hi⟩ st' _ hx ⟨rfl, (rfl : r = none), h1, h2, h5, h3, h4⟩
      have h1 : lo ≤ hi := h1
      have h2 : hi ≤ n := h2
      have h5 : hi - lo ≤ n - x := h5
      dsimp only
      by_cases c : lo ≥ hi
      · rw [if_pos c]
        have e : lo = hi := by omega
        subst e
        exact wpS_pure ⟨rfl, rfl, h2, h3, h4⟩
      · rw [if_neg c]
        have hm : lo + (hi - lo) / 2 < hi := by omega
        refine wpS_bind (bk (by omega) ?_)
        cases e : byd lt left key (b (lo + (hi - lo) / 2)) with
        | true =>
          dsimp only
          rw [if_pos rfl]
          refine wpS_pure ⟨rfl, rfl, by show lo + (hi - lo) / 2 + 1 ≤ hi; omega, h2, by show hi - (lo + (hi - lo) / 2 + 1) ≤ n - (x + 1); omega, fun i hi' => ?_, h4⟩
          have hi' : i < lo + (hi - lo) / 2 + 1 := hi'
          exact mono i _ (by omega) (by omega) e
        | false =>
          dsimp only
          rw [if_neg (by decide)]
          refine wpS_pure ⟨rfl, rfl, by show lo ≤ lo + (hi - lo) / 2; omega, by show lo + (hi - lo) / 2 ≤ n; omega, by show lo + (hi - lo) / 2 - lo ≤ n - (x + 1); omega, h3, fun i hi' hi2 => ?_⟩
          exact monoF _ i hi' hi2 e
    · rintro ⟨r, lo, hi⟩ st' ⟨rfl, (rfl : r = none), h1, h2, h5, h3, h4⟩
      have h1 : lo ≤ hi := h1
      have h5 : hi - lo ≤ n - max 0 n := h5
      have e : lo = hi := by omega
      subst e
      exact ⟨rfl, rfl, h2, h3, h4⟩
  refine wpS_bind (bk hn ?_)
  cases e : byd lt left key (b hint) with
  | true =>
    dsimp only
    rw [if_pos rfl]
    refine wpS_bind (wpS_mono (wpS_forRange (I := fun x t st' => st' = st ∧ t.1 = none ∧ hint + t.2.1 < n ∧ x + 1 ≤ t.2.2 ∧ t.2.1 < t.2.2 ∧ byd lt left key (b (hint + t.2.1)) = true) (Q := fun t st' => st' = st ∧ t.1 = none ∧ hint + t.2.1 < n ∧ t.2.1 < t.2.2 ∧ byd lt left key (b (hint + t.2.1)) = true ∧ (t.2.2 < n - hint → byd lt left key (b (hint + t.2.2)) = false)) ?_ ?_ ⟨rfl, rfl, hn, Nat.le_refl _, Nat.zero_lt_one, by exact e⟩) ?_)
    · rintro x ⟨r, la, of⟩ st' _ hx ⟨rfl, (rfl : r = none), h1, h2, h3, h4⟩
      have h1 : hint + la < n := h1
      have h2 : x + 1 ≤ of := h2
      have h3 : la < of := h3
      dsimp only
      by_cases c : of ≥ n - hint
      · rw [if_pos c]
        exact wpS_pure ⟨rfl, rfl, h1, h3, h4, fun z => by have z : of < n - hint := z; omega⟩
      · rw [if_neg c]
        refine wpS_bind (bk (by omega) ?_)
        cases e2 : byd lt left key (b (hint + of)) with
        | true =>
          exact wpS_pure ⟨rfl, rfl, by show hint + of < n; omega, by show x + 1 + 1 ≤ 2 * of + 1; omega, by show of < 2 * of + 1; omega, e2⟩
        | false =>
          exact wpS_pure ⟨rfl, rfl, h1, h3, h4, fun _ => e2⟩
    · rintro ⟨r, la, of⟩ st' ⟨rfl, (rfl : r = none), h1, h2, h3, h4⟩
      have h2 : max 0 n + 1 ≤ of := h2
      exact ⟨rfl, rfl, h1, h3, h4, fun z => by have z : of < n - hint := z; omega⟩
    · rintro ⟨r, la, of⟩ st' ⟨rfl, (rfl : r = none), h1, h3, h4, h5⟩
      have h1 : hint + la < n := h1
      have h3 : la < of := h3
      have h5 : of < n - hint → byd lt left key (b (hint + of)) = false := h5
      dsimp only
      have hm : (min of (n - hint) = of ∧ of ≤ n - hint) ∨ (min of (n - hint) = n - hint ∧ n - hint ≤ of) := (Nat.le_total of (n - hint)).imp (fun c => ⟨Nat.min_eq_left c, c⟩) fun c => ⟨Nat.min_eq_right c, c⟩
      generalize min of (n - hint) = m at hm
      refine wpS_bind (wpS_mono (fin (hint + la + 1) (hint + m) (by omega) (by omega) (fun i hi => mono i (hint + la) (by omega) h1 h4) fun i hi hi2 => monoF (hint + of) i (by omega) hi2 (h5 (by omega))) ?_)
      rintro ⟨r, lo, hi⟩ st' ⟨rfl, (rfl : r = none), h2, h3, h4⟩
      exact wpS_pure (h hi h2 h3 h4)
  | false =>
    dsimp only
    rw [if_neg (by decide)]
    refine wpS_bind (wpS_mono (wpS_forRange (I := fun x t st' => st' = st ∧ t.1 = none ∧ t.2.1 ≤ hint ∧ x + 1 ≤ t.2.2 ∧ t.2.1 < t.2.2 ∧ byd lt left key (b (hint - t.2.1)) = false) (Q := fun t st' => st' = st ∧ t.1 = none ∧ t.2.1 ≤ hint ∧ t.2.1 < t.2.2 ∧ byd lt left key (b (hint - t.2.1)) = false ∧ (t.2.2 < hint + 1 → byd lt left key (b (hint - t.2.2)) = true)) ?_ ?_ ⟨rfl, rfl, Nat.zero_le _, Nat.le_refl _, Nat.zero_lt_one, by exact e⟩) ?_)
    · rintro x ⟨r, la, of⟩ st' _ hx ⟨rfl, (rfl : r = none), h1, h2, h3, h4⟩
      have h1 : la ≤ hint := h1
      have h2 : x + 1 ≤ of := h2
      have h3 : la < of := h3
      dsimp only
      by_cases c : of ≥ hint + 1
      · rw [if_pos c]
        exact wpS_pure ⟨rfl, rfl, h1, h3, h4, fun z => by have z : of < hint + 1 := z; omega⟩
      · rw [if_neg c]
        refine wpS_bind (bk (by omega) ?_)
        cases e2 : byd lt left key (b (hint - of)) with
        | false =>
          exact wpS_pure ⟨rfl, rfl, by show of ≤ hint; omega, by show x + 1 + 1 ≤ 2 * of + 1; omega, by show of < 2 * of + 1; omega, e2⟩
        | true =>
          exact wpS_pure ⟨rfl, rfl, h1, h3, h4, fun _ => e2⟩
    · rintro ⟨r, la, of⟩ st' ⟨rfl, (rfl : r = none), h1, h2, h3, h4⟩
      have h2 : max 0 n + 1 ≤ of := h2
      exact ⟨rfl, rfl, h1, h3, h4, fun z => by have z : of < hint + 1 := z; omega⟩
    · rintro ⟨r, la, of⟩ st' ⟨rfl, (rfl : r = none), h1, h3, h4, h5⟩
      have h1 : la ≤ hint := h1
      have h3 : la < of := h3
      have h5 : of < hint + 1 → byd lt left key (b (hint - of)) = true := h5
      dsimp only
      have hm : (min of (hint + 1) = of ∧ of ≤ hint + 1) ∨ (min of (hint + 1) = hint + 1 ∧ hint + 1 ≤ of) := (Nat.le_total of (hint + 1)).imp (fun c => ⟨Nat.min_eq_left c, c⟩) fun c => ⟨Nat.min_eq_right c, c⟩
      generalize min of (hint + 1) = m at hm
      refine wpS_bind (wpS_mono (fin (hint + 1 - m) (hint - la) (by omega) (by omega) (fun i hi => mono i (hint - of) (by omega) (by omega) (h5 (by omega))) fun i hi hi2 => monoF (hint - la) i (by omega) hi2 h4) ?_)
      rintro ⟨r, lo, hi⟩ st' ⟨rfl, (rfl : r = none), h2, h3, h4⟩
      exact wpS_pure (h hi h2 h3 h4)
end
end TM

namespace TM
open PySem PyProof.Rows
noncomputable def mergeLo' : Array Keyed → Array Keyed → StateT SortSt Sem (Array Keyed) := sortPriv% PySem.Builtin.mergeLo
section
variable {M : Model} {A : Around} {E : Value → Shared → Prop} {s : Shared} {κ : SortKind} {D : Keyed → Prop} {lt : Keyed → Keyed → Bool}
/-- alike but for how it gallops -/
noncomputable def SG (st st' : SortSt) : Prop := kindOf st' = kindOf st ∧ arrOf st' = arrOf st ∧ pendingOf st' = pendingOf st ∧ failedOf st' = failedOf st
theorem SG.refl (st : SortSt) : SG st st := ⟨rfl, rfl, rfl, rfl⟩
theorem jp1 {σ α γ : Type} {J : α → StateT σ Sem γ} {X : StateT σ Sem γ} {Q : γ → σ → Prop} {st : σ} (P : α → Prop) (hX : (∀ o, P o → wpS M A E s (J o) Q st) → wpS M A E s X Q st) (hJ : ∀ o, P o → wpS M A E s (J o) Q st) : wpS M A E s X Q st := hX hJ
theorem jp2 {σ α β γ : Type} {J : α → β → StateT σ Sem γ} {X : StateT σ Sem γ} {Q : γ → σ → Prop} {st : σ} (P : α → β → Prop) (hX : (∀ o i, P o i → wpS M A E s (J o i) Q st) → wpS M A E s X Q st) (hJ : ∀ o i, P o i → wpS M A E s (J o i) Q st) : wpS M A E s X Q st := hX hJ
theorem gal_list {left : Bool} {key : Keyed} {arr : Array Keyed} {base n hint : Nat} {st : SortSt} {Q : Option Nat → SortSt → Prop} {l : List Keyed} (C : Cp M A E s κ D lt) (hn : hint < n) (hl : l.length = n) (ha : ∀ i, i < n → arr[base + i]? = l[i]?) (hD : ∀ x ∈ l, D x) (hs : So lt l) (hk : D key) (ks : kindOf st = κ)
    (h : ∀ p q, l = p ++ q → (∀ x ∈ p, byd lt left key x = true) → (∀ x ∈ q, byd lt left key x = false) → Q (some p.length) st) : wpS M A E s (gallop' left key arr base n hint) Q st := by
  have g : ∀ i, i < n → ∃ hi : i < l.length, l.getD i key = l[i] := fun i hi => ⟨by omega, by rw [List.getD_eq_getElem?_getD, List.getElem?_eq_getElem (by omega)]; rfl⟩
  refine gallop_ok C hn (fun i => l.getD i key) (fun i hi => ?_) (fun i j hij hj => ?_) hk ks fun k hk h1 h2 => ?_
  · obtain ⟨hi', e⟩ := g i hi
    rw [ha i hi, List.getElem?_eq_getElem hi', e]
    exact ⟨rfl, hD _ (List.getElem_mem _)⟩
  · obtain ⟨hi', e⟩ := g i (by omega)
    obtain ⟨hj', e'⟩ := g j hj
    rw [e, e']
    exact List.pairwise_iff_getElem.mp hs i j hi' hj' hij
  · have e : (l.take k).length = k := by rw [List.length_take]; omega
    have := h (l.take k) (l.drop k) (List.take_append_drop k l).symm (fun x hx => ?_) fun x hx => ?_
    · rw [e] at this
      exact this
    · obtain ⟨i, hi, rfl⟩ := List.mem_iff_getElem.mp hx
      rw [List.getElem_take]
      obtain ⟨hi', e⟩ := g i (by omega)
      rw [← e]
      exact h1 i (by omega)
    · obtain ⟨i, hi, rfl⟩ := List.mem_iff_getElem.mp hx
      rw [List.length_drop] at hi
      rw [List.getElem_drop]
      obtain ⟨hi', e⟩ := g (k + i) (by omega)
      rw [← e]
      exact h2 (k + i) (by omega) (by omega)
theorem dropA {a : Array Keyed} {i : Nat} (h : i < a.size) : ∃ x, a[i]? = some x ∧ a.toList.drop i = x :: a.toList.drop (i + 1) := by
  refine ⟨a[i], Array.getElem?_eq_getElem h, ?_⟩
  rw [List.drop_eq_getElem_cons (by rw [Array.length_toList]; exact h)]
  rfl
theorem dropN {a : Array Keyed} {i : Nat} (h : a.size ≤ i) : a.toList.drop i = [] := List.drop_eq_nil_of_le (by rw [Array.length_toList]; exact h)
theorem extA {a : Array Keyed} {i : Nat} : (a.extract i).toList = a.toList.drop i := by
  rw [Array.toList_extract, List.extract_eq_take_drop]
  exact List.take_of_length_le (by rw [List.length_drop, Array.length_toList]; exact Nat.le_refl _)
theorem extK {a : Array Keyed} {i : Nat} {p q : List Keyed} (h : a.toList.drop i = p ++ q) : (a.extract i (i + p.length)).toList = p ∧ a.toList.drop (i + p.length) = q := by
  rw [Array.toList_extract, List.extract_eq_take_drop, h, show i + p.length - i = p.length by omega, List.take_left]
  refine ⟨rfl, ?_⟩
  rw [← List.drop_drop, h, List.drop_left]
theorem getA {a : Array Keyed} {i j : Nat} : a[i + j]? = (a.toList.drop i)[j]? := by
  rw [List.getElem?_drop, Array.getElem?_toList]
/-- what stands in the loops of a merge -/
structure Il (lt : Keyed → Keyed → Bool) (st : SortSt) (a b : Array Keyed) (t : List Keyed) (out : Array Keyed) (ia ib : Nat) (st' : SortSt) : Prop where
  sg : SG st st'
  mg : Mg lt t out.toList (a.toList.drop ia) (b.toList.drop ib)
  ha : ia + 1 < a.size
  hb : ib < b.size
noncomputable def Pl (lt : Keyed → Keyed → Bool) (st : SortSt) (t : List Keyed) (r : Array Keyed) (st' : SortSt) : Prop := SG st st' ∧ So lt r.toList ∧ r.toList.Perm t
theorem doneL {st st' : SortSt} {a b out : Array Keyed} {t : List Keyed} {ia ib : Nat} (sg : SG st st') (m : Mg lt t out.toList (a.toList.drop ia) (b.toList.drop ib)) (h : b.size ≤ ib) : Pl lt st t (out ++ a.extract ia ++ b.extract ib) st' := by
  rw [dropN h] at m
  have e : (out ++ a.extract ia ++ b.extract ib).toList = out.toList ++ a.toList.drop ia := by
    rw [Array.toList_append, Array.toList_append, extA, extA, dropN h, List.append_nil]
  exact ⟨sg, by rw [e]; exact m.done.1, by rw [e]; exact m.done.2⟩
theorem lastL {st st' : SortSt} {a b out : Array Keyed} {t : List Keyed} {ia ib : Nat} (sg : SG st st') (m : Mg lt t out.toList (a.toList.drop ia) (b.toList.drop ib)) (h : ia + 1 = a.size) : Pl lt st t (out ++ b.extract ib ++ a.extract ia) st' := by
  obtain ⟨x, _, e1⟩ := dropA (a := a) (i := ia) (by omega)
  rw [dropN (i := ia + 1) (by omega)] at e1
  rw [e1] at m
  have e : (out ++ b.extract ib ++ a.extract ia).toList = out.toList ++ b.toList.drop ib ++ [x] := by
    rw [Array.toList_append, Array.toList_append, extA, extA, e1]
  exact ⟨sg, by rw [e]; exact m.lastA.1, by rw [e]; exact m.lastA.2⟩
theorem Mg.dom {α : Type} {lt : α → α → Bool} {D : α → Prop} {t out ra rb : List α} (m : Mg lt t out ra rb) (h : ∀ x ∈ t, D x) : (∀ x ∈ ra, D x) ∧ ∀ x ∈ rb, D x :=
  ⟨fun x hx => h x (m.perm.mem_iff.mp (List.mem_append_left _ (List.mem_append_right _ hx))), fun x hx => h x (m.perm.mem_iff.mp (List.mem_append_right _ hx))⟩
theorem mergeLo_ok {a b : Array Keyed} {st : SortSt} {t : List Keyed} {Q : Array Keyed → SortSt → Prop} (C : Cp M A E s κ D lt) (ks : kindOf st = κ) (hD : ∀ x ∈ t, D x) (h2 : 0 < b.size) (m0 : Mg lt t [] a.toList b.toList) (hf : ∀ y, b[0]? = some y → ∀ x ∈ a.toList, lt x y = false)
    (h : ∀ r st', Pl lt st t r st' → Q r st') : wpS M A E s (mergeLo' a b) Q st := by
  obtain ⟨y0, g0, e0⟩ := dropA (a := b) (i := 0) h2
  have ha : 0 < a.size := by
    have := List.length_pos_iff.mpr m0.ne
    rw [Array.length_toList] at this
    exact this
  have m1 : Mg lt t (#[y0] : Array Keyed).toList (a.toList.drop 0) (b.toList.drop 1) := by
    rw [List.drop_zero] at e0 ⊢
    rw [e0] at m0
    exact m0.takeB (ys := [y0]) (fun y hy x hx => by rw [List.mem_singleton.mp hy]; exact hf y0 g0 x hx)
  refine wpS_bind (wpS_lift (wpAny_rule ⟨rfl, ?_⟩))
  refine wpS_bind (elem_ok g0 ?_)
  dsimp only
  by_cases c1 : (1 == b.size) = true
  · rw [if_pos c1]
    have c1 := eq_of_beq c1
    exact wpS_pure (h _ _ (doneL (SG.refl st) m1 (by omega)))
  rw [if_neg c1]
  have c1 : 1 < b.size := by
    rcases Nat.lt_or_eq_of_le h2 with z | z
    · exact z
    · exact absurd (beq_iff_eq.mpr z) c1
  by_cases c2 : (0 + 1 == a.size) = true
  · rw [if_pos c2]
    have c2 := eq_of_beq c2
    exact wpS_pure (h _ _ (lastL (SG.refl st) m1 c2))
  rw [if_neg c2]
  have c2 : 0 + 1 < a.size := by
    rcases Nat.lt_or_eq_of_le ha with z | z
    · exact z
    · exact absurd (beq_iff_eq.mpr z) c2
  refine wpS_bind (wpS_get ?_)
  have stepI : ∀ {out : Array Keyed} {ia ib : Nat} {st' : SortSt}, Il lt st a b t out ia ib st' → ia + ib + 1 < a.size + b.size := fun i => by have := i.ha; have := i.hb; omega
  refine wpS_bind (wpS_mono (wpS_forRange (I := fun x c st' => c.1 = none ∧ Il lt st a b t c.2.1 c.2.2.1 c.2.2.2.1 st' ∧ 1 + x ≤ c.2.2.1 + c.2.2.2.1) (Q := fun c st' => ∃ r, c.1 = some r ∧ Pl lt st t r st') ?_ ?_ ⟨rfl, ⟨SG.refl st, m1, c2, c1⟩, Nat.le_refl _⟩) ?_)
  rotate_left
  · rintro ⟨r, out, ia, ib, g⟩ st' ⟨_, i, hx⟩
    have := stepI i
    have hx : 1 + max 0 (a.size + b.size) ≤ ia + ib := hx
    omega
  · rintro ⟨r, out, ia, ib, g⟩ st' ⟨r', (rfl : r = some r'), p⟩
    exact wpS_pure (h _ _ p)
  rintro x ⟨r, out, ia, ib, g⟩ st' _ hx ⟨(rfl : r = none), i, hc⟩
  have i : Il lt st a b t out ia ib st' := i
  have hc : 1 + x ≤ ia + ib := hc
  dsimp only
  refine wpS_bind (wpS_mono (wpS_forRange (I := fun x c st' => c.1 = none ∧ Il lt st a b t c.2.1 c.2.2.1 c.2.2.2.1 st' ∧ ia + ib + x ≤ c.2.2.1 + c.2.2.2.1) (Q := fun c st' => (∃ r, c.1 = some r ∧ Pl lt st t r st') ∨ (c.1 = none ∧ Il lt st a b t c.2.1 c.2.2.1 c.2.2.2.1 st' ∧ ia + ib + 1 ≤ c.2.2.1 + c.2.2.2.1)) ?_ ?_ ⟨rfl, i, Nat.le_refl _⟩) ?_)
  rotate_left
  · rintro ⟨r, out, ja, jb, g⟩ st' ⟨_, i, hx⟩
    have := stepI i
    have hx : ia + ib + max 0 (a.size + b.size) ≤ ja + jb := hx
    omega
  rotate_left
  · rintro y ⟨r, out, ja, jb, ac, bc⟩ st2 _ hy ⟨(rfl : r = none), i, hy2⟩
    have i : Il lt st a b t out ja jb st2 := i
    have hy2 : ia + ib + y ≤ ja + jb := hy2
    have hja := i.ha
    have hjb := i.hb
    obtain ⟨xa, ga, ea⟩ := dropA (a := a) (i := ja) (by omega)
    obtain ⟨xb, gb, eb⟩ := dropA (a := b) (i := jb) (by omega)
    have m := i.mg
    rw [ea, eb] at m
    obtain ⟨da, db⟩ := m.dom hD
    have dxa := da xa List.mem_cons_self
    have dxb := db xb List.mem_cons_self
    have sA : So lt (xa :: a.toList.drop (ja + 1)) := (So.app.mp m.s1).2.1
    have sB : So lt (xb :: b.toList.drop (jb + 1)) := (So.app.mp m.s2).2.1
    dsimp only
    refine wpS_bind (elem_ok gb (wpS_bind (elem_ok ga (wpS_bind (C.run dxb dxa (i.sg.1.trans ks) ?_)))))
    cases e : lt xb xa with
    | true =>
      dsimp only
      rw [if_pos rfl]
      refine wpS_bind (elem_ok gb ?_)
      have m' : Mg lt t (out.push xb).toList (a.toList.drop ja) (b.toList.drop (jb + 1)) := by
        rw [Array.toList_push, ea]
        exact m.takeB (ys := [xb]) (fun y hy => by rw [List.mem_singleton.mp hy]; exact head_all C.od sA da dxb (C.od.asy _ _ dxb dxa e))
      by_cases c : (jb + 1 == b.size) = true
      · rw [if_pos c]
        exact wpS_pure (.inl ⟨_, rfl, doneL i.sg m' (Nat.le_of_eq (eq_of_beq c).symm)⟩)
      · rw [if_neg c]
        have c : jb + 1 < b.size := by
          rcases Nat.lt_or_eq_of_le hjb with z | z
          · exact z
          · exact absurd (beq_iff_eq.mpr z) c
        by_cases d : bc + 1 ≥ g
        · rw [if_pos d]
          exact wpS_pure (.inr ⟨rfl, ⟨i.sg, m', hja, c⟩, by show ia + ib + 1 ≤ ja + (jb + 1); omega⟩)
        · rw [if_neg d]
          exact wpS_pure ⟨rfl, ⟨i.sg, m', hja, c⟩, by show ia + ib + (y + 1) ≤ ja + (jb + 1); omega⟩
    | false =>
      dsimp only
      rw [if_neg (by decide)]
      refine wpS_bind (elem_ok ga ?_)
      have m' : Mg lt t (out.push xa).toList (a.toList.drop (ja + 1)) (b.toList.drop jb) := by
        rw [Array.toList_push, eb]
        refine m.takeA (xs := [xa]) (fun z => ?_) (fun y hy => by rw [List.mem_singleton.mp hy]; exact head_all C.od sB db dxa e)
        have := congrArg List.length z
        rw [List.length_drop, Array.length_toList] at this
        have : a.size - (ja + 1) = 0 := this
        omega
      by_cases c : (ja + 1 + 1 == a.size) = true
      · rw [if_pos c]
        exact wpS_pure (.inl ⟨_, rfl, lastL i.sg m' (eq_of_beq c)⟩)
      · rw [if_neg c]
        have c : ja + 1 + 1 < a.size := by
          rcases Nat.lt_or_eq_of_le hja with z | z
          · exact z
          · exact absurd (beq_iff_eq.mpr z) c
        by_cases d : ac + 1 ≥ g
        · rw [if_pos d]
          exact wpS_pure (.inr ⟨rfl, ⟨i.sg, m', c, hjb⟩, by show ia + ib + 1 ≤ ja + 1 + jb; omega⟩)
        · rw [if_neg d]
          exact wpS_pure ⟨rfl, ⟨i.sg, m', c, hjb⟩, by show ia + ib + (y + 1) ≤ ja + 1 + jb; omega⟩
  rintro ⟨r, out, ja, jb, ac, bc⟩ st2 (⟨r', (rfl : r = some r'), p⟩ | ⟨(rfl : r = none), i, hc2⟩)
  · exact wpS_pure ⟨r', rfl, p⟩
  have i : Il lt st a b t out ja jb st2 := i
  have hc2 : ia + ib + 1 ≤ ja + jb := hc2
  dsimp only
  refine wpS_bind (wpS_lift (wpAny_rule ⟨rfl, ?_⟩))
  refine wpS_bind (wpS_mono (wpS_forRange (I := fun x c st' => c.1 = none ∧ Il lt st a b t c.2.1 c.2.2.1 c.2.2.2.1 st' ∧ ja + jb + x ≤ c.2.2.1 + c.2.2.2.1) (Q := fun c st' => (∃ r, c.1 = some r ∧ Pl lt st t r st') ∨ (c.1 = none ∧ Il lt st a b t c.2.1 c.2.2.1 c.2.2.2.1 st' ∧ ja + jb ≤ c.2.2.1 + c.2.2.2.1)) ?_ ?_ ⟨rfl, i, Nat.le_refl _⟩) ?_)
  rotate_left
  · rintro ⟨r, out, ka, kb, g, ac, bc⟩ st' ⟨_, i, hx⟩
    have := stepI i
    have hx : ja + jb + max 0 (a.size + b.size) ≤ ka + kb := hx
    omega
  · rintro ⟨r, out, ka, kb, g, ac, bc⟩ st' (⟨r', (rfl : r = some r'), p⟩ | ⟨(rfl : r = none), i, hc3⟩)
    · exact wpS_pure ⟨r', rfl, p⟩
    have i : Il lt st a b t out ka kb st' := i
    have hc3 : ja + jb ≤ ka + kb := hc3
    dsimp only
    refine wpS_bind (wpS_modify ?_)
    exact wpS_pure ⟨rfl, ⟨i.sg, i.mg, i.ha, i.hb⟩, by show 1 + (x + 1) ≤ ka + kb; omega⟩
  clear i hc2
  rintro y ⟨r, out, ka, kb, g, ac, bc⟩ st2 _ hy ⟨(rfl : r = none), i, hy2⟩
  have i : Il lt st a b t out ka kb st2 := i
  have hy2 : ja + jb + y ≤ ka + kb := hy2
  dsimp only
  refine jp1 (α := Nat) (J := ?J1) (fun _ => True) (fun hJ => ?_) ?_
  rotate_left
  · by_cases d : g > 1
    · rw [if_pos d]
      generalize g - 1 = g'
      exact hJ g' True.intro
    · rw [if_neg d]
      exact hJ g True.intro
  rintro g -
  refine wpS_bind (wpS_modify ?_)
  have hja := i.ha
  have hjb := i.hb
  obtain ⟨xb, gb, eb⟩ := dropA (a := b) (i := kb) (by omega)
  have m := i.mg
  have sg := i.sg
  rw [eb] at m
  obtain ⟨da, db⟩ := m.dom hD
  have dxb := db xb List.mem_cons_self
  have sA := (So.app.mp m.s1).2.1
  have sB := (So.app.mp m.s2).2.1
  clear i
  refine wpS_bind (elem_ok gb (wpS_bind (gal_list (l := a.toList.drop ka) C (by omega) (by rw [List.length_drop, Array.length_toList]) (fun _ _ => getA) da sA dxb (sg.1.trans ks) fun p q epq hp hq => ?_)))
  have lpq := congrArg List.length epq
  rw [List.length_drop, Array.length_toList, List.length_append] at lpq
  rw [epq] at m
  obtain ⟨ex1, ex2⟩ := extK epq
  have hp : ∀ x ∈ p, lt xb x = false := fun x hx => by
    have := hp x hx
    unfold byd at this
    rw [if_neg (by decide)] at this
    cases e : lt xb x with
    | false => rfl
    | true => rw [e] at this; cases this
  have hq : ∀ x ∈ q, lt x xb = false := fun x hx => by
    have := hq x hx
    unfold byd at this
    rw [if_neg (by decide)] at this
    refine C.od.asy _ _ dxb (da x (by rw [epq]; exact List.mem_append_right _ hx)) ?_
    cases e : lt xb x with
    | true => rfl
    | false => rw [e] at this; cases this
  have qn : q ≠ [] := fun z => by
    rw [z, List.append_nil] at m
    obtain ⟨w, ew⟩ : ∃ w, p.getLast? = some w := ⟨_, List.getLast?_eq_some_getLast m.ne⟩
    have h1 := (m.last w ew xb List.mem_cons_self).1
    have h2 := hp w (List.mem_of_getLast? ew)
    rw [h1] at h2
    cases h2
  have q1 := List.length_pos_iff.mpr qn
  have m1 : Mg lt t (out.toList ++ p) q (xb :: b.toList.drop (kb + 1)) := m.takeA qn fun x hx => head_all C.od sB db (da x (by rw [epq]; exact List.mem_append_left _ hx)) (hp x hx)
  dsimp only
  obtain ⟨nx, hnx⟩ : ∃ nx, nx = ka + p.length := ⟨_, rfl⟩
  rw [← hnx] at ex2
  refine jp2 (α := Array Keyed) (β := Nat) (J := ?J2) (fun o i => o.toList = out.toList ++ p ∧ i = nx ∧ i + 1 < a.size) (fun hJ => ?_) ?_
  rotate_left
  · by_cases d : p.length > 0
    · rw [if_pos d]
      have hO : (out ++ a.extract ka (ka + p.length)).toList = out.toList ++ p := by rw [Array.toList_append, ex1]
      generalize out ++ a.extract ka (ka + p.length) = o1 at hO ⊢
      rw [← hnx]
      by_cases c : (nx + 1 == a.size) = true
      · rw [if_pos c]
        exact wpS_pure (.inl ⟨_, rfl, lastL (a := a) (b := b) ⟨sg.1, sg.2⟩ (by rw [hO, ex2, eb]; exact m1) (eq_of_beq c)⟩)
      · rw [if_neg c]
        have c : nx + 1 < a.size := by
          rcases Nat.lt_or_eq_of_le (show nx + 1 ≤ a.size by omega) with z | z
          · exact z
          · exact absurd (beq_iff_eq.mpr z) c
        rw [if_neg (fun z => by have := eq_of_beq z; omega)]
        obtain ⟨i1, hI⟩ : ∃ i1, i1 = nx := ⟨_, rfl⟩
        rw [← hI] at c ⊢
        exact hJ o1 i1 ⟨hO, hI, c⟩
    · rw [if_neg d]
      have p0 : p = [] := List.length_eq_zero_iff.mp (by omega)
      exact hJ out ka ⟨by rw [p0, List.append_nil], by omega, hja⟩
  rintro o1 i1 ⟨hO, hI, hi1⟩
  rw [← hI] at ex2
  have m2 : Mg lt t (o1.push xb).toList q (b.toList.drop (kb + 1)) := by
    rw [Array.toList_push, hO]
    exact m1.takeB (ys := [xb]) fun y hy => by rw [List.mem_singleton.mp hy]; exact hq
  refine wpS_bind (elem_ok gb ?_)
  generalize o1.push xb = o2 at m2 ⊢
  by_cases c : (kb + 1 == b.size) = true
  · rw [if_pos c]
    exact wpS_pure (.inl ⟨_, rfl, doneL (a := a) (b := b) ⟨sg.1, sg.2⟩ (by rw [ex2]; exact m2) (Nat.le_of_eq (eq_of_beq c).symm)⟩)
  rw [if_neg c]
  have c : kb + 1 < b.size := by
    rcases Nat.lt_or_eq_of_le hjb with z | z
    · exact z
    · exact absurd (beq_iff_eq.mpr z) c
  obtain ⟨xa, ga, ea⟩ := dropA (a := a) (i := i1) (by omega)
  rw [ex2] at ea
  obtain ⟨da2, db2⟩ := m2.dom hD
  have dxa := da2 xa (by rw [ea]; exact List.mem_cons_self)
  have sA2 := (So.app.mp m2.s1).2.1
  have sB2 := (So.app.mp m2.s2).2.1
  refine wpS_bind (elem_ok ga (wpS_bind (gal_list (l := b.toList.drop (kb + 1)) C (by omega) (by rw [List.length_drop, Array.length_toList]) (fun _ _ => getA) db2 sB2 dxa (sg.1.trans ks) fun p2 q2 epq2 hp2 hq2 => ?_)))
  have lpq2 := congrArg List.length epq2
  rw [List.length_drop, Array.length_toList, List.length_append] at lpq2
  obtain ⟨ex3, ex4⟩ := extK epq2
  have hp2 : ∀ y ∈ p2, ∀ x ∈ q, lt x y = false := fun y hy => by
    have dy := db2 y (by rw [epq2]; exact List.mem_append_left _ hy)
    have h1 : lt y xa = true := hp2 y hy
    have := head_all C.od (by rw [ea] at sA2; exact sA2) (by rw [ea] at da2; exact da2) dy (C.od.asy _ _ dy dxa h1)
    rw [ea]
    exact this
  have hq2 : ∀ y ∈ q2, lt y xa = false := fun y hy => hq2 y hy
  have m3 : Mg lt t (o2.toList ++ p2) q q2 := by
    rw [epq2] at m2
    exact m2.takeB hp2
  dsimp only
  obtain ⟨ny, hny⟩ : ∃ ny, ny = kb + 1 + p2.length := ⟨_, rfl⟩
  rw [← hny] at ex4
  refine jp2 (α := Array Keyed) (β := Nat) (J := ?J3) (fun o i => o.toList = o2.toList ++ p2 ∧ i = ny ∧ i < b.size) (fun hJ => ?_) ?_
  rotate_left
  · by_cases d : p2.length > 0
    · rw [if_pos d]
      have hO : (o2 ++ b.extract (kb + 1) (kb + 1 + p2.length)).toList = o2.toList ++ p2 := by rw [Array.toList_append, ex3]
      generalize o2 ++ b.extract (kb + 1) (kb + 1 + p2.length) = o3 at hO ⊢
      rw [← hny]
      by_cases c : (ny == b.size) = true
      · rw [if_pos c]
        exact wpS_pure (.inl ⟨_, rfl, doneL (a := a) (b := b) ⟨sg.1, sg.2⟩ (by rw [hO, ex2, ex4]; exact m3) (Nat.le_of_eq (eq_of_beq c).symm)⟩)
      · rw [if_neg c]
        have c : ny < b.size := by
          rcases Nat.lt_or_eq_of_le (show ny ≤ b.size by omega) with z | z
          · exact z
          · exact absurd (beq_iff_eq.mpr z) c
        obtain ⟨i3, hI⟩ : ∃ i3, i3 = ny := ⟨_, rfl⟩
        rw [← hI] at c ⊢
        exact hJ o3 i3 ⟨hO, hI, c⟩
    · rw [if_neg d]
      have p0 : p2 = [] := List.length_eq_zero_iff.mp (by omega)
      exact hJ o2 (kb + 1) ⟨by rw [p0, List.append_nil], by omega, c⟩
  rintro o3 i3 ⟨hO3, hI3, hi3⟩
  rw [← hI3] at ex4
  refine wpS_bind (elem_ok ga ?_)
  have m4 : Mg lt t (o3.push xa).toList (a.toList.drop (i1 + 1)) (b.toList.drop i3) := by
    rw [Array.toList_push, hO3, ex4]
    rw [ea] at m3
    refine m3.takeA (xs := [xa]) (fun z => ?_) fun x hx => by rw [List.mem_singleton.mp hx]; exact hq2
    have := congrArg List.length z
    rw [List.length_drop, Array.length_toList] at this
    have : a.size - (i1 + 1) = 0 := this
    omega
  by_cases c : (i1 + 1 + 1 == a.size) = true
  · rw [if_pos c]
    exact wpS_pure (.inl ⟨_, rfl, lastL (a := a) (b := b) ⟨sg.1, sg.2⟩ m4 (eq_of_beq c)⟩)
  rw [if_neg c]
  have c : i1 + 1 + 1 < a.size := by
    rcases Nat.lt_or_eq_of_le hi1 with z | z
    · exact z
    · exact absurd (beq_iff_eq.mpr z) c
  by_cases d : (decide (p.length < 7) && decide (p2.length < 7)) = true
  · rw [if_pos d]
    exact wpS_pure (.inr ⟨rfl, ⟨⟨sg.1, sg.2⟩, m4, c, hi3⟩, by show ja + jb ≤ i1 + 1 + i3; omega⟩)
  · rw [if_neg d]
    exact wpS_pure ⟨rfl, ⟨⟨sg.1, sg.2⟩, m4, c, hi3⟩, by show ja + jb + (y + 1) ≤ i1 + 1 + i3; omega⟩
end
end TM

namespace TM
open PySem PyProof.Rows
noncomputable def mergeHi' : Array Keyed → Array Keyed → StateT SortSt Sem (Array Keyed) := sortPriv% PySem.Builtin.mergeHi
section
variable {M : Model} {A : Around} {E : Value → Shared → Prop} {s : Shared} {κ : SortKind} {D : Keyed → Prop} {lt : Keyed → Keyed → Bool}
/-- the first n, the last one first -/
noncomputable def rv (a : Array Keyed) (n : Nat) : List Keyed := (a.toList.take n).reverse
theorem rvA {a : Array Keyed} {n : Nat} (h0 : 0 < n) (h : n ≤ a.size) : ∃ x, a[n - 1]? = some x ∧ rv a n = x :: rv a (n - 1) := by
  refine ⟨a[n - 1], Array.getElem?_eq_getElem (by omega), ?_⟩
  unfold rv
  obtain ⟨m, rfl⟩ : ∃ m, n = m + 1 := ⟨n - 1, by omega⟩
  rw [List.take_succ_eq_append_getElem (by rw [Array.length_toList]; omega), List.reverse_append, List.reverse_singleton]
  rfl
theorem rv_len {a : Array Keyed} {n : Nat} (h : n ≤ a.size) : (rv a n).length = n := by
  unfold rv
  rw [List.length_reverse, List.length_take, Array.length_toList]
  omega
theorem rv_ne {a : Array Keyed} {n : Nat} (h0 : 0 < n) (h : n ≤ a.size) : rv a n ≠ [] := fun z => by
  have := rv_len h
  rw [z] at this
  have : 0 = n := this
  omega
theorem ext0 {a : Array Keyed} {n : Nat} : (a.extract 0 n).toList = a.toList.take n := by
  rw [Array.toList_extract, List.extract_eq_take_drop, List.drop_zero, Nat.sub_zero]
theorem extR {a : Array Keyed} {n : Nat} {p q : List Keyed} (h : a.toList.take n = p ++ q) (hn : n ≤ a.size) : (a.extract p.length n).reverse.toList = q.reverse ∧ rv a p.length = p.reverse := by
  have l := congrArg List.length h
  rw [List.length_take, Array.length_toList, List.length_append] at l
  have e1 : a.toList.take p.length = p := by
    have := congrArg (List.take p.length) h
    rw [List.take_take, List.take_left, Nat.min_eq_left (by omega)] at this
    exact this
  refine ⟨?_, by unfold rv; rw [e1]⟩
  rw [Array.toList_reverse, Array.toList_extract, List.extract_eq_take_drop, List.take_drop, show p.length + (n - p.length) = n by omega, h, List.drop_left]
structure Ih (lt : Keyed → Keyed → Bool) (st : SortSt) (a b : Array Keyed) (t : List Keyed) (na nb : Nat) (out : Array Keyed) (st' : SortSt) : Prop where
  sg : SG st st'
  mg : Mg (fun x y => lt y x) t out.toList (rv b nb) (rv a na)
  ha : 0 < na
  hb : 1 < nb
  la : na ≤ a.size
  lb : nb ≤ b.size
theorem doneH {st st' : SortSt} {a b out : Array Keyed} {t : List Keyed} {na nb : Nat} (sg : SG st st') (m : Mg (fun x y => lt y x) t out.toList (rv b nb) (rv a na)) (h : na = 0) : Pl lt st t (a.extract 0 na ++ b.extract 0 nb ++ out.reverse) st' := by
  subst h
  obtain ⟨h1, h2⟩ := m.done
  have e : (a.extract 0 0 ++ b.extract 0 nb ++ out.reverse).toList = (out.toList ++ rv b nb).reverse := by
    unfold rv
    rw [Array.toList_append, Array.toList_append, ext0, ext0, Array.toList_reverse, List.reverse_append, List.reverse_reverse]
    rfl
  refine ⟨sg, ?_, ?_⟩
  · rw [e]
    exact So.unrev (by rw [List.reverse_reverse]; exact h1)
  · rw [e]
    exact (List.reverse_perm _).trans h2
theorem firstH {st st' : SortSt} {a b out : Array Keyed} {t : List Keyed} {na nb : Nat} (sg : SG st st') (m : Mg (fun x y => lt y x) t out.toList (rv b nb) (rv a na)) (h : nb = 1) (hb : 0 < b.size) : Pl lt st t (b.extract 0 nb ++ a.extract 0 na ++ out.reverse) st' := by
  subst h
  obtain ⟨x, _, ex⟩ := rvA (a := b) (n := 1) (by decide) hb
  have ex : rv b 1 = [x] := ex
  rw [ex] at m
  obtain ⟨h1, h2⟩ := m.lastA
  have e1 : b.toList.take 1 = [x] := by
    have := congrArg List.reverse ex
    unfold rv at this
    rw [List.reverse_reverse] at this
    exact this
  have e : (b.extract 0 1 ++ a.extract 0 na ++ out.reverse).toList = (out.toList ++ rv a na ++ [x]).reverse := by
    rw [Array.toList_append, Array.toList_append, ext0, ext0, Array.toList_reverse, List.reverse_append, List.reverse_append, e1]
    unfold rv
    rw [List.reverse_reverse, List.append_assoc]
    rfl
  refine ⟨sg, ?_, ?_⟩
  · rw [e]
    exact So.unrev (by rw [List.reverse_reverse]; exact h1)
  · rw [e]
    exact (List.reverse_perm _).trans h2
theorem tk {a : Array Keyed} {n : Nat} : a.toList.take n = (rv a n).reverse := by unfold rv; rw [List.reverse_reverse]
theorem mergeHi_ok {a b : Array Keyed} {st : SortSt} {t : List Keyed} {Q : Array Keyed → SortSt → Prop} (C : Cp M A E s κ D lt) (ks : kindOf st = κ) (hD : ∀ x ∈ t, D x) (h1 : 0 < a.size) (h2 : 0 < b.size) (m0 : Mg (fun x y => lt y x) t [] (rv b b.size) (rv a a.size)) (hf : ∀ y, a[a.size - 1]? = some y → ∀ x ∈ rv b b.size, lt y x = false)
    (h : ∀ r st', Pl lt st t r st' → Q r st') : wpS M A E s (mergeHi' a b) Q st := by
  have O := C.od.flip
  obtain ⟨y0, g0, e0⟩ := rvA (a := a) (n := a.size) h1 (Nat.le_refl _)
  have m1 : Mg (fun x y => lt y x) t (#[y0] : Array Keyed).toList (rv b b.size) (rv a (a.size - 1)) := by
    rw [e0] at m0
    exact m0.takeB (ys := [y0]) (fun y hy x hx => by rw [List.mem_singleton.mp hy]; exact hf y0 g0 x hx)
  refine wpS_bind (wpS_lift (wpAny_rule ⟨rfl, ?_⟩))
  refine wpS_bind (elem_ok g0 ?_)
  dsimp only
  by_cases c1 : (a.size - 1 == 0) = true
  · rw [if_pos c1]
    exact wpS_pure (h _ _ (doneH (SG.refl st) m1 (eq_of_beq c1)))
  rw [if_neg c1]
  have c1 : 0 < a.size - 1 := by
    rcases Nat.eq_zero_or_pos (a.size - 1) with z | z
    · exact absurd (beq_iff_eq.mpr z) c1
    · exact z
  by_cases c2 : (b.size == 1) = true
  · rw [if_pos c2]
    exact wpS_pure (h _ _ (firstH (SG.refl st) m1 (eq_of_beq c2) h2))
  rw [if_neg c2]
  have c2 : 1 < b.size := by
    rcases Nat.lt_or_eq_of_le h2 with z | z
    · exact z
    · exact absurd (beq_iff_eq.mpr z.symm) c2
  refine wpS_bind (wpS_get ?_)
  refine wpS_bind (wpS_mono (wpS_forRange (I := fun x c st' => c.1 = none ∧ Ih lt st a b t c.2.1 c.2.2.1 c.2.2.2.1 st' ∧ c.2.1 + c.2.2.1 + x ≤ a.size + b.size) (Q := fun c st' => ∃ r, c.1 = some r ∧ Pl lt st t r st') ?_ ?_ ⟨rfl, ⟨SG.refl st, m1, c1, c2, Nat.sub_le _ _, Nat.le_refl _⟩, by show a.size - 1 + b.size + 0 ≤ a.size + b.size; omega⟩) ?_)
  rotate_left
  · rintro ⟨r, na, nb, out, g⟩ st' ⟨_, i, hx⟩
    have h3 : 0 < na := i.ha
    have hx : na + nb + max 0 (a.size + b.size) ≤ a.size + b.size := hx
    omega
  · rintro ⟨r, na, nb, out, g⟩ st' ⟨r', (rfl : r = some r'), p⟩
    exact wpS_pure (h _ _ p)
  rintro x ⟨r, na, nb, out, g⟩ st' _ hx ⟨(rfl : r = none), i, hc⟩
  have i : Ih lt st a b t na nb out st' := i
  have hc : na + nb + x ≤ a.size + b.size := hc
  dsimp only
  refine wpS_bind (wpS_mono (wpS_forRange (I := fun x c st' => c.1 = none ∧ Ih lt st a b t c.2.1 c.2.2.1 c.2.2.2.1 st' ∧ c.2.1 + c.2.2.1 + x ≤ na + nb) (Q := fun c st' => (∃ r, c.1 = some r ∧ Pl lt st t r st') ∨ (c.1 = none ∧ Ih lt st a b t c.2.1 c.2.2.1 c.2.2.2.1 st' ∧ c.2.1 + c.2.2.1 + 1 ≤ na + nb)) ?_ ?_ ⟨rfl, i, Nat.le_refl _⟩) ?_)
  rotate_left
  · rintro ⟨r, ja, jb, out, g⟩ st' ⟨_, i2, hx⟩
    have h3 : 0 < ja := i2.ha
    have h4 := i.la
    have h5 := i.lb
    have hx : ja + jb + max 0 (a.size + b.size) ≤ na + nb := hx
    omega
  rotate_left
  · rintro y ⟨r, ja, jb, out, ac, bc⟩ st2 _ hy ⟨(rfl : r = none), i, hy2⟩
    have i : Ih lt st a b t ja jb out st2 := i
    have hy2 : ja + jb + y ≤ na + nb := hy2
    have hja := i.ha
    have hjb := i.hb
    have lja := i.la
    have ljb := i.lb
    obtain ⟨xa, ga, ea⟩ := rvA (a := a) (n := ja) hja lja
    obtain ⟨xb, gb, eb⟩ := rvA (a := b) (n := jb) (by omega) ljb
    have m := i.mg
    rw [ea, eb] at m
    obtain ⟨db, da⟩ := m.dom hD
    have dxa := da xa List.mem_cons_self
    have dxb := db xb List.mem_cons_self
    have sB : So (fun x y => lt y x) (xb :: rv b (jb - 1)) := (So.app.mp m.s1).2.1
    have sA : So (fun x y => lt y x) (xa :: rv a (ja - 1)) := (So.app.mp m.s2).2.1
    dsimp only
    refine wpS_bind (elem_ok gb (wpS_bind (elem_ok ga (wpS_bind (C.run dxb dxa (i.sg.1.trans ks) ?_)))))
    cases e : lt xb xa with
    | true =>
      dsimp only
      rw [if_pos rfl]
      refine wpS_bind (elem_ok ga ?_)
      have m' : Mg (fun x y => lt y x) t (out.push xa).toList (rv b jb) (rv a (ja - 1)) := by
        rw [Array.toList_push, eb]
        exact m.takeB (ys := [xa]) (fun y hy => by rw [List.mem_singleton.mp hy]; exact head_all O sB db dxa (C.od.asy _ _ dxb dxa e))
      by_cases c : (ja - 1 == 0) = true
      · rw [if_pos c]
        exact wpS_pure (.inl ⟨_, rfl, doneH i.sg m' (eq_of_beq c)⟩)
      · rw [if_neg c]
        have c : 0 < ja - 1 := by
          rcases Nat.eq_zero_or_pos (ja - 1) with z | z
          · exact absurd (beq_iff_eq.mpr z) c
          · exact z
        by_cases d : ac + 1 ≥ g
        · rw [if_pos d]
          exact wpS_pure (.inr ⟨rfl, ⟨i.sg, m', c, hjb, by show ja - 1 ≤ _; omega, ljb⟩, by show ja - 1 + jb + 1 ≤ na + nb; omega⟩)
        · rw [if_neg d]
          exact wpS_pure ⟨rfl, ⟨i.sg, m', c, hjb, by show ja - 1 ≤ _; omega, ljb⟩, by show ja - 1 + jb + (y + 1) ≤ na + nb; omega⟩
    | false =>
      dsimp only
      rw [if_neg (by decide)]
      refine wpS_bind (elem_ok gb ?_)
      have m' : Mg (fun x y => lt y x) t (out.push xb).toList (rv b (jb - 1)) (rv a ja) := by
        rw [Array.toList_push, ea]
        exact m.takeA (xs := [xb]) (rv_ne (by omega) (by omega)) (fun y hy => by rw [List.mem_singleton.mp hy]; exact head_all O sA da dxb e)
      by_cases c : (jb - 1 == 1) = true
      · rw [if_pos c]
        exact wpS_pure (.inl ⟨_, rfl, firstH i.sg m' (eq_of_beq c) h2⟩)
      · rw [if_neg c]
        have c : 1 < jb - 1 := by
          rcases Nat.lt_or_eq_of_le (show 1 ≤ jb - 1 by omega) with z | z
          · exact z
          · exact absurd (beq_iff_eq.mpr z.symm) c
        by_cases d : bc + 1 ≥ g
        · rw [if_pos d]
          exact wpS_pure (.inr ⟨rfl, ⟨i.sg, m', hja, c, lja, by show jb - 1 ≤ _; omega⟩, by show ja + (jb - 1) + 1 ≤ na + nb; omega⟩)
        · rw [if_neg d]
          exact wpS_pure ⟨rfl, ⟨i.sg, m', hja, c, lja, by show jb - 1 ≤ _; omega⟩, by show ja + (jb - 1) + (y + 1) ≤ na + nb; omega⟩
  have lna := i.la
  have lnb := i.lb
  rintro ⟨r, ja, jb, out, ac, bc⟩ st2 (⟨r', (rfl : r = some r'), p⟩ | ⟨(rfl : r = none), i, hc2⟩)
  · exact wpS_pure ⟨r', rfl, p⟩
  have i : Ih lt st a b t ja jb out st2 := i
  have hc2 : ja + jb + 1 ≤ na + nb := hc2
  dsimp only
  refine wpS_bind (wpS_lift (wpAny_rule ⟨rfl, ?_⟩))
  refine wpS_bind (wpS_mono (wpS_forRange (I := fun x c st' => c.1 = none ∧ Ih lt st a b t c.2.1 c.2.2.1 c.2.2.2.1 st' ∧ c.2.1 + c.2.2.1 + x ≤ ja + jb) (Q := fun c st' => (∃ r, c.1 = some r ∧ Pl lt st t r st') ∨ (c.1 = none ∧ Ih lt st a b t c.2.1 c.2.2.1 c.2.2.2.1 st' ∧ c.2.1 + c.2.2.1 ≤ ja + jb)) ?_ ?_ ⟨rfl, i, Nat.le_refl _⟩) ?_)
  rotate_left
  · rintro ⟨r, ka, kb, out, g, ac, bc⟩ st' ⟨_, i, hx⟩
    have h3 : 0 < ka := i.ha
    have hx : ka + kb + max 0 (a.size + b.size) ≤ ja + jb := hx
    omega
  · rintro ⟨r, ka, kb, out, g, ac, bc⟩ st' (⟨r', (rfl : r = some r'), p⟩ | ⟨(rfl : r = none), i, hc3⟩)
    · exact wpS_pure ⟨r', rfl, p⟩
    have i : Ih lt st a b t ka kb out st' := i
    have hc3 : ka + kb ≤ ja + jb := hc3
    dsimp only
    refine wpS_bind (wpS_modify ?_)
    exact wpS_pure ⟨rfl, ⟨i.sg, i.mg, i.ha, i.hb, i.la, i.lb⟩, by show ka + kb + (x + 1) ≤ a.size + b.size; omega⟩
  clear i
  rintro y ⟨r, ka, kb, out, g, ac, bc⟩ st2 _ hy ⟨(rfl : r = none), i, hy2⟩
  have i : Ih lt st a b t ka kb out st2 := i
  have hy2 : ka + kb + y ≤ ja + jb := hy2
  dsimp only
  refine jp1 (α := Nat) (J := ?J1) (fun _ => True) (fun hJ => ?_) ?_
  rotate_left
  · by_cases d : g > 1
    · rw [if_pos d]
      generalize g - 1 = g'
      exact hJ g' True.intro
    · rw [if_neg d]
      exact hJ g True.intro
  rintro g -
  refine wpS_bind (wpS_modify ?_)
  have hja := i.ha
  have hjb := i.hb
  have lja := i.la
  have ljb := i.lb
  obtain ⟨xb, gb, eb⟩ := rvA (a := b) (n := kb) (by omega) ljb
  have m := i.mg
  have sg := i.sg
  rw [eb] at m
  obtain ⟨db, da⟩ := m.dom hD
  have dxb := db xb List.mem_cons_self
  have sB := (So.app.mp m.s1).2.1
  have sA := (So.app.mp m.s2).2.1
  clear i
  refine wpS_bind (elem_ok gb (wpS_bind (gal_list (l := a.toList.take ka) C (by omega) (by rw [List.length_take, Array.length_toList]; omega) (fun i hi => by rw [Nat.zero_add, List.getElem?_take_of_lt hi, Array.getElem?_toList]) (fun x hx => da x (by unfold rv; exact List.mem_reverse.mpr hx)) (by rw [tk]; exact So.unrev (by rw [List.reverse_reverse]; exact sA)) dxb (sg.1.trans ks) fun p q epq hp hq => ?_)))
  have lpq := congrArg List.length epq
  rw [List.length_take, Array.length_toList, List.length_append] at lpq
  obtain ⟨ex1, ex2⟩ := extR epq lja
  have epr : rv a ka = q.reverse ++ p.reverse := by unfold rv; rw [epq, List.reverse_append]
  have hp : ∀ x ∈ p, lt xb x = false := fun x hx => by
    have := hp x hx
    unfold byd at this
    rw [if_neg (by decide)] at this
    cases e : lt xb x with
    | false => rfl
    | true => rw [e] at this; cases this
  have hq : ∀ x ∈ q, lt x xb = false := fun x hx => by
    have := hq x hx
    unfold byd at this
    rw [if_neg (by decide)] at this
    refine C.od.asy _ _ dxb (da x (by rw [epr]; exact List.mem_append_left _ (List.mem_reverse.mpr hx))) ?_
    cases e : lt xb x with
    | true => rfl
    | false => rw [e] at this; cases this
  have m1 : Mg (fun x y => lt y x) t (out.toList ++ q.reverse) (rv b kb) p.reverse := by
    rw [epr] at m
    rw [eb]
    exact m.takeB fun y hy => head_all O sB db (da y (by rw [epr]; exact List.mem_append_left _ hy)) (hq y (List.mem_reverse.mp hy))
  dsimp only
  obtain ⟨nx, hnx⟩ : ∃ nx, nx = p.length := ⟨_, rfl⟩
  rw [← hnx] at ex1 ex2 ⊢
  have lq : min ka a.size = ka := Nat.min_eq_left lja
  generalize hkk : ka - nx = kk
  refine jp2 (α := Array Keyed) (β := Nat) (J := ?J2) (fun o i => o.toList = out.toList ++ q.reverse ∧ i = nx ∧ 0 < i) (fun hJ => ?_) ?_
  rotate_left
  · by_cases d : kk > 0
    · rw [if_pos d]
      have hO : (out ++ (a.extract nx ka).reverse).toList = out.toList ++ q.reverse := by rw [Array.toList_append, ex1]
      generalize out ++ (a.extract nx ka).reverse = o1 at hO ⊢
      by_cases c : (nx == 0) = true
      · rw [if_pos c]
        exact wpS_pure (.inl ⟨_, rfl, doneH (a := a) (b := b) ⟨sg.1, sg.2⟩ (by rw [hO, ex2]; exact m1) (eq_of_beq c)⟩)
      · rw [if_neg c]
        have c : 0 < nx := by
          rcases Nat.eq_zero_or_pos nx with z | z
          · exact absurd (beq_iff_eq.mpr z) c
          · exact z
        obtain ⟨i1, hI⟩ : ∃ i1, i1 = nx := ⟨_, rfl⟩
        rw [← hI] at c ⊢
        exact hJ o1 i1 ⟨hO, hI, c⟩
    · rw [if_neg d]
      have p0 : q = [] := List.length_eq_zero_iff.mp (by omega)
      rw [p0, List.length_nil] at lpq
      exact hJ out ka ⟨by rw [p0, List.reverse_nil, List.append_nil], by omega, hja⟩
  rintro o1 i1 ⟨hO, hI, hi1⟩
  rw [← hI] at ex2
  have lnx : i1 ≤ ka := by omega
  have m2 : Mg (fun x y => lt y x) t (o1.push xb).toList (rv b (kb - 1)) (rv a i1) := by
    rw [Array.toList_push, hO, ex2]
    rw [eb] at m1
    exact m1.takeA (xs := [xb]) (rv_ne (by omega) (by omega)) fun x hx y hy => by rw [List.mem_singleton.mp hx]; exact hp y (List.mem_reverse.mp hy)
  refine wpS_bind (elem_ok gb ?_)
  generalize o1.push xb = o2 at m2 ⊢
  by_cases c : (kb - 1 == 1) = true
  · rw [if_pos c]
    exact wpS_pure (.inl ⟨_, rfl, firstH (a := a) (b := b) ⟨sg.1, sg.2⟩ m2 (eq_of_beq c) h2⟩)
  rw [if_neg c]
  have c : 1 < kb - 1 := by
    rcases Nat.lt_or_eq_of_le (show 1 ≤ kb - 1 by omega) with z | z
    · exact z
    · exact absurd (beq_iff_eq.mpr z.symm) c
  obtain ⟨xa, ga, ea⟩ := rvA (a := a) (n := i1) hi1 (by omega)
  obtain ⟨db2, da2⟩ := m2.dom hD
  have dxa := da2 xa (by rw [ea]; exact List.mem_cons_self)
  have sB2 := (So.app.mp m2.s1).2.1
  have sA2 := (So.app.mp m2.s2).2.1
  refine wpS_bind (elem_ok ga (wpS_bind (gal_list (l := b.toList.take (kb - 1)) C (by omega) (by rw [List.length_take, Array.length_toList]; omega) (fun i hi => by rw [Nat.zero_add, List.getElem?_take_of_lt hi, Array.getElem?_toList]) (fun x hx => db2 x (by unfold rv; exact List.mem_reverse.mpr hx)) (by rw [tk]; exact So.unrev (by rw [List.reverse_reverse]; exact sB2)) dxa (sg.1.trans ks) fun p2 q2 epq2 hp2 hq2 => ?_)))
  have lpq2 := congrArg List.length epq2
  rw [List.length_take, Array.length_toList, List.length_append, Nat.min_eq_left (by omega)] at lpq2
  obtain ⟨ex3, ex4⟩ := extR epq2 (by omega)
  have epr2 : rv b (kb - 1) = q2.reverse ++ p2.reverse := by unfold rv; rw [epq2, List.reverse_append]
  have hp2 : ∀ y ∈ p2, lt y xa = true := fun y hy => hp2 y hy
  have hq2 : ∀ y ∈ q2, lt y xa = false := fun y hy => hq2 y hy
  have pn : p2 ≠ [] := fun z => by
    obtain ⟨w, ew⟩ : ∃ w, (rv b (kb - 1)).getLast? = some w := ⟨_, List.getLast?_eq_some_getLast m2.ne⟩
    have k1 := (m2.last w ew xa (by rw [ea]; exact List.mem_cons_self)).1
    have k1 : lt w xa = true := k1
    have k2 := List.mem_of_getLast? ew
    rw [epr2, z, List.reverse_nil, List.append_nil] at k2
    have k3 := hq2 w (List.mem_reverse.mp k2)
    rw [k1] at k3
    cases k3
  have p1 := List.length_pos_iff.mpr pn
  have m3 : Mg (fun x y => lt y x) t (o2.toList ++ q2.reverse) p2.reverse (rv a i1) := by
    rw [epr2] at m2
    refine m2.takeA (fun z => pn (by have := congrArg List.reverse z; rw [List.reverse_reverse] at this; exact this)) fun x hx => ?_
    have dx := db2 x (by rw [epr2]; exact List.mem_append_left _ hx)
    have := head_all O (by rw [ea] at sA2; exact sA2) (by rw [ea] at da2; exact da2) dx (hq2 x (List.mem_reverse.mp hx))
    rw [ea]
    exact this
  dsimp only
  obtain ⟨ny, hny⟩ : ∃ ny, ny = p2.length := ⟨_, rfl⟩
  rw [← hny] at ex3 ex4 p1 ⊢
  generalize hkk2 : kb - 1 - ny = kk2
  refine jp2 (α := Array Keyed) (β := Nat) (J := ?J3) (fun o i => o.toList = o2.toList ++ q2.reverse ∧ i = ny ∧ 1 < i) (fun hJ => ?_) ?_
  rotate_left
  · by_cases d : kk2 > 0
    · rw [if_pos d]
      have hO : (o2 ++ (b.extract ny (kb - 1)).reverse).toList = o2.toList ++ q2.reverse := by rw [Array.toList_append, ex3]
      generalize o2 ++ (b.extract ny (kb - 1)).reverse = o3 at hO ⊢
      by_cases c : (ny == 1) = true
      · rw [if_pos c]
        exact wpS_pure (.inl ⟨_, rfl, firstH (a := a) (b := b) ⟨sg.1, sg.2⟩ (by rw [hO, ex4]; exact m3) (eq_of_beq c) h2⟩)
      · rw [if_neg c, if_neg (fun z => by have := eq_of_beq z; omega)]
        have c : 1 < ny := by
          rcases Nat.lt_or_eq_of_le (show 1 ≤ ny by omega) with z | z
          · exact z
          · exact absurd (beq_iff_eq.mpr z.symm) c
        obtain ⟨i3, hI⟩ : ∃ i3, i3 = ny := ⟨_, rfl⟩
        rw [← hI] at c ⊢
        exact hJ o3 i3 ⟨hO, hI, c⟩
    · rw [if_neg d]
      have p0 : q2 = [] := List.length_eq_zero_iff.mp (by omega)
      rw [p0, List.length_nil] at lpq2
      exact hJ o2 (kb - 1) ⟨by rw [p0, List.reverse_nil, List.append_nil], by omega, c⟩
  rintro o3 i3 ⟨hO3, hI3, hi3⟩
  rw [← hI3] at ex4
  refine wpS_bind (elem_ok ga ?_)
  have m4 : Mg (fun x y => lt y x) t (o3.push xa).toList (rv b i3) (rv a (i1 - 1)) := by
    rw [Array.toList_push, hO3, ex4]
    rw [ea] at m3
    exact m3.takeB (ys := [xa]) fun y hy x hx => by
      rw [List.mem_singleton.mp hy]
      have hx := List.mem_reverse.mp hx
      exact C.od.asy _ _ (db2 x (by rw [epr2]; exact List.mem_append_right _ (List.mem_reverse.mpr hx))) dxa (hp2 x hx)
  by_cases c : (i1 - 1 == 0) = true
  · rw [if_pos c]
    exact wpS_pure (.inl ⟨_, rfl, doneH (a := a) (b := b) ⟨sg.1, sg.2⟩ m4 (eq_of_beq c)⟩)
  rw [if_neg c]
  have c : 0 < i1 - 1 := by
    rcases Nat.eq_zero_or_pos (i1 - 1) with z | z
    · exact absurd (beq_iff_eq.mpr z) c
    · exact z
  by_cases d : (decide (kk < 7) && decide (kk2 < 7)) = true
  · rw [if_pos d]
    exact wpS_pure (.inr ⟨rfl, ⟨⟨sg.1, sg.2⟩, m4, c, hi3, by show i1 - 1 ≤ _; omega, by show i3 ≤ _; omega⟩, by show i1 - 1 + i3 ≤ ja + jb; omega⟩)
  · rw [if_neg d]
    exact wpS_pure ⟨rfl, ⟨⟨sg.1, sg.2⟩, m4, c, hi3, by show i1 - 1 ≤ _; omega, by show i3 ≤ _; omega⟩, by show i1 - 1 + i3 + (y + 1) ≤ ja + jb; omega⟩
end
end TM

namespace TM
open PySem PyProof.Rows
section
variable {M : Model} {A : Around} {E : Value → Shared → Prop} {s : Shared} {κ : SortKind} {D : Keyed → Prop} {lt : Keyed → Keyed → Bool}
theorem set_run (sa : Nat) : ∀ (m : List Keyed) (arr : Array Keyed) (pre old post : List Keyed) (j : Nat), arr.toList = pre ++ old ++ post → old.length = m.length → pre.length = sa + j → ((m.zipIdx j).foldl (fun a pj => a.setIfInBounds (sa + pj.2) pj.1) arr).toList = pre ++ m ++ post
  | [], arr, pre, old, post, j, e, hl, hp => by
    rw [List.length_eq_zero_iff.mp hl] at e
    exact e
  | x :: m, arr, pre, old, post, j, e, hl, hp => by
    match old, hl with
    | o :: old, hl =>
      rw [List.zipIdx_cons, List.foldl_cons]
      rw [set_run sa m (arr.setIfInBounds (sa + j) x) (pre ++ [x]) old post (j + 1) ?_ (by simpa using hl) (by rw [List.length_append, hp]; rfl)]
      · rw [List.append_assoc pre]; rfl
      · rw [Array.toList_setIfInBounds, e, ← hp, List.append_assoc, List.set_append_right _ _ (Nat.le_refl _), Nat.sub_self]
        show pre ++ x :: (old ++ post) = _
        rw [List.append_assoc, List.append_assoc]
        rfl
theorem wpS_set {σ : Type} {x st : σ} {Q : PUnit → σ → Prop} (h : Q ⟨⟩ x) : wpS M A E s (set x : StateT σ Sem PUnit) Q st := by
  unfold wpS
  rw [StateT.run_set]
  exact wpAny_pure ⟨rfl, h⟩
/-- the runs at i and behind it -/
structure Two (st : SortSt) (i sa na pw sb nb pw2 : Nat) (pre r1 r2 post : List Keyed) : Prop where
  p1 : (pendingOf st)[i]? = some (sa, na, pw)
  p2 : (pendingOf st)[i + 1]? = some (sb, nb, pw2)
  ar : (arrOf st).toList = pre ++ (r1 ++ r2) ++ post
  l0 : pre.length = sa
  l1 : r1.length = na
  l2 : r2.length = nb
  eb : sb = sa + na
  n1 : 0 < na
  n2 : 0 < nb
noncomputable def joined (ps : Array (Nat × Nat × Nat)) (i sa n pw : Nat) : Array (Nat × Nat × Nat) := (ps.setIfInBounds i (sa, n, pw)).eraseIdxIfInBounds (i + 1)
theorem getRun {arr : Array Keyed} {pre r post : List Keyed} (h : arr.toList = pre ++ r ++ post) (i : Nat) (hi : i < r.length) : arr[pre.length + i]? = r[i]? := by
  rw [← Array.getElem?_toList, h, List.append_assoc, List.getElem?_append_right (by omega), show pre.length + i - pre.length = i by omega, List.getElem?_append_left hi]
theorem extRun {arr : Array Keyed} {pre r post : List Keyed} (h : arr.toList = pre ++ r ++ post) : (arr.extract pre.length (pre.length + r.length)).toList = r := by
  rw [Array.toList_extract, List.extract_eq_take_drop, h, List.append_assoc, List.drop_left, show pre.length + r.length - pre.length = r.length by omega, List.take_left]
theorem mergeAt_ok {st : SortSt} {i sa na pw sb nb pw2 : Nat} {pre r1 r2 post : List Keyed} {Q : Bool → SortSt → Prop} (C : Cp M A E s κ D lt) (ks : kindOf st = κ) (hf : failedOf st = none) (T : Two st i sa na pw sb nb pw2 pre r1 r2 post) (hD : ∀ x ∈ r1 ++ r2, D x) (s1 : So lt r1) (s2 : So lt r2)
    (h : ∀ st' r, kindOf st' = κ → failedOf st' = none → pendingOf st' = joined (pendingOf st) i sa (na + nb) pw → (arrOf st').toList = pre ++ r ++ post → So lt r → r.Perm (r1 ++ r2) → Q true st') : wpS M A E s (mergeAt' i) Q st := by
  obtain ⟨p1, p2, ar, l0, l1, l2, esb, n1, n2⟩ := T
  subst l0 l1 l2 esb
  refine wpS_bind (wpS_get ?_)
  dsimp only
  rw [p1, p2]
  dsimp only
  refine wpS_bind (wpS_set ?_)
  obtain ⟨y, r2', er2⟩ : ∃ y r2', r2 = y :: r2' := by
    cases r2 with
    | nil => exact absurd n2 (by decide)
    | cons a b => exact ⟨a, b, rfl⟩
  have ar1 : (arrOf st).toList = pre ++ r1 ++ (r2 ++ post) := by rw [ar]; simp only [List.append_assoc]
  have ar2 : (arrOf st).toList = pre ++ r1 ++ r2 ++ post := by rw [ar]; simp only [List.append_assoc]
  have pl : (pre ++ r1).length = pre.length + r1.length := List.length_append
  have gy : (arrOf st)[pre.length + r1.length]? = some y := by
    have := getRun ar2 0 n2
    rw [pl, Nat.add_zero] at this
    rw [this, er2]
    rfl
  have D1 : ∀ x ∈ r1, D x := fun x hx => hD x (List.mem_append_left _ hx)
  have D2 : ∀ x ∈ r2, D x := fun x hx => hD x (List.mem_append_right _ hx)
  have dy := D2 y (by rw [er2]; exact List.mem_cons_self)
  have yl : ∀ x, D x → lt y x = false → ∀ z ∈ r2, lt z x = false := fun x dx k => by
    rw [er2]
    exact head_all C.od (by rw [er2] at s2; exact s2) (by rw [er2] at D2; exact D2) dx k
  refine wpS_bind (elem_ok gy (wpS_bind (gal_list (l := r1) C n1 rfl (fun i hi => getRun ar1 i hi) D1 s1 dy ks fun p q epq hp hq => ?_)))
  have hp : ∀ x ∈ p, lt y x = false := fun x hx => by
    have := hp x hx
    unfold byd at this
    rw [if_neg (by decide)] at this
    cases e : lt y x with
    | false => rfl
    | true => rw [e] at this; cases this
  have hq : ∀ x ∈ q, lt y x = true := fun x hx => by
    have := hq x hx
    unfold byd at this
    rw [if_neg (by decide)] at this
    cases e : lt y x with
    | true => rfl
    | false => rw [e] at this; cases this
  have lpq := congrArg List.length epq
  rw [List.length_append] at lpq
  dsimp only
  by_cases c : (r1.length - p.length == 0) = true
  · rw [if_pos c]
    have c : r1.length - p.length = 0 := eq_of_beq c
    have q0 : q = [] := List.length_eq_zero_iff.mp (by omega)
    rw [q0, List.append_nil] at epq
    refine wpS_pure (h _ (r1 ++ r2) ks hf rfl ar (So.app.mpr ⟨s1, s2, fun x hx => ?_⟩) (List.Perm.refl _))
    exact yl x (D1 x hx) (hp x (by rw [← epq]; exact hx))
  rw [if_neg c]
  have c : 0 < q.length := by
    rcases Nat.eq_zero_or_pos q.length with z | z
    · exact absurd (beq_iff_eq.mpr (by omega)) c
    · exact z
  obtain ⟨q', z, eq⟩ : ∃ q' z, q = q' ++ [z] := ⟨q.dropLast, q.getLast (List.length_pos_iff.mp c), (List.dropLast_concat_getLast _).symm⟩
  have zq : z ∈ q := by rw [eq]; exact List.mem_append_right _ List.mem_cons_self
  have q1 : ∀ x ∈ q, x ∈ r1 := fun x hx => by rw [epq]; exact List.mem_append_right _ hx
  have dz := D1 z (q1 z zq)
  have sq : So lt q := by rw [epq] at s1; exact (So.app.mp s1).2.1
  have gz : (arrOf st)[pre.length + p.length + (r1.length - p.length) - 1]? = some z := by
    have l3 := congrArg List.length eq
    rw [List.length_append] at l3
    have l3 : q.length = q'.length + 1 := l3
    have := getRun ar1 (r1.length - 1) (by omega)
    rw [show pre.length + p.length + (r1.length - p.length) - 1 = pre.length + (r1.length - 1) by omega, this, epq, List.getElem?_append_right (by rw [List.length_append]; omega), eq, List.getElem?_append_right (by rw [List.length_append, List.length_append]; show _ ≤ _; simp only [List.length_append, List.length_cons, List.length_nil]; omega)]
    have : (p ++ (q' ++ [z])).length - 1 - p.length - q'.length = 0 := by simp only [List.length_append, List.length_cons, List.length_nil]; omega
    rw [this]
    rfl
  refine wpS_bind (elem_ok gz (wpS_bind (gal_list (l := r2) C (by omega) rfl (fun i hi => by rw [← pl]; exact getRun ar2 i hi) D2 s2 dz ks fun p2 q2 epq2 hp2 hq2 => ?_)))
  have hp2 : ∀ x ∈ p2, lt x z = true := fun x hx => hp2 x hx
  have hq2 : ∀ x ∈ q2, lt x z = false := fun x hx => hq2 x hx
  have yp : y ∈ p2 := by
    have : y ∈ p2 ++ q2 := by rw [← epq2, er2]; exact List.mem_cons_self
    rcases List.mem_append.mp this with h | h
    · exact h
    · have h1 := hq2 y h
      rw [hq z zq] at h1
      cases h1
  have pn := List.length_pos_of_mem yp
  have sp2 : So lt p2 := by rw [epq2] at s2; exact (So.app.mp s2).1
  have p2r : ∀ x ∈ p2, x ∈ r2 := fun x hx => by rw [epq2]; exact List.mem_append_left _ hx
  have q2r : ∀ x ∈ q2, x ∈ r2 := fun x hx => by rw [epq2]; exact List.mem_append_right _ hx
  dsimp only
  rw [if_neg (fun z => by have := eq_of_beq z; omega)]
  have X1 : ((arrOf st).extract (pre.length + p.length) (pre.length + r1.length)).toList = q := by
    have a3 : (arrOf st).toList = (pre ++ p) ++ q ++ (r2 ++ post) := by rw [ar1, epq]; simp only [List.append_assoc]
    have := extRun a3
    rw [List.length_append, show pre.length + p.length + q.length = pre.length + r1.length by omega] at this
    exact this
  have X2 : ((arrOf st).extract (pre.length + r1.length) (pre.length + r1.length + p2.length)).toList = p2 := by
    have a3 : (arrOf st).toList = (pre ++ r1) ++ p2 ++ (q2 ++ post) := by rw [ar2, epq2]; simp only [List.append_assoc]
    have := extRun a3
    rw [pl] at this
    exact this
  have DD : ∀ x ∈ q ++ p2, D x := fun x hx => (List.mem_append.mp hx).elim (fun h => D1 x (q1 x h)) fun h => D2 x (p2r x h)
  have qy : ∀ x ∈ q, lt x y = false := fun x hx => C.od.asy _ _ dy (D1 x (q1 x hx)) (hq x hx)
  have pz : ∀ x ∈ p2, lt z x = false := fun x hx => C.od.asy _ _ (D2 x (p2r x hx)) dz (hp2 x hx)
  have qz : ∀ x ∈ q, lt z x = false := fun x hx => by
    rw [eq] at hx sq
    rcases List.mem_append.mp hx with h | h
    · exact (So.app.mp sq).2.2 x h z List.mem_cons_self
    · rw [List.mem_singleton.mp h]; exact C.od.rfl dz
  have fin : ∀ (mr arr : Array Keyed), arr = arrOf st → So lt mr.toList → mr.toList.Perm (q ++ p2) → (mr.toList.zipIdx.foldl (fun a x => a.setIfInBounds (pre.length + p.length + x.2) x.1) arr).toList = pre ++ (p ++ mr.toList ++ q2) ++ post ∧ So lt (p ++ mr.toList ++ q2) ∧ (p ++ mr.toList ++ q2).Perm (r1 ++ r2) := by
    rintro mr arr rfl sm pm
    have mem : ∀ x ∈ mr.toList, x ∈ q ∨ x ∈ p2 := fun x hx => List.mem_append.mp (pm.mem_iff.mp hx)
    refine ⟨?_, ?_, ?_⟩
    · have := set_run (pre.length + p.length) mr.toList (arrOf st) (pre ++ p) (q ++ p2) (q2 ++ post) 0 (by rw [ar, epq, epq2]; simp only [List.append_assoc]) pm.length_eq.symm List.length_append
      rw [this]
      simp only [List.append_assoc]
    · refine So.app.mpr ⟨So.app.mpr ⟨by rw [epq] at s1; exact (So.app.mp s1).1, sm, fun x hx w hw => ?_⟩, by rw [epq2] at s2; exact (So.app.mp s2).2.1, fun x hx w hw => ?_⟩
      · have xr : x ∈ r1 := by rw [epq]; exact List.mem_append_left _ hx
        rcases mem w hw with h | h
        · rw [epq] at s1
          exact (So.app.mp s1).2.2 x hx w h
        · exact yl x (D1 x xr) (hp x hx) w (p2r w h)
      · rcases List.mem_append.mp hx with h | h
        · have xr : x ∈ r1 := by rw [epq]; exact List.mem_append_left _ h
          exact yl x (D1 x xr) (hp x h) w (q2r w hw)
        · rcases mem x h with h | h
          · exact C.od.tr x z w (D1 x (q1 x h)) dz (D2 w (q2r w hw)) (qz x h) (hq2 w hw)
          · rw [epq2] at s2
            exact (So.app.mp s2).2.2 x h w hw
    · rw [epq, epq2]
      have : (p ++ mr.toList ++ q2).Perm (p ++ (q ++ p2) ++ q2) := List.Perm.append_right _ (List.Perm.append_left _ pm)
      refine this.trans ?_
      rw [show p ++ (q ++ p2) ++ q2 = p ++ q ++ (p2 ++ q2) from by simp only [List.append_assoc]]
  by_cases d : r1.length - p.length ≤ p2.length
  · rw [if_pos d]
    refine wpS_bind (mergeLo_ok C ks DD ?_ ?_ ?_ fun mr st2 P => ?_)
    · rw [← Array.length_toList, X2]; exact pn
    · rw [X1, X2]
      refine ⟨List.Perm.refl _, sq, sp2, List.length_pos_iff.mp c, fun w hw x hx => ?_⟩
      have ew : w = z := by
        rw [eq, List.getLast?_append] at hw
        exact (Option.some.inj hw).symm
      rw [ew]
      exact ⟨hp2 x hx, pz x hx⟩
    · intro w hw
      rw [← Array.getElem?_toList, X2] at hw
      have ew : w = y := by
        cases p2 with
        | nil => cases hw
        | cons a b =>
          rw [er2] at epq2
          injection epq2 with e1 e2
          injection hw with hw
          rw [← hw, e1]
      rw [X1, ew]
      exact qy
    · obtain ⟨f1, f2, f3⟩ := fin mr (arrOf st2) P.1.2.1 P.2.1 P.2.2
      refine wpS_bind (wpS_modify (wpS_bind (wpS_get ?_)))
      have hn : failedOf st2 = none := P.1.2.2.2.trans hf
      have e : (failedOf st2).isNone = true := by rw [hn]; rfl
      refine wpS_pure ?_
      show Q (failedOf st2).isNone _
      rw [e]
      exact h _ _ (P.1.1.trans ks) hn P.1.2.2.1 f1 f2 f3
  · rw [if_neg d]
    have sz1 : ((arrOf st).extract (pre.length + p.length) (pre.length + r1.length)).size = q.length := by rw [← Array.length_toList, X1]
    have sz2 : ((arrOf st).extract (pre.length + r1.length) (pre.length + r1.length + p2.length)).size = p2.length := by rw [← Array.length_toList, X2]
    have rv1 : rv ((arrOf st).extract (pre.length + p.length) (pre.length + r1.length)) q.length = q.reverse := by unfold rv; rw [X1, List.take_length]
    have rv2 : rv ((arrOf st).extract (pre.length + r1.length) (pre.length + r1.length + p2.length)) p2.length = p2.reverse := by unfold rv; rw [X2, List.take_length]
    refine wpS_bind (mergeHi_ok C ks DD ?_ ?_ ?_ ?_ fun mr st2 P => ?_)
    · rw [sz1]; exact c
    · rw [sz2]; exact pn
    · rw [sz1, sz2, rv1, rv2]
      refine ⟨?_, sp2.rev, sq.rev, fun z => ?_, fun w hw x hx => ?_⟩
      · rw [List.nil_append]
        exact (List.Perm.append (List.reverse_perm _) (List.reverse_perm _)).trans List.perm_append_comm
      · have := congrArg List.length z
        rw [List.length_reverse] at this
        have : p2.length = 0 := this
        omega
      · have hx := List.mem_reverse.mp hx
        have ew : w = y := by
          rw [List.getLast?_reverse] at hw
          cases p2 with
          | nil => cases hw
          | cons a b =>
            rw [er2] at epq2
            injection epq2 with e1 e2
            injection hw with hw
            rw [← hw, e1]
        rw [ew]
        exact ⟨hq x hx, qy x hx⟩
    · intro w hw
      rw [sz1, ← Array.getElem?_toList, X1] at hw
      rw [sz2, rv2]
      have ew : w = z := by
        rw [← List.getLast?_eq_getElem?, eq, List.getLast?_append] at hw
        exact (Option.some.inj hw).symm
      rw [ew]
      exact fun x hx => pz x (List.mem_reverse.mp hx)
    · obtain ⟨f1, f2, f3⟩ := fin mr (arrOf st2) P.1.2.1 P.2.1 P.2.2
      refine wpS_bind (wpS_modify (wpS_bind (wpS_get ?_)))
      have hn : failedOf st2 = none := P.1.2.2.2.trans hf
      have e : (failedOf st2).isNone = true := by rw [hn]; rfl
      refine wpS_pure ?_
      show Q (failedOf st2).isNone _
      rw [e]
      exact h _ _ (P.1.1.trans ks) hn P.1.2.2.1 f1 f2 f3
end
end TM

namespace TM
open PySem PyProof.Rows
section
variable {M : Model} {A : Around} {E : Value → Shared → Prop} {s : Shared} {κ : SortKind} {D : Keyed → Prop} {lt : Keyed → Keyed → Bool}
theorem ltAt_ok {st : SortSt} {i j : Nat} {x y : Keyed} {Q : Option Bool → SortSt → Prop} (C : Cp M A E s κ D lt) (ks : kindOf st = κ) (hi : (arrOf st)[i]? = some x) (hj : (arrOf st)[j]? = some y) (dx : D x) (dy : D y) (q : Q (some (lt x y)) st) : wpS M A E s (ltAt' i j) Q st := by
  rw [ltAt'_eq]
  refine wpS_bind (wpS_get ?_)
  exact wpS_bind (elem_ok hi (wpS_bind (elem_ok hj (C.run dx dy ks q))))
theorem so_snoc {α : Type} {D : α → Prop} {lt : α → α → Bool} (O : Od D lt) {l : List α} {w x : α} (h : So lt (l ++ [w])) (hd : ∀ z ∈ l ++ [w], D z) (dx : D x) (k : lt x w = false) : So lt (l ++ [w] ++ [x]) := by
  refine So.app.mpr ⟨h, List.pairwise_singleton _ _, fun z hz y hy => ?_⟩
  rw [List.mem_singleton.mp hy]
  rcases List.mem_append.mp hz with h1 | h1
  · exact O.tr z w x (hd z hz) (hd w (List.mem_append_right _ List.mem_cons_self)) dx ((So.app.mp h).2.2 z h1 w List.mem_cons_self) k
  · rw [List.mem_singleton.mp h1]; exact k
theorem so_take {α : Type} {D : α → Prop} {lt : α → α → Bool} (O : Od D lt) {l : List α} {n : Nat} (h0 : 0 < n) (hn : n < l.length) (hd : ∀ z ∈ l, D z) (h : So lt (l.take n)) (k : lt l[n] (l[n - 1]'(by omega)) = false) : So lt (l.take (n + 1)) := by
  obtain ⟨m, rfl⟩ : ∃ m, n = m + 1 := ⟨n - 1, by omega⟩
  rw [List.take_succ_eq_append_getElem hn]
  have e : l.take (m + 1) = l.take m ++ [l[m]'(by omega)] := List.take_succ_eq_append_getElem (by omega)
  rw [e] at h ⊢
  exact so_snoc O h (fun z hz => hd z (List.mem_of_mem_take (by rw [e]; exact hz))) (hd _ (List.getElem_mem _)) k
theorem mirror_run {arr : Array Keyed} {pre seg : List Keyed} {n : Nat} (h : arr.toList = pre ++ seg) (hn : n ≤ seg.length) : (mirror arr pre.length (pre.length + n) ((pre.length + n - pre.length) / 2)).toList = pre ++ ((seg.take n).reverse ++ seg.drop n) := by
  have sz : arr.size = pre.length + seg.length := by rw [← Array.length_toList, h, List.length_append]
  refine List.ext_getElem? fun i => ?_
  rw [Array.getElem?_toList, getElem?_mirror_all (by omega)]
  have g : ∀ j, arr[j]? = (pre ++ seg)[j]? := fun j => by rw [← Array.getElem?_toList, h]
  rw [g, g]
  by_cases c : i < pre.length
  · rw [if_neg (by omega), List.getElem?_append_left c, List.getElem?_append_left c]
  · have R : (pre ++ ((seg.take n).reverse ++ seg.drop n))[i]? = ((seg.take n).reverse ++ seg.drop n)[i - pre.length]? := List.getElem?_append_right (by omega)
    have L : ∀ j, pre.length ≤ j → (pre ++ seg)[j]? = seg[j - pre.length]? := fun j hj => List.getElem?_append_right hj
    rw [R]
    have lr : (seg.take n).reverse.length = n := by rw [List.length_reverse, List.length_take]; omega
    by_cases d : i < pre.length + n
    · rw [if_pos ⟨by omega, d⟩, L _ (by omega), List.getElem?_append_left (by rw [lr]; omega), List.getElem?_reverse (by rw [List.length_take]; omega), List.length_take, List.getElem?_take_of_lt (by omega)]
      congr 1
      omega
    · rw [if_neg (by omega), L _ (by omega), List.getElem?_append_right (by rw [lr]; omega), lr, List.getElem?_drop]
      congr 1
      omega
/-- alike but for the things and how it gallops -/
noncomputable def SA (st st' : SortSt) : Prop := kindOf st' = kindOf st ∧ pendingOf st' = pendingOf st ∧ failedOf st' = failedOf st
theorem countRun_ok {st : SortSt} {pre seg : List Keyed} {Q : Option Nat → SortSt → Prop} (C : Cp M A E s κ D lt) (an : ∀ x y, D x → D y → lt x y = false → lt y x = false → x = y) (ks : kindOf st = κ) (ar : (arrOf st).toList = pre ++ seg) (hD : ∀ x ∈ seg, D x) (nd : seg.Nodup) (h1 : 0 < seg.length)
    (h : ∀ n r rest st', SA st st' → (arrOf st').toList = pre ++ (r ++ rest) → r.length = n → 0 < n → So lt r → (r ++ rest).Perm seg → Q (some n) st') : wpS M A E s (countRun' pre.length seg.length) Q st := by
  have at' : ∀ {st' : SortSt} {sg : List Keyed}, (arrOf st').toList = pre ++ sg → ∀ i (hi : i < sg.length), (arrOf st')[pre.length + i]? = some sg[i] := fun e i hi => by
    rw [← Array.getElem?_toList, e, List.getElem?_append_right (by omega), show pre.length + i - pre.length = i by omega, List.getElem?_eq_getElem hi]
  have ask : ∀ {st' : SortSt} {sg : List Keyed} {Q : Option Bool → SortSt → Prop}, kindOf st' = κ → (arrOf st').toList = pre ++ sg → (∀ x ∈ sg, D x) → ∀ n, 0 < n → (hn : n < sg.length) → Q (some (lt sg[n] (sg[n - 1]'(by omega)))) st' → wpS M A E s (ltAt' (pre.length + n) (pre.length + n - 1)) Q st' := fun k e hd n h0 hn q =>
    ltAt_ok C k (at' e n hn) (by rw [show pre.length + n - 1 = pre.length + (n - 1) by omega]; exact at' e (n - 1) (by omega)) (hd _ (List.getElem_mem _)) (hd _ (List.getElem_mem _)) q
  have askB : ∀ {st' : SortSt} {sg : List Keyed} {Q : Option Bool → SortSt → Prop}, kindOf st' = κ → (arrOf st').toList = pre ++ sg → (∀ x ∈ sg, D x) → ∀ n, 0 < n → (hn : n < sg.length) → Q (some (lt (sg[n - 1]'(by omega)) sg[n])) st' → wpS M A E s (ltAt' (pre.length + n - 1) (pre.length + n)) Q st' := fun k e hd n h0 hn q =>
    ltAt_ok C k (by rw [show pre.length + n - 1 = pre.length + (n - 1) by omega]; exact at' e (n - 1) (by omega)) (at' e n hn) (hd _ (List.getElem_mem _)) (hd _ (List.getElem_mem _)) q
  have ne : ∀ i j (hi : i < seg.length) (hj : j < seg.length), i ≠ j → seg[i] ≠ seg[j] := fun i j hi hj hn z => hn ((List.getElem_inj nd).mp z)
  refine wpS_bind (wpS_mono (wpS_forRange (I := fun x c st' => st' = st ∧ c = (none, x) ∧ x ≤ seg.length ∧ So lt (seg.take x)) (Q := fun c st' => st' = st ∧ ∃ n, c = (none, n) ∧ 0 < n ∧ n ≤ seg.length ∧ So lt (seg.take n) ∧ ((hn : n < seg.length) → lt seg[n] (seg[n - 1]'(by omega)) = true)) ?_ ?_ ⟨rfl, rfl, h1, by
    match seg, h1 with
    | a :: r, _ => exact List.pairwise_singleton _ _⟩) ?_)
  · rintro x c st' hx0 hx ⟨rfl, rfl, _, so⟩
    dsimp only
    refine wpS_bind (ask ks ar hD x hx0 hx ?_)
    cases e : lt seg[x] (seg[x - 1]'(by omega)) with
    | true => exact wpS_pure ⟨rfl, x, rfl, hx0, Nat.le_of_lt hx, so, fun _ => e⟩
    | false => exact wpS_pure ⟨rfl, rfl, hx, so_take C.od hx0 hx hD so e⟩
  · rintro c st' ⟨rfl, rfl, hx, so⟩
    have e : max 1 seg.length = seg.length := Nat.max_eq_right h1
    rw [e] at so
    exact ⟨rfl, seg.length, by rw [e], h1, Nat.le_refl _, so, fun hn => absurd hn (Nat.lt_irrefl _)⟩
  rintro c st' ⟨est, n, rfl, n0, nl, so, dn⟩
  obtain rfl : st = st' := est.symm
  dsimp only
  by_cases c1 : (n == seg.length) = true
  · rw [if_pos c1]
    have c1 := eq_of_beq c1
    rw [c1, List.take_length] at so
    refine wpS_pure (h n seg [] _ ⟨rfl, rfl, rfl⟩ (by rw [List.append_nil]; exact ar) c1.symm n0 so (by rw [List.append_nil]))
  rw [if_neg c1]
  have c1 : n < seg.length := by
    rcases Nat.lt_or_eq_of_le nl with z | z
    · exact z
    · exact absurd (beq_iff_eq.mpr z) c1
  by_cases c2 : n > 1
  · rw [if_pos c2]
    have rose : lt (seg[0]'h1) (seg[n - 1]'(by omega)) = true := by
      cases e : lt (seg[0]'h1) (seg[n - 1]'(by omega)) with
      | true => rfl
      | false =>
        have hh := List.pairwise_iff_getElem.mp so 0 (n - 1) (by rw [List.length_take]; omega) (by rw [List.length_take]; omega) (by omega)
        rw [List.getElem_take, List.getElem_take] at hh
        exact absurd (an _ _ (hD _ (List.getElem_mem _)) (hD _ (List.getElem_mem _)) e hh) (ne 0 (n - 1) h1 (by omega) (by omega))
    refine wpS_bind (ltAt_ok C ks (by have := at' ar 0 h1; rw [Nat.add_zero] at this; exact this) (by rw [show pre.length + n - 1 = pre.length + (n - 1) by omega]; exact at' ar (n - 1) (by omega)) (hD _ (List.getElem_mem _)) (hD _ (List.getElem_mem _)) ?_)
    rw [rose]
    exact wpS_pure (h n (seg.take n) (seg.drop n) _ ⟨rfl, rfl, rfl⟩ (by rw [List.take_append_drop]; exact ar) (by rw [List.length_take]; omega) n0 so (by rw [List.take_append_drop]))
  rw [if_neg c2]
  have e1 : n = 1 := by omega
  subst e1
  refine wpS_bind (wpS_lift (wpAny_rule ⟨rfl, ?_⟩))
  have so2 : So (fun x y => lt y x) (seg.take 2) := so_take C.od.flip (by decide) c1 hD (by
    match seg, h1 with
    | a :: r, _ => exact List.pairwise_singleton _ _) (C.od.asy _ _ (hD _ (List.getElem_mem _)) (hD _ (List.getElem_mem _)) (dn c1))
  refine wpS_bind (wpS_mono (wpS_forRange (I := fun x c st' => st' = st ∧ c = (none, x, 0) ∧ x ≤ seg.length ∧ So (fun x y => lt y x) (seg.take x)) (Q := fun c st' => st' = st ∧ ∃ n, c = (none, n, 0) ∧ 1 < n ∧ n ≤ seg.length ∧ So (fun x y => lt y x) (seg.take n)) ?_ ?_ ⟨rfl, rfl, c1, so2⟩) ?_)
  · rintro x c st' hx0 hx ⟨rfl, rfl, _, so⟩
    have hx0 : 2 ≤ x := hx0
    dsimp only
    refine wpS_bind (ask ks ar hD x (by omega) hx ?_)
    cases e : lt seg[x] (seg[x - 1]'(by omega)) with
    | true =>
      exact wpS_pure ⟨rfl, rfl, hx, so_take C.od.flip (by omega) hx hD so (C.od.asy _ _ (hD _ (List.getElem_mem _)) (hD _ (List.getElem_mem _)) e)⟩
    | false =>
      have e2 : lt (seg[x - 1]'(by omega)) seg[x] = true := by
        cases e2 : lt (seg[x - 1]'(by omega)) seg[x] with
        | true => rfl
        | false => exact absurd (an _ _ (hD _ (List.getElem_mem _)) (hD _ (List.getElem_mem _)) e e2) (ne x (x - 1) hx (by omega) (by omega))
      dsimp only
      rw [if_neg (by decide)]
      refine wpS_bind (askB ks ar hD x (by omega) hx ?_)
      rw [e2]
      exact wpS_pure ⟨rfl, x, rfl, hx0, Nat.le_of_lt hx, so⟩
  · rintro c st' ⟨rfl, rfl, hx, so⟩
    exact ⟨rfl, _, rfl, by omega, hx, so⟩
  rintro c st' ⟨est, n, rfl, n0, nl, so3⟩
  obtain rfl : st = st' := est.symm
  dsimp only
  rw [if_neg (by decide)]
  refine wpS_bind (wpS_modify ?_)
  have ar2 := mirror_run ar nl
  have pm : ((seg.take n).reverse ++ seg.drop n).Perm seg := by
    refine (List.Perm.append_right _ (List.reverse_perm _)).trans ?_
    rw [List.take_append_drop]
  have sl : ((seg.take n).reverse ++ seg.drop n).length = seg.length := pm.length_eq
  have hD2 : ∀ x ∈ (seg.take n).reverse ++ seg.drop n, D x := fun x hx => hD x (pm.mem_iff.mp hx)
  have tk : ((seg.take n).reverse ++ seg.drop n).take n = (seg.take n).reverse := by
    have : (seg.take n).reverse.length = n := by rw [List.length_reverse, List.length_take]; omega
    exact List.take_left' this
  have so4 : So lt (((seg.take n).reverse ++ seg.drop n).take n) := by rw [tk]; exact so3.rev
  generalize (seg.take n).reverse ++ seg.drop n = sg at ar2 pm sl hD2 so4
  refine wpS_bind (wpS_mono (wpS_forRange (I := fun x c st' => SA st st' ∧ (arrOf st').toList = pre ++ sg ∧ c = (none, x) ∧ x ≤ seg.length ∧ So lt (sg.take x)) (Q := fun c st' => SA st st' ∧ (arrOf st').toList = pre ++ sg ∧ ∃ n, c = (none, n) ∧ 0 < n ∧ n ≤ seg.length ∧ So lt (sg.take n)) ?_ ?_ ⟨⟨rfl, rfl, rfl⟩, ar2, rfl, nl, so4⟩) ?_)
  · rintro x c st' hx0 hx ⟨sa, ar3, rfl, _, so⟩
    dsimp only
    refine wpS_bind (ask (sa.1.trans ks) ar3 hD2 x (by omega) (by omega) ?_)
    cases e : lt (sg[x]'(by omega)) (sg[x - 1]'(by omega)) with
    | true => exact wpS_pure ⟨sa, ar3, x, rfl, by omega, Nat.le_of_lt hx, so⟩
    | false => exact wpS_pure ⟨sa, ar3, rfl, hx, so_take C.od (by omega) (by omega) hD2 so e⟩
  · rintro c st' ⟨sa, ar3, rfl, hx, so⟩
    exact ⟨sa, ar3, _, rfl, by omega, hx, so⟩
  rintro c st' ⟨sa, ar3, m, rfl, m0, ml, so⟩
  exact wpS_pure (h m (sg.take m) (sg.drop m) _ sa (by rw [List.take_append_drop]; exact ar3) (by rw [List.length_take]; omega) m0 so (by rw [List.take_append_drop]; exact pm))
theorem bubble_run {arr : Array Keyed} {pre a b rest : List Keyed} {x : Keyed} (h : arr.toList = pre ++ (a ++ b ++ x :: rest)) : (bubble arr (pre.length + (a.length + b.length)) b.length).toList = pre ++ (a ++ x :: b ++ rest) := by
  have sz : arr.size = pre.length + (a.length + b.length + (rest.length + 1)) := by rw [← Array.length_toList, h, List.length_append, List.length_append, List.length_append, List.length_cons]
  refine List.ext_getElem? fun i => ?_
  rw [Array.getElem?_toList, getElem?_bubble (by omega) _ (by omega)]
  have g : ∀ j, arr[j]? = (pre ++ (a ++ b ++ x :: rest))[j]? := fun j => by rw [← Array.getElem?_toList, h]
  rw [g, g, g]
  have L : ∀ j, (pre ++ (a ++ b ++ x :: rest))[j]? = if j < pre.length then pre[j]? else if j < pre.length + a.length then a[j - pre.length]? else if j < pre.length + a.length + b.length then b[j - pre.length - a.length]? else (x :: rest)[j - pre.length - a.length - b.length]? := fun j => by
    split
    · rw [List.getElem?_append_left (by assumption)]
    · rw [List.getElem?_append_right (by omega)]
      split
      · rw [List.append_assoc, List.getElem?_append_left (by omega)]
      · rw [List.append_assoc, List.getElem?_append_right (by omega)]
        split
        · rw [List.getElem?_append_left (by omega)]
        · rw [List.getElem?_append_right (by omega)]
  have R : (pre ++ (a ++ x :: b ++ rest))[i]? = if i < pre.length then pre[i]? else if i < pre.length + a.length then a[i - pre.length]? else if i = pre.length + a.length then some x else if i < pre.length + a.length + b.length + 1 then b[i - pre.length - a.length - 1]? else rest[i - pre.length - a.length - b.length - 1]? := by
    split
    · rw [List.getElem?_append_left (by assumption)]
    · rw [List.getElem?_append_right (by omega)]
      split
      · rw [List.append_assoc, List.getElem?_append_left (by omega)]
      · rw [List.append_assoc, List.getElem?_append_right (by omega)]
        split
        · rw [show i - pre.length - a.length = 0 by omega]; rfl
        · rw [show i - pre.length - a.length = (i - pre.length - a.length - 1) + 1 by omega, List.cons_append, List.getElem?_cons_succ]
          split
          · rw [List.getElem?_append_left (by omega)]; congr 1
          · rw [List.getElem?_append_right (by omega)]; congr 1; omega
  rw [L, L, L, R]
  by_cases c : i < pre.length
  · rw [if_neg (by omega), if_neg (by omega), if_pos c, if_pos c]
  · by_cases d : i < pre.length + a.length
    · rw [if_neg (by omega), if_neg (by omega), if_neg c, if_neg c, if_pos d, if_pos d]
    · by_cases e : i = pre.length + a.length
      · rw [if_pos (by omega), if_neg (by omega), if_neg (by omega), if_neg (by omega), if_neg c, if_neg d, if_pos e, show pre.length + (a.length + b.length) - pre.length - a.length - b.length = 0 by omega]
        rfl
      · by_cases f : i < pre.length + a.length + b.length + 1
        · rw [if_neg (by omega), if_pos (by omega), if_neg (by omega), if_neg (by omega), if_pos (by omega), if_neg c, if_neg d, if_neg e, if_pos f]
          congr 1
          omega
        · rw [if_neg (by omega), if_neg (by omega), if_neg c, if_neg d, if_neg (by omega), if_neg c, if_neg d, if_neg e, if_neg f, show i - pre.length - a.length - b.length = (i - pre.length - a.length - b.length - 1) + 1 by omega]
          rfl
theorem binarySort_ok {st : SortSt} {pre seg : List Keyed} {n ok : Nat} {Q : Bool → SortSt → Prop} (C : Cp M A E s κ D lt) (ks : kindOf st = κ) (ar : (arrOf st).toList = pre ++ seg) (hD : ∀ x ∈ seg, D x) (h0 : 0 < ok) (hok : ok ≤ n) (hn : n ≤ seg.length) (so : So lt (seg.take ok))
    (h : ∀ sg st', SA st st' → (arrOf st').toList = pre ++ sg → So lt (sg.take n) → sg.Perm seg → Q true st') : wpS M A E s (binarySort' pre.length n ok) Q st := by
  have mx : max ok 1 = ok := Nat.max_eq_left h0
  refine wpS_bind (wpS_mono (wpS_forRange (I := fun k c st' => c = (none, ()) ∧ ∃ sg, SA st st' ∧ (arrOf st').toList = pre ++ sg ∧ sg.Perm seg ∧ k ≤ n ∧ So lt (sg.take k)) (Q := fun c st' => c = (none, ()) ∧ ∃ sg, SA st st' ∧ (arrOf st').toList = pre ++ sg ∧ sg.Perm seg ∧ So lt (sg.take n)) ?_ ?_ ⟨rfl, seg, ⟨rfl, rfl, rfl⟩, ar, List.Perm.refl _, by rw [mx]; exact hok, by rw [mx]; exact so⟩) ?_)
  · rintro k c st1 hk0 hk ⟨rfl, sg, sa, ar1, pm, _, so1⟩
    rw [mx] at hk0
    have sl := pm.length_eq
    have hD1 : ∀ x ∈ sg, D x := fun x hx => hD x (pm.mem_iff.mp hx)
    have at' : ∀ i (hi : i < sg.length), (arrOf st1)[pre.length + i]? = some sg[i] := fun i hi => by
      rw [← Array.getElem?_toList, ar1, List.getElem?_append_right (by omega), show pre.length + i - pre.length = i by omega, List.getElem?_eq_getElem hi]
    have kl : k < sg.length := by omega
    have pw : ∀ i j (hi : i < k) (hj : j < k), i < j → lt (sg[j]'(by omega)) (sg[i]'(by omega)) = false := fun i j hi hj hij => by
      have hh := List.pairwise_iff_getElem.mp so1 i j (by rw [List.length_take]; omega) (by rw [List.length_take]; omega) hij
      rw [List.getElem_take, List.getElem_take] at hh
      exact hh
    have dk : ∀ i (hi : i < sg.length), D sg[i] := fun i hi => hD1 _ (List.getElem_mem _)
    dsimp only
    refine wpS_bind (wpS_mono (wpS_forRange (I := fun x c st' => st' = st1 ∧ c.1 = none ∧ c.2.1 ≤ c.2.2 ∧ c.2.2 ≤ k ∧ c.2.2 - c.2.1 ≤ k - x ∧ (∀ i (hi : i < sg.length), i < c.2.1 → lt sg[k] sg[i] = false) ∧ ∀ i (hi : i < k), c.2.2 ≤ i → lt sg[k] (sg[i]'(by omega)) = true) (Q := fun c st' => st' = st1 ∧ ∃ l, c = (none, l, l) ∧ l ≤ k ∧ (∀ i (hi : i < sg.length), i < l → lt sg[k] sg[i] = false) ∧ ∀ i (hi : i < k), l ≤ i → lt sg[k] (sg[i]'(by omega)) = true) ?_ ?_ ⟨rfl, rfl, Nat.zero_le _, Nat.le_refl _, by show k - 0 ≤ k - 0; omega, fun i hi z => absurd z (Nat.not_lt_zero _), fun i hi z => absurd hi (by have z : k ≤ i := z; omega)⟩) ?_)
    · rintro x ⟨r', l, r⟩ st' _ hx ⟨est, (rfl : r' = none), h1, h2, h3, h4, h5⟩
      obtain rfl : st1 = st' := est.symm
      have h1 : l ≤ r := h1
      have h2 : r ≤ k := h2
      have h3 : r - l ≤ k - x := h3
      dsimp only
      by_cases c : l ≥ r
      · rw [if_pos c]
        have e : l = r := by omega
        subst e
        exact wpS_pure ⟨rfl, l, rfl, h2, h4, h5⟩
      · rw [if_neg c]
        have hm : (l + r) / 2 < r := by omega
        have hm2 : l ≤ (l + r) / 2 := by omega
        generalize (l + r) / 2 = m at hm hm2
        refine wpS_bind (ltAt_ok C (sa.1.trans ks) (at' k kl) (at' m (by omega)) (dk _ _) (dk _ _) ?_)
        cases e : lt sg[k] (sg[m]'(by omega)) with
        | true =>
          refine wpS_pure ⟨rfl, rfl, hm2, by show m ≤ k; omega, by show m - l ≤ k - (x + 1); omega, h4, fun i hi hmi => ?_⟩
          have hmi : m ≤ i := hmi
          rcases Nat.lt_or_eq_of_le hmi with z | z
          · cases e2 : lt sg[k] (sg[i]'(by omega)) with
            | true => rfl
            | false =>
              have := C.od.tr _ _ _ (dk m (by omega)) (dk i (by omega)) (dk k kl) (pw m i (by omega) hi z) e2
              rw [e] at this
              cases this
          · subst z; exact e
        | false =>
          refine wpS_pure ⟨rfl, rfl, by show m + 1 ≤ r; omega, h2, by show r - (m + 1) ≤ k - (x + 1); omega, fun i hi hmi => ?_, h5⟩
          have hmi : i < m + 1 := hmi
          rcases Nat.lt_or_eq_of_le (show i ≤ m by omega) with z | z
          · exact C.od.tr _ _ _ (dk i hi) (dk m (by omega)) (dk k kl) (pw i m (by omega) (by omega) z) e
          · subst z; exact e
    · rintro ⟨r', l, r⟩ st' ⟨est, (rfl : r' = none), h1, h2, h3, h4, h5⟩
      obtain rfl : st1 = st' := est.symm
      have h1 : l ≤ r := h1
      have h3 : r - l ≤ k - max 0 k := h3
      have e : l = r := by omega
      subst e
      exact ⟨rfl, l, rfl, h2, h4, h5⟩
    rintro c st' ⟨est, l, rfl, hl, h4, h5⟩
    obtain rfl : st1 = st' := est.symm
    dsimp only
    refine wpS_bind (wpS_modify (wpS_pure ?_))
    have e0 : sg = sg.take l ++ (sg.take k).drop l ++ sg[k] :: sg.drop (k + 1) := by
      have e1 : sg.take k = sg.take l ++ (sg.take k).drop l := by
        conv => lhs; rw [← List.take_append_drop l (sg.take k), List.take_take, Nat.min_eq_left hl]
      rw [← e1, ← List.drop_eq_getElem_cons kl, List.take_append_drop]
    have la : (sg.take l).length = l := by rw [List.length_take]; omega
    have lb : ((sg.take k).drop l).length = k - l := by rw [List.length_drop, List.length_take]; omega
    have br := bubble_run (arr := arrOf st1) (pre := pre) (a := sg.take l) (b := (sg.take k).drop l) (x := sg[k]) (rest := sg.drop (k + 1)) (by rw [← e0]; exact ar1)
    rw [la, lb, show l + (k - l) = k by omega] at br
    refine ⟨rfl, sg.take l ++ sg[k] :: (sg.take k).drop l ++ sg.drop (k + 1), sa, ?_, ?_, hk, ?_⟩
    · show (bubble (arrOf st1) (pre.length + k) (pre.length + k - (pre.length + l))).toList = _
      rw [show pre.length + k - (pre.length + l) = k - l by omega]
      exact br
    · refine List.Perm.trans ?_ pm
      conv => rhs; rw [e0]
      rw [List.append_assoc, List.append_assoc]
      exact List.Perm.append_left _ List.perm_middle.symm
    · have tk : (sg.take l ++ sg[k] :: (sg.take k).drop l ++ sg.drop (k + 1)).take (k + 1) = sg.take l ++ sg[k] :: (sg.take k).drop l := List.take_left' (by rw [List.length_append, la, List.length_cons, lb]; omega)
      rw [tk]
      have mb : ∀ z ∈ (sg.take k).drop l, ∃ i, ∃ hi : i < k, l ≤ i ∧ z = sg[i]'(by omega) := fun z hz => by
        obtain ⟨j, hj, rfl⟩ := List.mem_iff_getElem.mp hz
        rw [lb] at hj
        exact ⟨l + j, by omega, by omega, by rw [List.getElem_drop, List.getElem_take]⟩
      have ma : ∀ z ∈ sg.take l, ∃ i, ∃ hi : i < sg.length, i < l ∧ z = sg[i] := fun z hz => by
        obtain ⟨j, hj, rfl⟩ := List.mem_iff_getElem.mp hz
        rw [la] at hj
        exact ⟨j, by omega, hj, by rw [List.getElem_take]⟩
      have e1 : sg.take k = sg.take l ++ (sg.take k).drop l := by
        conv => lhs; rw [← List.take_append_drop l (sg.take k), List.take_take, Nat.min_eq_left hl]
      rw [e1] at so1
      obtain ⟨s1, s2, s3⟩ := So.app.mp so1
      refine So.app.mpr ⟨s1, List.pairwise_cons.mpr ⟨fun z hz => ?_, s2⟩, fun z hz y hy => ?_⟩
      · obtain ⟨i, hi, hi2, rfl⟩ := mb z hz
        exact C.od.asy _ _ (dk _ _) (dk _ _) (h5 i hi hi2)
      · rcases List.mem_cons.mp hy with rfl | hy
        · obtain ⟨i, hi, hi2, rfl⟩ := ma z hz
          exact h4 i hi hi2
        · exact s3 z hz y hy
  · rintro c st' ⟨rfl, sg, sa, ar1, pm, hk, so1⟩
    have e : max (max ok 1) n = n := by rw [mx]; exact Nat.max_eq_right hok
    rw [e] at so1
    exact ⟨rfl, sg, sa, ar1, pm, so1⟩
  rintro c st' ⟨rfl, sg, sa, ar1, pm, so1⟩
  exact wpS_pure (h sg st' sa ar1 so1 pm)
end
end TM

namespace TM
open PySem PyProof.Rows
section
variable {M : Model} {A : Around} {E : Value → Shared → Prop} {s : Shared} {κ : SortKind} {D : Keyed → Prop} {lt : Keyed → Keyed → Bool}
theorem jpS {σ α γ : Type} {J : α → StateT σ Sem γ} {X : StateT σ Sem γ} {Q : γ → σ → Prop} {st : σ} (P : α → σ → Prop) (hX : (∀ o st', P o st' → wpS M A E s (J o) Q st') → wpS M A E s X Q st) (hJ : ∀ o st', P o st' → wpS M A E s (J o) Q st') : wpS M A E s X Q st := hX hJ
/-- runs with their powers, as they stand in the list of what is pending -/
noncomputable def pend : Nat → List (List Keyed × Nat) → List (Nat × Nat × Nat)
  | _, [] => []
  | k, (r, w) :: q => (k, r.length, w) :: pend (k + r.length) q
noncomputable def fl (q : List (List Keyed × Nat)) : List Keyed := (q.map (·.1)).flatten
theorem fl_app (a b : List (List Keyed × Nat)) : fl (a ++ b) = fl a ++ fl b := by unfold fl; rw [List.map_append, List.flatten_append]
theorem fl_cons (r : List Keyed) (w : Nat) (b : List (List Keyed × Nat)) : fl ((r, w) :: b) = r ++ fl b := rfl
theorem pend_app : ∀ (a b : List (List Keyed × Nat)) (k : Nat), pend k (a ++ b) = pend k a ++ pend (k + (fl a).length) b
  | [], b, k => rfl
  | (r, w) :: a, b, k => by
    show (k, r.length, w) :: pend (k + r.length) (a ++ b) = (k, r.length, w) :: (pend (k + r.length) a ++ pend (k + (r ++ fl a).length) b)
    rw [pend_app a b, List.length_append, Nat.add_assoc]
theorem pend_len : ∀ (a : List (List Keyed × Nat)) (k : Nat), (pend k a).length = a.length
  | [], _ => rfl
  | (r, w) :: a, k => by show (pend _ a).length + 1 = a.length + 1; rw [pend_len a]
structure Pd (lt : Keyed → Keyed → Bool) (κ : SortKind) (t : List Keyed) (st : SortSt) (qs : List (List Keyed × Nat)) (rest : List Keyed) : Prop where
  ks : kindOf st = κ
  hf : failedOf st = none
  ar : (arrOf st).toList = fl qs ++ rest
  so : ∀ q ∈ qs, So lt q.1 ∧ q.1 ≠ []
  pe : (pendingOf st).toList = pend 0 qs
  pm : (fl qs ++ rest).Perm t
theorem Pd.few {t : List Keyed} {st : SortSt} : ∀ {qs : List (List Keyed × Nat)}, (∀ q ∈ qs, So lt q.1 ∧ q.1 ≠ []) → qs.length ≤ (fl qs).length
  | [], _ => Nat.le_refl _
  | (r, w) :: q, h => by
    have := Pd.few (t := t) (st := st) (qs := q) fun x hx => h x (List.mem_cons_of_mem _ hx)
    have h1 := List.length_pos_iff.mpr (h (r, w) List.mem_cons_self).2
    have h1 : 0 < r.length := h1
    show q.length + 1 ≤ (r ++ fl q).length
    rw [List.length_append]
    omega
theorem merge_pd {st : SortSt} {t : List Keyed} {q1 q2 : List (List Keyed × Nat)} {r1 r2 rest : List Keyed} {w1 w2 : Nat} {Q : Bool → SortSt → Prop} (C : Cp M A E s κ D lt) (hD : ∀ x ∈ t, D x) (P : Pd lt κ t st (q1 ++ (r1, w1) :: (r2, w2) :: q2) rest)
    (h : ∀ st' r, Pd lt κ t st' (q1 ++ (r, w1) :: q2) rest → r.length = r1.length + r2.length → Q true st') : wpS M A E s (mergeAt' q1.length) Q st := by
  have pe := P.pe
  rw [pend_app] at pe
  have pe : (pendingOf st).toList = pend 0 q1 ++ (0 + (fl q1).length, r1.length, w1) :: (0 + (fl q1).length + r1.length, r2.length, w2) :: pend (0 + (fl q1).length + r1.length + r2.length) q2 := pe
  rw [Nat.zero_add] at pe
  have pl := pend_len q1 0
  have o1 := P.so (r1, w1) (List.mem_append_right _ List.mem_cons_self)
  have o2 := P.so (r2, w2) (List.mem_append_right _ (List.mem_cons_of_mem _ List.mem_cons_self))
  have ef : fl (q1 ++ (r1, w1) :: (r2, w2) :: q2) ++ rest = fl q1 ++ (r1 ++ r2) ++ (fl q2 ++ rest) := by
    rw [fl_app, fl_cons, fl_cons]
    simp only [List.append_assoc]
  have ar := P.ar
  have pm := P.pm
  rw [ef] at ar pm
  refine mergeAt_ok (pw := w1) (pw2 := w2) (sa := (fl q1).length) (na := r1.length) (sb := (fl q1).length + r1.length) (nb := r2.length) C P.ks P.hf ⟨?_, ?_, ar, rfl, rfl, rfl, rfl, List.length_pos_iff.mpr o1.2, List.length_pos_iff.mpr o2.2⟩ (fun x hx => hD x (pm.mem_iff.mp (List.mem_append_left _ (List.mem_append_right _ hx)))) o1.1 o2.1 fun st' r a1 a2 a3 a4 a5 a6 => ?_
  · rw [← Array.getElem?_toList, pe, List.getElem?_append_right (by omega), pl, Nat.sub_self]
    rfl
  · rw [← Array.getElem?_toList, pe, List.getElem?_append_right (by omega), pl, show q1.length + 1 - q1.length = 1 by omega]
    rfl
  · have rl := a6.length_eq
    rw [List.length_append] at rl
    have e2 : fl (q1 ++ (r, w1) :: q2) ++ rest = fl q1 ++ r ++ (fl q2 ++ rest) := by
      rw [fl_app, fl_cons]
      simp only [List.append_assoc]
    refine h st' r ⟨a1, a2, by rw [e2]; exact a4, fun q hq => ?_, ?_, ?_⟩ rl
    · rcases List.mem_append.mp hq with h1 | h1
      · exact P.so q (List.mem_append_left _ h1)
      · rcases List.mem_cons.mp h1 with rfl | h1
        · refine ⟨a5, fun z => o1.2 (List.length_eq_zero_iff.mp (show r1.length = 0 from ?_))⟩
          have z : r = [] := z
          rw [z] at rl
          have rl : 0 = r1.length + r2.length := rl
          omega
        · exact P.so q (List.mem_append_right _ (List.mem_cons_of_mem _ (List.mem_cons_of_mem _ h1)))
    · rw [a3]
      unfold joined
      rw [Array.toList_eraseIdxIfInBounds, Array.toList_setIfInBounds, pe, List.set_append_right _ _ (by omega), pl, Nat.sub_self, List.eraseIdx_append_of_length_le (by omega), pl, show q1.length + 1 - q1.length = 1 by omega, pend_app]
      show pend 0 q1 ++ (_ :: pend _ q2) = pend 0 q1 ++ (_ :: pend _ q2)
      rw [Nat.zero_add, rl, Nat.add_assoc]
    · rw [e2]
      exact (List.Perm.append_right _ (List.Perm.append_left _ a6)).trans pm
theorem split2 {α : Type} {l : List α} {i : Nat} (h : i + 1 < l.length) : ∃ a x y b, l = a ++ x :: y :: b ∧ a.length = i := by
  refine ⟨l.take i, l[i]'(by omega), l[i + 1], l.drop (i + 2), ?_, by rw [List.length_take]; omega⟩
  rw [← List.drop_eq_getElem_cons h, ← List.drop_eq_getElem_cons (by omega), List.take_append_drop]
theorem mod_last {α : Type} (x : α) (f : α → α) : ∀ a : List α, (a ++ [x]).modify a.length f = a ++ [f x]
  | [] => rfl
  | y :: a => congrArg (y :: ·) (mod_last x f a)
theorem split1 {α : Type} {l : List α} (h : l ≠ []) : ∃ a x, l = a ++ [x] := ⟨l.dropLast, l.getLast h, (List.dropLast_concat_getLast h).symm⟩
theorem sortRuns_ok {st : SortSt} {Q : Unit → SortSt → Prop} (C : Cp M A E s κ D lt) (an : ∀ x y, D x → D y → lt x y = false → lt y x = false → x = y) (ks : kindOf st = κ) (hf : failedOf st = none) (hp : pendingOf st = #[]) (hD : ∀ x ∈ (arrOf st).toList, D x) (nd : (arrOf st).toList.Nodup)
    (h : ∀ st', failedOf st' = none → So lt (arrOf st').toList → (arrOf st').toList.Perm (arrOf st).toList → Q () st') : wpS M A E s sortRuns' Q st := by
  refine wpS_bind (wpS_get ?_)
  generalize et : (arrOf st).toList = t at hD nd h
  have sz : (arrOf st).size = t.length := by rw [← et, Array.length_toList]
  have P0 : Pd lt κ t st [] t := ⟨ks, hf, et, (fun q hq => nomatch hq), by rw [hp]; rfl, List.Perm.refl _⟩
  dsimp only
  have sz' : (sortPriv% PySem.Builtin.SortState.a) st = arrOf st := rfl
  rw [sz', sz]
  refine wpS_bind (wpS_mono (wpS_forRange (I := fun x c st' => ∃ qs rest, c = (none, (fl qs).length) ∧ Pd lt κ t st' qs rest ∧ x ≤ (fl qs).length) (Q := fun c st' => c.1 = none ∧ ∃ qs, Pd lt κ t st' qs []) ?_ ?_ ⟨[], t, rfl, P0, Nat.zero_le _⟩) ?_)
  · rintro x c st1 _ hx ⟨qs, rest, rfl, P, hx2⟩
    dsimp only
    have sl := P.pm.length_eq
    rw [List.length_append] at sl
    by_cases c : (fl qs).length ≥ t.length
    · rw [if_pos c]
      have r0 : rest = [] := List.length_eq_zero_iff.mp (by omega)
      subst r0
      exact wpS_pure ⟨rfl, qs, P⟩
    rw [if_neg c]
    have dr : ∀ x ∈ rest, D x := fun x hx => hD x (P.pm.mem_iff.mp (List.mem_append_right _ hx))
    have nr : rest.Nodup := by
      have := (P.pm.nodup_iff).mpr nd
      exact (List.nodup_append.mp this).2.1
    rw [show t.length - (fl qs).length = rest.length by omega]
    refine wpS_bind (countRun_ok C an P.ks P.ar dr nr (by omega) fun n r rest2 st2 sa ar2 rl n0 sr pm2 => ?_)
    have P2 : Pd lt κ t st2 qs (r ++ rest2) := ⟨sa.1.trans P.ks, sa.2.2.trans P.hf, ar2, P.so, by rw [sa.2.1]; exact P.pe, (List.Perm.append_left _ pm2).trans P.pm⟩
    have rl2 := pm2.length_eq
    rw [List.length_append] at rl2
    dsimp only
    generalize (sortPriv% PySem.Builtin.minRun) t.length t.length 0 = mr
    refine jpS (α := Nat) (J := ?J1) (fun n st' => ∃ r rest2, Pd lt κ t st' qs (r ++ rest2) ∧ r.length = n ∧ 0 < n ∧ So lt r) (fun hJ => ?_) ?_
    rotate_left
    · by_cases d : n < mr
      · rw [if_pos d]
        refine wpS_bind (wpS_lift (wpAny_rule ⟨rfl, ?_⟩))
        have hm : n ≤ min rest.length mr ∧ min rest.length mr ≤ rest.length := ⟨Nat.le_min.mpr ⟨by omega, by omega⟩, Nat.min_le_left _ _⟩
        generalize min rest.length mr = force at hm
        refine wpS_bind (binarySort_ok C P2.ks P2.ar (fun x hx => dr x (pm2.mem_iff.mp hx)) n0 hm.1 (by rw [List.length_append]; omega) (by rw [List.take_left' rl]; exact sr) fun sg st3 sa3 ar3 so3 pm3 => ?_)
        have sl3 := pm3.length_eq
        rw [List.length_append] at sl3
        rw [if_neg (by decide)]
        exact hJ force st3 ⟨sg.take force, sg.drop force, ⟨sa3.1.trans P2.ks, sa3.2.2.trans P2.hf, by rw [List.take_append_drop]; exact ar3, P.so, by rw [sa3.2.1]; exact P2.pe, by rw [List.take_append_drop]; exact (List.Perm.append_left _ pm3).trans P2.pm⟩, by rw [List.length_take]; omega, by omega, so3⟩
      · rw [if_neg d]
        exact hJ n st2 ⟨r, rest2, P2, rl, n0, sr⟩
    rintro n st3 ⟨r, rest2, P3, rl, n0, sr⟩
    have r0 : r ≠ [] := List.length_pos_iff.mp (by omega)
    have push : ∀ (qs2 : List (List Keyed × Nat)) (st4 : SortSt), Pd lt κ t st4 qs2 (r ++ rest2) → (fl qs2).length = (fl qs).length → Pd lt κ t (SortSt.mk' (kindOf st4) (arrOf st4) ((pendingOf st4).push ((fl qs).length, n, 0)) (gallopOf st4) (failedOf st4)) (qs2 ++ [(r, 0)]) rest2 ∧ (fl (qs2 ++ [(r, 0)])).length = (fl qs).length + n := fun qs2 st4 P4 e4 => by
      have ef : fl (qs2 ++ [(r, 0)]) = fl qs2 ++ r := by
        rw [fl_app, fl_cons]
        show _ ++ (r ++ []) = _
        rw [List.append_nil]
      refine ⟨⟨P4.ks, P4.hf, ?_, fun q hq => ?_, ?_, ?_⟩, ?_⟩
      · rw [ef, List.append_assoc]; exact P4.ar
      · rcases List.mem_append.mp hq with h1 | h1
        · exact P4.so q h1
        · rw [List.mem_singleton.mp h1]; exact ⟨sr, r0⟩
      · show ((pendingOf st4).push ((fl qs).length, n, 0)).toList = _
        rw [Array.toList_push, P4.pe, pend_app, Nat.zero_add, e4, ← rl]
        rfl
      · rw [ef, List.append_assoc]; exact P4.pm
      · rw [ef, List.length_append, e4, rl]
    refine wpS_bind (wpS_get ?_)
    cases eb : (pendingOf st3).back? with
    | none =>
      dsimp only
      refine wpS_bind (wpS_modify (wpS_pure ?_))
      obtain ⟨a1, a2⟩ := push qs st3 P3 rfl
      exact ⟨_, rest2, by rw [a2], a1, by rw [a2]; omega⟩
    | some b =>
      obtain ⟨s1, n1, w1⟩ := b
      dsimp only
      generalize (sortPriv% PySem.Builtin.power) t.length (2 * s1 + n1) (2 * s1 + n1 + n1 + n) t.length = pw
      have qn : qs ≠ [] := fun z => by
        rw [← Array.getLast?_toList, P3.pe, z] at eb
        cases eb
      refine wpS_bind (wpS_mono (wpS_forRange (I := fun _ c st' => c = (none, ()) ∧ ∃ qs2, qs2 ≠ [] ∧ (fl qs2).length = (fl qs).length ∧ Pd lt κ t st' qs2 (r ++ rest2)) (Q := fun c st' => c = (none, ()) ∧ ∃ qs2, qs2 ≠ [] ∧ (fl qs2).length = (fl qs).length ∧ Pd lt κ t st' qs2 (r ++ rest2)) ?_ (fun c st' hh => hh) ⟨rfl, qs, qn, rfl, P3⟩) ?_)
      · rintro y c st4 _ _ ⟨rfl, qs2, q2n, e2, P4⟩
        refine wpS_bind (wpS_get ?_)
        have psz : (pendingOf st4).size = qs2.length := by rw [← Array.length_toList, P4.pe, pend_len]
        by_cases d : (pendingOf st4).size > 1
        · rw [if_pos d]
          obtain ⟨a, ⟨ra, wa⟩, ⟨rb, wb⟩, b, eq, al⟩ := split2 (l := qs2) (i := qs2.length - 2) (by omega)
          have bl : b = [] := by
            have := congrArg List.length eq
            rw [List.length_append, List.length_cons, List.length_cons] at this
            exact List.length_eq_zero_iff.mp (by omega)
          subst bl
          have gp : (pendingOf st4)[(pendingOf st4).size - 2]? = some ((fl a).length, ra.length, wa) := by
            rw [psz, ← Array.getElem?_toList, P4.pe, eq, pend_app, List.getElem?_append_right (by rw [pend_len]; simp only [List.length_append, List.length_cons, List.length_nil]; omega), pend_len]
            rw [show (a ++ (ra, wa) :: [(rb, wb)]).length - 2 - a.length = 0 by simp only [List.length_append, List.length_cons, List.length_nil]; omega, Nat.zero_add]
            rfl
          rw [gp]
          dsimp only
          by_cases d2 : wa ≤ pw
          · rw [if_pos d2]
            exact wpS_pure ⟨rfl, qs2, q2n, e2, P4⟩
          · rw [if_neg d2]
            have ei : (pendingOf st4).size - 2 = a.length := by omega
            refine wpS_bind ?_
            have e3 : (sortPriv% PySem.Builtin.mergeAt) ((pendingOf st4).size - 2) = mergeAt' a.length := by rw [ei]; rfl
            rw [e3]
            refine merge_pd C hD (by rw [eq] at P4; exact P4) fun st5 rm P5 lm => ?_
            rw [if_neg (by decide)]
            refine wpS_pure ⟨rfl, _, fun z => ?_, ?_, P5⟩
            · have := congrArg List.length z
              rw [List.length_append] at this
              exact absurd this (by show a.length + (0 + 1) ≠ 0; omega)
            · rw [← e2, eq, fl_app, fl_app, fl_cons, fl_cons, fl_cons, List.length_append, List.length_append, List.length_append, List.length_append, List.length_append, lm]
              omega
        · rw [if_neg d]
          exact wpS_pure ⟨rfl, qs2, q2n, e2, P4⟩
      rintro c st4 ⟨rfl, qs2, q2n, e2, P4⟩
      dsimp only
      obtain ⟨a, ⟨rz, wz⟩, eq⟩ := split1 q2n
      have P5 : Pd lt κ t (SortSt.mk' (kindOf st4) (arrOf st4) ((pendingOf st4).modify ((pendingOf st4).size - 1) fun x => (x.1, x.2.1, pw)) (gallopOf st4) (failedOf st4)) (a ++ [(rz, pw)]) (r ++ rest2) := by
        rw [eq] at P4
        have ef : fl (a ++ [(rz, pw)]) = fl (a ++ [(rz, wz)]) := by rw [fl_app, fl_app]; rfl
        refine ⟨P4.ks, P4.hf, by rw [ef]; exact P4.ar, fun q hq => ?_, ?_, by rw [ef]; exact P4.pm⟩
        · rcases List.mem_append.mp hq with h1 | h1
          · exact P4.so q (List.mem_append_left _ h1)
          · rw [List.mem_singleton.mp h1]; exact P4.so (rz, wz) (List.mem_append_right _ List.mem_cons_self)
        · have psz : (pendingOf st4).size - 1 = (pend 0 a).length := by
            rw [← Array.length_toList, P4.pe, pend_app, List.length_append]
            rfl
          show ((pendingOf st4).modify ((pendingOf st4).size - 1) fun x => (x.1, x.2.1, pw)).toList = _
          rw [Array.toList_modify, psz, P4.pe, pend_app, pend_app]
          exact mod_last _ _ _
      refine wpS_bind (wpS_modify ?_)
      refine wpS_bind (wpS_modify (wpS_pure ?_))
      have e5 : (fl (a ++ [(rz, pw)])).length = (fl qs).length := by rw [← e2, eq, fl_app, fl_app]; rfl
      obtain ⟨a1, a2⟩ := push _ _ P5 e5
      exact ⟨_, rest2, by rw [a2], a1, by rw [a2]; omega⟩
  · rintro c st1 ⟨qs, rest, rfl, P, hx⟩
    have sl := P.pm.length_eq
    rw [List.length_append] at sl
    have hx : max 0 t.length ≤ (fl qs).length := hx
    have r0 : rest = [] := List.length_eq_zero_iff.mp (by omega)
    subst r0
    exact ⟨rfl, qs, P⟩
  rintro ⟨c, lo⟩ st1 ⟨(rfl : c = none), qs, P⟩
  dsimp only
  have fw := Pd.few (t := t) (st := st1) P.so
  have sl := P.pm.length_eq
  rw [List.append_nil] at sl
  refine wpS_bind (wpS_mono (wpS_forRange (I := fun x c st' => c = (none, ()) ∧ ∃ qs, qs.length + x ≤ t.length ∧ Pd lt κ t st' qs []) (Q := fun c st' => c = (none, ()) ∧ ∃ qs, qs.length ≤ 1 ∧ Pd lt κ t st' qs []) ?_ ?_ ⟨rfl, qs, by omega, P⟩) ?_)
  · rintro y c st4 _ _ ⟨rfl, qs2, ql, P4⟩
    refine wpS_bind (wpS_get ?_)
    have psz : (pendingOf st4).size = qs2.length := by rw [← Array.length_toList, P4.pe, pend_len]
    by_cases d : (pendingOf st4).size ≤ 1
    · rw [if_pos d]
      exact wpS_pure ⟨rfl, qs2, by omega, P4⟩
    rw [if_neg d]
    have key : ∀ i, i + 1 < qs2.length → ∀ {Q' : Bool → SortSt → Prop}, (∀ st' qs, qs.length + 1 = qs2.length → Pd lt κ t st' qs [] → Q' true st') → wpS M A E s (mergeAt' i) Q' st4 := fun i hi Q' hq => by
      obtain ⟨a, ⟨ra, wa⟩, ⟨rb, wb⟩, b, eq, al⟩ := split2 (l := qs2) (i := i) hi
      rw [← al]
      refine merge_pd C hD (by rw [eq] at P4; exact P4) fun st5 rm P5 lm => hq st5 _ ?_ P5
      have := congrArg List.length eq
      rw [List.length_append, List.length_cons, List.length_cons] at this
      rw [List.length_append, List.length_cons]
      omega
    refine wpS_bind (key _ ?_ fun st5 qs5 l5 P5 => ?_)
    rotate_left
    · rw [if_neg (by decide)]
      exact wpS_pure ⟨rfl, qs5, by omega, P5⟩
    have d' : ¬ ((sortPriv% PySem.Builtin.SortState.pending) st4).size ≤ 1 := d
    have psz' : ((sortPriv% PySem.Builtin.SortState.pending) st4).size = qs2.length := psz
    rw [psz'] at d' ⊢
    generalize Option.any _ _ = cc
    cases cc
    · rw [if_neg (by decide)]; omega
    · rw [if_pos rfl]; omega
  · rintro c st4 ⟨rfl, qs2, ql, P4⟩
    have ql : qs2.length + max 0 t.length ≤ t.length := ql
    exact ⟨rfl, qs2, by omega, P4⟩
  rintro c st4 ⟨rfl, qs2, ql, P4⟩
  dsimp only
  have ar := P4.ar
  have pm := P4.pm
  rw [List.append_nil] at ar pm
  refine wpS_pure (h st4 P4.hf ?_ (by rw [ar]; exact pm))
  rw [ar]
  match qs2, ql, P4.so with
  | [], _, _ => exact List.Pairwise.nil
  | [q], _, so =>
    have : fl [q] = q.1 := by show q.1 ++ [] = q.1; rw [List.append_nil]
    rw [this]
    exact (so q List.mem_cons_self).1
end
end TM

/-! ### keys of two numbers compared -/
namespace L2
open PySem PySem.Spec PyProof.Rows
noncomputable def lex2 (a b : Int × Int) : Bool := if a.1 = b.1 then decide (a.2 < b.2) else decide (a.1 < b.1)
theorem lex2_iff {a b : Int × Int} : lex2 a b = true ↔ a.1 < b.1 ∨ (a.1 = b.1 ∧ a.2 < b.2) := by
  unfold lex2
  split
  · rw [decide_eq_true_iff]
    omega
  · rw [decide_eq_true_iff]
    omega
theorem lex2_no {a b : Int × Int} : lex2 a b = false ↔ b.1 < a.1 ∨ (a.1 = b.1 ∧ b.2 ≤ a.2) := by
  unfold lex2
  split
  · rw [decide_eq_false_iff_not]
    omega
  · rw [decide_eq_false_iff_not]
    omega
theorem lex2_one {a b : Int × Int} (h : lex2 a b = false) (k : lex2 b a = false) : a = b := by
  have h := lex2_no.mp h
  have k := lex2_no.mp k
  have e1 : a.1 = b.1 := by omega
  have e2 : a.2 = b.2 := by omega
  cases a; cases b
  simp only at e1 e2
  rw [e1, e2]
section
variable {prog : Program} {w : World} {A : Around} {E : Value → Shared → Prop} {s : Shared} {Q : Bool → Shared → Prop}
theorem key_lt2 {x y : Addr} {tx ux ty uy : Tok} {a b : Int × Int} (hx : IsTup s.heap x #[.int a.1 tx, .int a.2 ux]) (hy : IsTup s.heap y #[.int b.1 ty, .int b.2 uy]) (h : Q (lex2 a b) s) : wpAny (model prog w) A (keyLt' (tuples' true) (.ref x) (.ref y)) Q E s := by
  obtain ⟨ox, ex, cx, nx, dx⟩ := hx
  obtain ⟨oy, ey, cy, ny, dy⟩ := hy
  refine PySem.W.kat_lt ex dx ey dy (PySem.W.kat_cons (wpAny_eqBool_int ?_))
  unfold lex2 at h
  by_cases c : a.1 = b.1
  · have e : (a.1 == b.1) = true := by simpa using c
    rw [e]
    rw [if_pos c] at h
    refine PySem.W.kat_yes (PySem.W.kat_cons (wpAny_eqBool_int ?_))
    by_cases d : a.2 = b.2
    · have e : (a.2 == b.2) = true := by simpa using d
      rw [e]
      rw [decide_eq_false (by omega)] at h
      exact PySem.W.kat_yes (PySem.W.kat_nil h)
    · have e : (a.2 == b.2) = false := by simpa using d
      rw [e]
      exact PySem.W.kat_no (PySem.W.kat_one _ _ (wpAny_lt_int h))
  · have e : (a.1 == b.1) = false := by simpa using c
    rw [e]
    rw [if_neg c] at h
    exact PySem.W.kat_no (oneLt_int h)
end
end L2

/-! ### sorted with a key of two numbers, any number of things -/
namespace L3
open PySem PySem.Spec PyProof.Rows L2
noncomputable def k2PV (g : Int × Int) : PV := .tup [.int g.1, .int g.2]
noncomputable def numI : Value → Int
  | .int n _ => n
  | _ => 0
/-- the two numbers of a key -/
noncomputable def kk (h : Heap) (x : Keyed) : Int × Int := match x.1 with
  | .ref a => match h.get? a with
    | some o => match o.data with
      | .seq xs _ => (numI (xs.getD 0 Value.none), numI (xs.getD 1 Value.none))
      | _ => (0, 0)
    | none => (0, 0)
  | _ => (0, 0)
theorem kk_tup {h : Heap} {a : Addr} {m n : Int} {t u : Tok} {v : Value} (e : IsTup h a #[.int m t, .int n u]) : kk h (.ref a, v) = (m, n) := by
  obtain ⟨o, eo, _, k, d⟩ := e
  unfold kk
  dsimp only
  rw [eo]
  dsimp only
  rw [d]
  rfl
section
variable {X : Cx} {pins : List (Addr × Obj)} {σ : L2.St} {H : Hp} {s t : Shared} {D kS : Addr} {G : Gx} {O : Addr → Bool}
theorem key_facts2 {g : Int × Int} {kv : V} {k : Value} (I : Inv X pins σ H s) (a : At X.K G (mn H O) (k2PV g) kv) (r : RelV kv k) : ∃ x tx ux, k = .ref x ∧ IsTup s.heap x #[.int g.1 tx, .int g.2 ux] := by
  obtain ⟨x, us, rfl, hx, u1, r1, rfl, h1, u2, r2, rfl, h2, hn⟩ := a
  have hn : r2 = [] := hn
  have h1 : u1 = .int g.1 := h1
  have h2 : u2 = .int g.2 := h2
  subst hn h1 h2
  cases r
  obtain ⟨_, its2, rv, tup⟩ := I.hok x _ (mn_get hx).2
  cases rv with
  | cons q0 q1 =>
    cases q1 with
    | cons q2 q3 =>
      cases q3
      obtain ⟨tok, rfl⟩ := q0
      obtain ⟨tok2, rfl⟩ := q2
      exact ⟨x, tok, tok2, rfl, tup⟩
end
section
variable {X : Cx} {pins : List (Addr × Obj)} {σ : L2.St} {H : Hp} {s t : Shared} {D kS : Addr} {G : Gx} {O : Addr → Bool} {A : Around} {f : Value} {its : List Value} {gs : List (Int × Int)} {e1 : Nat} {P : PySem.Fin → Shared → Prop} {E : Value → Shared → Prop}
/-- how a sort ends -/
noncomputable def SFin2 (X : Cx) (pins : List (Addr × Obj)) (σ : L2.St) (H : Hp) (D : Addr) (its : List Value) (gs : List (Int × Int)) (R : Shared → Prop) : Prop :=
  ∀ (H' : Hp) (p : List Nat) (c : Nat) (s' : Shared), Inv X pins σ H' s' → Same H H' → H' D = none → s'.heap.get? D = some (seqObj "list" (sOut its p).toArray c) → p.Perm (List.range its.length) → p.Pairwise (fun i j => lex2 (gs.getD j (0, 0)) (gs.getD i (0, 0)) = false) → R s'
theorem tail2_ok {st : SortSt} {ks : List Value} {p : List Nat} {e : Nat} (I : Inv X pins σ H s) (fD : Fresh X pins D) (fK : Fresh X pins kS) (ne : kS ≠ D) (hD : s.heap.get? D = some (seqObj "list" #[] e1)) (hK : s.heap.get? kS = some (seqObj "list" ks.toArray e)) (HD : H D = none) (HK : H kS = none)
    (h1 : (arrOf st).map (·.2) = (sOut its p).toArray) (h2 : failedOf st = none) (hp : p.Perm (List.range its.length)) (hs : p.Pairwise (fun i j => lex2 (gs.getD j (0, 0)) (gs.getD i (0, 0)) = false)) (l1 : ks.length ≤ 100000) (l2 : its.length ≤ 100000) (fin : SFin2 X pins σ H D its gs fun s' => P (.done (.ret .none)) s') :
    wpAny (model X.prog X.w) A (ksk_tail D false e1 (.ref kS) st) P E s := by
  have s1 := Heap.SameBut.update s.heap kS (Obj.mapSeq fun _ => (#[] : Array Value))
  have g1 := get?_update_seq hK fun _ => (#[] : Array Value)
  have I1 := inv_poke I fK s1 g1 HK
  have hD1 : (s.heap.update kS (Obj.mapSeq fun _ => (#[] : Array Value))).get? D = some (seqObj "list" #[] e1) := by rw [s1.2 D (Ne.symm ne)]; exact hD
  have s2 := Heap.SameBut.update (s.heap.update kS (Obj.mapSeq fun _ => (#[] : Array Value))) D (Obj.mapSeq fun _ => (sOut its p).toArray)
  have g2 := get?_update_seq hD1 fun _ => (sOut its p).toArray
  have I2 := inv_poke I1 fD s2 g2 HD
  have lp : (sOut its p).length ≤ 100000 := by
    unfold sOut
    rw [List.length_map, hp.length_eq, List.length_range]
    exact l2
  unfold ksk_tail
  dsimp only
  rw [h1]
  refine wpAny_bind (listUpdate_at hK rfl (wpAny_bind (wpAny_letGo (wpAny_bind (seqEpoch_at hD1 rfl (wpAny_bind (listUpdate_at hD1 rfl ?_ (Nat.zero_le _) (by
    show (if false = true then _ else (sOut its p).toArray).size ≤ _
    rw [if_neg (by decide), List.size_toArray, sizeLine_eq]
    omega))))))) (by rw [List.size_toArray, sizeLine_eq]; omega) (Nat.zero_le _))
  rw [h2]
  simp only [bne_self_eq_false, Bool.false_eq_true, if_false]
  exact wpAny_pure (fin H p _ _ I2 (Same.refl H) HD g2 hp hs)
theorem tups2_of {h : Heap} : ∀ {ks : List Value}, (∀ k ∈ ks, ∃ x n tx m ux, k = .ref x ∧ IsTup h x #[.int n tx, .int m ux]) → ∃ fs, PySem.W.KatTups h ks fs ∧ fs.length = ks.length ∧ ∀ v ∈ fs, ∃ n tx, v = Value.int n tx
  | [], _ => ⟨[], True.intro, rfl, fun _ h => by cases h⟩
  | k :: ks, hk => by
    obtain ⟨fs, a, b, c⟩ := tups2_of fun k' h' => hk k' (List.mem_cons_of_mem _ h')
    obtain ⟨x, n, tx, m, ux, rfl, o, eo, co, en, dn⟩ := hk k List.mem_cons_self
    refine ⟨.int n tx :: fs, PySem.W.KatTups.cons eo co dn rfl a, by rw [List.length_cons, List.length_cons, b], fun v hv => ?_⟩
    rcases List.mem_cons.mp hv with rfl | hv
    · exact ⟨n, tx, rfl⟩
    · exact c v hv
/-- the keys that are made -/
noncomputable def KGood2 (X : Cx) (G : Gx) (O : Addr → Bool) (H : Hp) (gs : List (Int × Int)) (ks : List Value) : Prop := ∀ j, j < ks.length → ∃ kv k, ks[j]? = some k ∧ RelV kv k ∧ At X.K G (mn H O) (k2PV (gs.getD j (0, 0))) kv
theorem end2_ok {ks : List Value} {e : Nat} (I : Inv X pins σ H s) (fD : Fresh X pins D) (fK : Fresh X pins kS) (ne : kS ≠ D) (hD : s.heap.get? D = some (seqObj "list" #[] e1)) (hK : s.heap.get? kS = some (seqObj "list" ks.toArray e)) (HD : H D = none) (HK : H kS = none)
    (kl : ks.length = its.length) (gl : gs.length = its.length) (kg : KGood2 X G O H gs ks) (nd : gs.Nodup) (l2 : its.length ≤ 100000) (fin : SFin2 X pins σ H D its gs fun s' => P (.done (.ret .none)) s') :
    wpAny (model X.prog X.w) A (ksk_end D false its.toArray e1 (.ref kS) ks.toArray) P E s := by
  unfold ksk_end
  simp only [Bool.false_eq_true, if_false]
  by_cases n2 : its.length < 2
  · rw [if_pos (by rw [List.size_toArray]; exact n2), if_pos (by rw [List.size_toArray]; exact n2)]
    refine wpAny_bind (wpAny_pure (wpAny_bind (wpAny_pure ?_)))
    refine tail2_ok (p := List.range its.length) I fD fK ne hD hK HD HK ?_ rfl (List.Perm.refl _) ?_ (by omega) l2 fin
    · show (ks.toArray.zip its.toArray).map (·.2) = _
      rw [sOut_id]
      apply Array.toList_inj.mp
      rw [Array.toList_map, ksk_zip]
      show List.map Prod.snd (ks.zip its) = its
      exact List.map_snd_zip (by omega)
    · refine List.pairwise_iff_getElem.mpr fun i j hi hj h => ?_
      rw [List.length_range] at hj
      omega
  · rw [if_neg (by rw [List.size_toArray]; exact n2), if_neg (by rw [List.size_toArray]; exact n2)]
    have facts : ∀ j, j < its.length → ∃ x tx ux, ks.getD j Value.none = .ref x ∧ IsTup s.heap x #[.int (gs.getD j (0, 0)).1 tx, .int (gs.getD j (0, 0)).2 ux] := fun j hj => by
      obtain ⟨kv, k, ek, rk, ak⟩ := kg j (by omega)
      obtain ⟨x, tx, ux, rfl, r⟩ := key_facts2 I ak rk
      exact ⟨x, tx, ux, by rw [List.getD_eq_getElem?_getD, ek]; rfl, r⟩
    obtain ⟨fs, tu, fl, fi⟩ := tups2_of (h := s.heap) (ks := ks) fun k hk => by
      obtain ⟨j, hj, rfl⟩ := List.mem_iff_getElem.mp hk
      obtain ⟨x, tx, ux, ex, t⟩ := facts j (by omega)
      rw [List.getD_eq_getElem?_getD, List.getElem?_eq_getElem hj] at ex
      exact ⟨x, _, tx, _, ux, ex, t⟩
    refine wpAny_bind (PySem.W.kat_kind (T := .type "int") tu (by omega) (fun v hv => ?_) (by decide) ?_)
    · obtain ⟨n, tx, rfl⟩ := fi v hv
      exact PySem.W.Looks.of_pure rfl
    have hz : (ks.toArray.zip its.toArray).toList = (List.range its.length).map fun i => (ks.getD i Value.none, its.getD i Value.none) := by
      rw [ksk_zip]
      show ks.zip its = _
      refine List.ext_getElem (by rw [List.length_zip, List.length_map, List.length_range]; omega) fun i h1 h2 => ?_
      rw [List.length_zip] at h1
      rw [List.getElem_zip, List.getElem_map, List.getElem_range, List.getD_eq_getElem?_getD, List.getD_eq_getElem?_getD, List.getElem?_eq_getElem (by omega), List.getElem?_eq_getElem (by omega)]
      rfl
    have kkf : ∀ i, i < its.length → kk s.heap (ks.getD i Value.none, its.getD i Value.none) = gs.getD i (0, 0) := fun i hi => by
      obtain ⟨x, tx, ux, ex, t⟩ := facts i hi
      rw [ex]
      exact kk_tup t
    have mem : ∀ x ∈ (ks.toArray.zip its.toArray).toList, ∃ i, i < its.length ∧ x = (ks.getD i Value.none, its.getD i Value.none) := fun x hx => by
      rw [hz] at hx
      obtain ⟨i, hi, rfl⟩ := List.mem_map.mp hx
      exact ⟨i, List.mem_range.mp hi, rfl⟩
    have one : ∀ i j, i < its.length → j < its.length → gs.getD i (0, 0) = gs.getD j (0, 0) → i = j := fun i j hi hj z => by
      rw [List.getD_eq_getElem?_getD, List.getD_eq_getElem?_getD, List.getElem?_eq_getElem (by omega), List.getElem?_eq_getElem (by omega)] at z
      exact (List.getElem_inj nd).mp z
    have C : TM.Cp (model X.prog X.w) A E s (tuples' true) (fun x => x ∈ (ks.toArray.zip its.toArray).toList) fun x y => lex2 (kk s.heap x) (kk s.heap y) := by
      refine ⟨⟨fun x y _ _ h => ?_, fun x y z _ _ _ h k => ?_⟩, fun {x y st Q} hx hy hk q => ?_⟩
      · have h := lex2_iff.mp h
        exact lex2_no.mpr (by omega)
      · have h := lex2_no.mp h
        have k := lex2_no.mp k
        exact lex2_no.mpr (by omega)
      · obtain ⟨i, hi, rfl⟩ := mem x hx
        obtain ⟨j, hj, rfl⟩ := mem y hy
        obtain ⟨x, tx, ux, ex, t1⟩ := facts i hi
        obtain ⟨y, ty, uy, ey, t2⟩ := facts j hj
        rw [kkf i hi, kkf j hj] at q
        rw [lt'_eq]
        refine wpS_bind (wpS_get ?_)
        rw [hk]
        refine wpS_bind (wpS_lift (wpAny_attempt ?_))
        dsimp only
        rw [ex, ey]
        exact key_lt2 t1 t2 ⟨rfl, wpS_pure q⟩
    refine wpAny_bind (wpAny_mono (TM.sortRuns_ok (st := SortSt.mk' (tuples' true) (ks.toArray.zip its.toArray) #[] 7 none) (Q := fun _ st' => failedOf st' = none ∧ TM.So (fun x y => lex2 (kk s.heap x) (kk s.heap y)) (arrOf st').toList ∧ (arrOf st').toList.Perm (ks.toArray.zip its.toArray).toList) C (fun x y hx hy h k => ?_) rfl rfl rfl (fun x hx => hx) ?_ fun st' a b c => ⟨a, b, c⟩) (fun r s' h => ?_) fun _ _ x => x)
    · obtain ⟨i, hi, rfl⟩ := mem x hx
      obtain ⟨j, hj, rfl⟩ := mem y hy
      have e := lex2_one h k
      rw [kkf i hi, kkf j hj] at e
      rw [one i j hi hj e]
    · show (ks.toArray.zip its.toArray).toList.Nodup
      rw [hz]
      refine List.nodup_iff_pairwise_ne.mpr (List.pairwise_map.mpr ((List.nodup_iff_pairwise_ne.mp List.nodup_range).imp_of_mem fun {a b} ha hb h z => h ?_))
      have ha := List.mem_range.mp ha
      have hb := List.mem_range.mp hb
      refine one a b ha hb ?_
      rw [← kkf a ha, ← kkf b hb, z]
    · obtain ⟨u, st⟩ := r
      obtain ⟨es, nf, so, pm⟩ := h
      have es : s' = s := es
      have nf : failedOf st = none := nf
      have so : TM.So (fun x y => lex2 (kk s.heap x) (kk s.heap y)) (arrOf st).toList := so
      have pm : (arrOf st).toList.Perm (ks.toArray.zip its.toArray).toList := pm
      subst es
      obtain ⟨p, pr, ep⟩ := perm_map_inv pm hz.symm
      refine tail2_ok (p := p) I fD fK ne hD hK HD HK ?_ nf pr ?_ (by omega) l2 fin
      · apply Array.toList_inj.mp
        rw [Array.toList_map, ← ep, List.map_map]
        rfl
      · rw [← ep] at so
        refine (List.pairwise_map.mp so).imp_of_mem fun {a b} ha hb h => ?_
        have la := List.mem_range.mp (pr.mem_iff.mp ha)
        have lb := List.mem_range.mp (pr.mem_iff.mp hb)
        have h : lex2 (kk s'.heap (ks.getD b Value.none, its.getD b Value.none)) (kk s'.heap (ks.getD a Value.none, its.getD a Value.none)) = false := h
        rw [kkf a la, kkf b lb] at h
        exact h
theorem rest2_ok (I : Inv X pins σ H s) (fD : Fresh X pins D) (fK : Fresh X pins kS) (ne : kS ≠ D) (hD : s.heap.get? D = some (seqObj "list" #[] e1)) (hK : s.heap.get? kS = some (seqObj "list" #[] 0)) (HD : H D = none) (HK : H kS = none)
    (gl : gs.length = its.length) (nd : gs.Nodup) (l2 : its.length ≤ 100000)
    (key : ∀ (pins' : List (Addr × Obj)) (H1 : Hp) (s1 : Shared) (i : Nat) (v : Value), its[i]? = some v → Inv X pins' σ H1 s1 → (∀ q ∈ pins, q ∈ pins') → Same H H1 → wpAny (model X.prog X.w) A (call f [v]) (fun k s' => ∃ kv H', Inv X pins' σ H' s' ∧ Same H1 H' ∧ RelV kv k ∧ At X.K G (mn H' O) (k2PV (gs.getD i (0, 0))) kv) (fun _ _ => False) s1)
    (fin : SFin2 X pins σ H D its gs fun s' => P (.done (.ret .none)) s') :
    wpAny (model X.prog X.w) A (ksk_rest D f false its.toArray e1 (.ref kS)) P E s := by
  unfold ksk_rest
  refine wpAny_bind (wpAny_rule ?_)
  first
    | rw [List.forIn_toArray]
    | (rw [← Array.forIn_toList]; simp only [List.toList_toArray])
  refine wpAny_bind (ksk_fold (fun i s' => ∃ ks H' e, Inv X pins σ H' s' ∧ Same H H' ∧ H' D = none ∧ H' kS = none ∧ s'.heap.get? D = some (seqObj "list" #[] e1) ∧ s'.heap.get? kS = some (seqObj "list" (List.toArray ks) e) ∧ ks.length = i ∧ KGood2 X G O H' gs ks) its 0 s ⟨[], H, 0, I, Same.refl H, HD, HK, hD, hK, rfl, fun j hj => by cases hj⟩ ?_ ?_)
  · rintro j x s' hx ⟨ks, H', e, I', s1, d1, d2, o1, o2, lk, kg⟩
    have jl : j < its.length := (List.getElem?_eq_some_iff.mp hx).1
    have Ip := inv_pin (inv_pin I' o2 d2 fK.loc fK.fs fun v z => by cases z) o1 d1 fD.loc fD.fs fun v z => by cases z
    refine wpAny_bind (wpAny_attempt (wpAny_mono (key _ H' s' j x hx Ip (fun q hq => List.mem_cons_of_mem _ (List.mem_cons_of_mem _ hq)) s1) (fun k s2 h => ?_) fun _ _ z => z.elim))
    obtain ⟨kv, H2, I2, q2, rk, ak⟩ := h
    obtain ⟨I3, o3, d3⟩ := inv_unpin I2
    obtain ⟨I4, o4, d4⟩ := inv_unpin I3
    have o3 : s2.heap.get? D = some (seqObj "list" #[] e1) := o3
    have o4 : s2.heap.get? kS = some (seqObj "list" (List.toArray ks) e) := o4
    have d3 : H2 D = none := d3
    have d4 : H2 kS = none := d4
    have sb := Heap.SameBut.update s2.heap kS (Obj.mapSeq (·.push k))
    have g4 := get?_update_seq o4 (·.push k)
    have g4 : (s2.heap.update kS (Obj.mapSeq (·.push k))).get? kS = some (seqObj "list" (List.toArray (ks ++ [k])) (if (((List.toArray ks).push k).size == (List.toArray ks).size) = true then e else e + 1)) := g4.trans (by rw [show (List.toArray ks).push k = List.toArray (ks ++ [k]) by simp])
    have I5 := inv_poke I4 fK sb g4 d4
    have o5 : (s2.heap.update kS (Obj.mapSeq (·.push k))).get? D = some (seqObj "list" #[] e1) := by rw [sb.2 D (Ne.symm ne)]; exact o3
    refine wpAny_bind (listUpdate_at o4 rfl (wpAny_pure ⟨rfl, ks ++ [k], H2, _, I5, s1.trans q2, d3, d4, o5, g4, by rw [List.length_append, lk]; rfl, fun i hi => ?_⟩) (by rw [List.size_toArray, sizeLine_eq]; omega) (by
      show (((List.toArray ks).push k).size) ≤ _
      rw [Array.size_push, List.size_toArray, sizeLine_eq]
      omega))
    rw [List.length_append, List.length_singleton] at hi
    by_cases c : i < ks.length
    · obtain ⟨kv', k', a1, a2, a3⟩ := kg i c
      exact ⟨kv', k', by rw [List.getElem?_append_left c]; exact a1, a2, At.mono (mn_same q2) _ _ a3⟩
    · have : i = j := by omega
      subst this
      exact ⟨kv, k, by rw [List.getElem?_append_right (by omega), show i - ks.length = 0 by omega]; rfl, rk, ak⟩
  · rintro s' ⟨ks, H', e, I', s1, d1, d2, o1, o2, lk, kg⟩
    refine wpAny_bind (listItems_at o2 rfl ?_)
    exact end2_ok I' fD fK ne o1 o2 d1 d2 (by omega) gl kg nd l2 fun H2 p c s2 a b d e f g => fin H2 p c s2 a (s1.trans b) d e f g
theorem tree2_ok {n0 : Nat} (I : Inv X pins σ H s) (fD : Fresh X pins D) (hD : s.heap.get? D = some (seqObj "list" its.toArray n0)) (HD : H D = none)
    (gl : gs.length = its.length) (nd : gs.Nodup) (l2 : its.length ≤ 100000)
    (key : ∀ (pins' : List (Addr × Obj)) (H1 : Hp) (s1 : Shared) (i : Nat) (v : Value), its[i]? = some v → Inv X pins' σ H1 s1 → (∀ q ∈ pins, q ∈ pins') → Same H H1 → wpAny (model X.prog X.w) A (call f [v]) (fun k s' => ∃ kv H', Inv X pins' σ H' s' ∧ Same H1 H' ∧ RelV kv k ∧ At X.K G (mn H' O) (k2PV (gs.getD i (0, 0))) kv) (fun _ _ => False) s1)
    (fin : SFin2 X pins σ H D its gs fun s' => P (.done (.ret .none)) s') :
    wpAny (model X.prog X.w) A (ksk_tree D f false) P E s := by
  have s1 := Heap.SameBut.update s.heap D (Obj.mapSeq fun _ => (#[] : Array Value))
  have g1 := get?_update_seq hD fun _ => (#[] : Array Value)
  have I1 := inv_poke I fD s1 g1 HD
  have hn : (s.heap.update D (Obj.mapSeq fun _ => (#[] : Array Value))).objs.size ≤ ((s.heap.update D (Obj.mapSeq fun _ => (#[] : Array Value))).push (seqObj "tuple" its.toArray 0)).objs.size := by rw [size_push']; omega
  have I2 := I1.kept (h' := ((s.heap.update D (Obj.mapSeq fun _ => (#[] : Array Value))).push (seqObj "tuple" its.toArray 0)).push (seqObj "list" #[] 0)) (t' := s.toks) fun b o e => Heap.get?_push_of_some _ (Heap.get?_push_of_some _ e)
  have fK : Fresh X pins ((s.heap.update D (Obj.mapSeq fun _ => (#[] : Array Value))).push (seqObj "tuple" its.toArray 0)).objs.size := Fresh.of I1 hn
  have HK : H ((s.heap.update D (Obj.mapSeq fun _ => (#[] : Array Value))).push (seqObj "tuple" its.toArray 0)).objs.size = none := I1.hok.fresh hn
  have nKD : ((s.heap.update D (Obj.mapSeq fun _ => (#[] : Array Value))).push (seqObj "tuple" its.toArray 0)).objs.size ≠ D := Nat.ne_of_gt (Nat.lt_of_lt_of_le (Heap.lt_size g1) hn)
  unfold ksk_tree
  refine wpAny_bind (listItems_at hD rfl (wpAny_bind (listUpdate_at hD rfl (wpAny_bind (seqEpoch_at g1 rfl (wpAny_bind (wpAny_newTuple (wpAny_bind (wpAny_newList (wpAny_holding ?_) (Nat.zero_le _))) (by show its.length ≤ _; rw [sizeLine_eq]; omega))))) (by rw [List.size_toArray, sizeLine_eq]; omega) (Nat.zero_le _))))
  exact rest2_ok (s := { s with heap := ((s.heap.update D (Obj.mapSeq fun _ => (#[] : Array Value))).push (seqObj "tuple" its.toArray 0)).push (seqObj "list" #[] 0) }) I2 fD fK nKD (Heap.get?_push_of_some _ (Heap.get?_push_of_some _ g1)) (Heap.get?_push_size _ rfl) HD HK gl nd l2 key fin
end
end L3

/-! ### sorted(.., key=..) over values, keys of two numbers -/
namespace L3
open PySem PySem.Spec PyProof.Rows L2
open Classical in
noncomputable def sort2 (kf : PV → Int × Int) (ps : List PV) : List PV := if h : ∃ l : List PV, l.Perm ps ∧ l.Pairwise (fun a b => lex2 (kf b) (kf a) = false) then h.choose else []
theorem nodup_inj {kf : PV → Int × Int} {ps : List PV} (nd : (ps.map kf).Nodup) {x y : PV} (hx : x ∈ ps) (hy : y ∈ ps) (e : kf x = kf y) : x = y := by
  obtain ⟨i, hi, rfl⟩ := List.mem_iff_getElem.mp hx
  obtain ⟨j, hj, rfl⟩ := List.mem_iff_getElem.mp hy
  have := (List.getElem_inj nd (i := i) (j := j) (h₀ := by rw [List.length_map]; exact hi) (h₁ := by rw [List.length_map]; exact hj)).mp (by rw [List.getElem_map, List.getElem_map]; exact e)
  subst this
  rfl
theorem sort2_eq {kf : PV → Int × Int} {l ps : List PV} (nd : (ps.map kf).Nodup) (p : l.Perm ps) (o : l.Pairwise fun a b => lex2 (kf b) (kf a) = false) : sort2 kf ps = l := by
  have h : ∃ l : List PV, l.Perm ps ∧ l.Pairwise (fun a b => lex2 (kf b) (kf a) = false) := ⟨l, p, o⟩
  unfold sort2
  rw [dif_pos h]
  obtain ⟨p2, o2⟩ := h.choose_spec
  exact List.Perm.eq_of_pairwise (fun a b ha hb h1 h2 => nodup_inj nd (p2.mem_iff.mp ha) (p.mem_iff.mp hb) (lex2_one h2 h1)) o2 o (p2.trans p.symm)
section
variable {X : Cx} {pins : List (Addr × Obj)} {σ : L2.St} {H : Hp} {s t : Shared} {D l : Addr} {G : Gx} {O : Addr → Bool} {f : Value} {its : List Value} {gs : List (Int × Int)} {E : Value → Shared → Prop}
theorem sort2_run {Q : Value → Shared → Prop} (I : Inv X pins σ H t) (hl : t.heap.IsList l its.toArray) (gl : gs.length = its.length) (nd : gs.Nodup) (l2 : its.length ≤ 100000)
    (ht : ∀ x, Builtin.«list.sort» ⟨[.ref x], [(Str.ofString "key", f)]⟩ = ksk_tree x f false)
    (key : ∀ (pins' : List (Addr × Obj)) (H1 : Hp) (s1 : Shared) (i : Nat) (v : Value), its[i]? = some v → Inv X pins' σ H1 s1 → (∀ q ∈ pins, q ∈ pins') → Same H H1 → wpAny (model X.prog X.w) X.A.in1.in1 (call f [v]) (fun k s' => ∃ kv H', Inv X pins' σ H' s' ∧ Same H1 H' ∧ RelV kv k ∧ At X.K G (mn H' O) (k2PV (gs.getD i (0, 0))) kv) (fun _ _ => False) s1)
    (fin : ∀ D, H D = none → Fresh X pins D → SFin2 X pins σ H D its gs fun s' => Q (.ref D) s') :
    wpAny (model X.prog X.w) X.A (call (.builtin "sorted") [.ref l] [(Str.ofString "key", f)]) Q E t := by
  refine call_function_entry_kw kind_sorted plain_sorted entry_sorted (ksk_s1 _ _) ?_
  unfold Builtin.«sorted»
  have small : its.length ≤ sizeLine := by rw [sizeLine_eq]; omega
  refine wpAny_bind (m := checkCount "sorted" 1 1 _) (wpAny_pure (wpAny_bind (collect_list hl (wpAny_bind (wpAny_newList ?_ small)) small)))
  generalize hh : (t.heap.push (seqObj "list" #[] 0)).update t.heap.objs.size (Obj.mapSeq (· ++ its.toArray)) = h1
  have sz : h1.objs.size = t.heap.objs.size + 1 := by rw [← hh, Heap.size_update, size_push']
  have kp : ∀ b o, t.heap.get? b = some o → h1.get? b = some o := fun b o q => by
    have := Heap.lt_size q
    rw [← hh, Heap.get?_update_ne _ _ _ _ (Nat.ne_of_lt this), Heap.get?_push_ne _ _ _ (Nat.ne_of_lt this)]
    exact q
  have I1 := I.kept (h' := h1.push (seqObj "list" its.toArray 0)) (t' := t.toks) fun b o q => Heap.get?_push_of_some _ (kp b o q)
  have le : t.heap.objs.size ≤ h1.objs.size := by omega
  have hD : (h1.push (seqObj "list" its.toArray 0)).get? h1.objs.size = some (seqObj "list" its.toArray 0) := Heap.get?_push_size _ rfl
  have HD : H h1.objs.size = none := I.hok.fresh le
  have fD := Fresh.of I le
  refine wpAny_bind (wpAny_holding (wpAny_call_entry_kw slot_list_sort ⟨_, hD, rfl⟩ entry_list_sort ?_ (ksk_l1 _ _)))
  show wpAny (model X.prog X.w) X.A.in1.in1 (Builtin.«list.sort» ⟨[.ref h1.objs.size], [(Str.ofString "key", f)]⟩) _ _ _
  rw [ht]
  exact tree2_ok (s := { t with heap := h1.push (seqObj "list" its.toArray 0) }) I1 fD hD HD gl nd l2 key fun H' p c s' a b d e f g => ⟨_, rfl, wpAny_pure ⟨_, rfl, fin _ HD fD H' p c s' a b d e f g⟩⟩
/-- all of it over values -/
theorem sorted2_ok {ps : List PV} {xs : List V} {Q : VK} (kf : PV → Int × Int) (I : Inv X pins σ H t) (rd : Rd H l (.lst xs)) (al : AtL X.K G (mn H O) ps xs) (l64 : ps.length ≤ 100000) (nd : (ps.map kf).Nodup)
    (ht : ∀ x, Builtin.«list.sort» ⟨[.ref x], [(Str.ofString "key", f)]⟩ = ksk_tree x f false)
    (key : ∀ (pins' : List (Addr × Obj)) (H1 : Hp) (s1 : Shared) (p : PV) (v : V) (u : Value), p ∈ ps → At X.K G (mn H1 O) p v → RelV v u → Inv X pins' σ H1 s1 → (∀ q ∈ pins, q ∈ pins') → Same H H1 →
      wpAny (model X.prog X.w) X.A.in1.in1 (call f [u]) (fun k s' => ∃ kv H', Inv X pins' σ H' s' ∧ Same H1 H' ∧ RelV kv k ∧ At X.K G (mn H' O) (k2PV (kf p)) kv) (fun _ _ => False) s1)
    (q : ∀ (a : Addr) (vs : List V) (H' : Hp), Same H H' → H a = none → H' a = some (.lst vs) → AtL X.K G (mn H' (hide a O)) (sort2 kf ps) vs → Q (V.ref a) H') :
    wpAny (model X.prog X.w) X.A (call (.builtin "sorted") [.ref l] [(Str.ofString "key", f)]) (EP X pins σ Q) E t := by
  obtain ⟨_, its, n, r, hlen, e⟩ := L3.Inv.lstR I rd
  have lps : ps.length = xs.length := al.length
  have gl : (ps.map kf).length = its.length := by rw [List.length_map]; omega
  have gat : ∀ i, i < ps.length → ∃ p, ps[i]? = some p ∧ (ps.map kf).getD i (0, 0) = kf p := fun i hi => ⟨ps[i], List.getElem?_eq_getElem hi, by rw [List.getD_eq_getElem?_getD, List.getElem?_map, List.getElem?_eq_getElem hi]; rfl⟩
  refine sort2_run (G := G) (O := O) I ⟨_, e, rfl, n, rfl⟩ gl nd (by omega) ht (fun pins' H1 s1 i v hv I1 ip s1' => ?_) fun D nD fD H' p c s' I' sm hD eD pr so => ?_
  · have il : i < its.length := (List.getElem?_eq_some_iff.mp hv).1
    obtain ⟨pp, ep, eg⟩ := gat i (by omega)
    obtain ⟨xv, hxv, at1⟩ := al.at ep
    obtain ⟨v', hv', rl⟩ := r.get hxv
    rw [hv] at hv'; cases hv'
    rw [eg]
    exact key pins' H1 s1 pp xv v (List.mem_of_getElem? ep) (At.mono (mn_same s1') _ _ at1) rl I1 ip s1'
  · have pl : ∀ i ∈ p, i < its.length := fun i hi => List.mem_range.mp (pr.mem_iff.mp hi)
    have get : ∀ i ∈ p, ∃ pp xv v, ps[i]? = some pp ∧ xs[i]? = some xv ∧ its[i]? = some v ∧ At X.K G (mn H O) pp xv ∧ RelV xv v := fun i hi => by
      obtain ⟨pp, ep, _⟩ := gat i (by have := pl i hi; omega)
      obtain ⟨xv, hxv, at1⟩ := al.at ep
      obtain ⟨v', hv', rl⟩ := r.get hxv
      exact ⟨pp, xv, v', ep, hxv, hv', at1, rl⟩
    have rv : Vals (p.map fun i => xs.getD i .non) (sOut its p) := by
      unfold sOut
      clear so pr eD
      induction p with
      | nil => exact .nil
      | cons i p ih =>
        obtain ⟨pp, xv, v, a, b, c', d, e'⟩ := get i List.mem_cons_self
        refine .cons ?_ (ih (fun i hi => pl i (List.mem_cons_of_mem _ hi)) fun i hi => get i (List.mem_cons_of_mem _ hi))
        dsimp only
        rw [List.getD_eq_getElem?_getD, List.getD_eq_getElem?_getD, b, c']
        exact e'
    have sl : (p.map fun i => xs.getD i .non).length ≤ sizeLine := by
      rw [List.length_map, pr.length_eq, List.length_range, sizeLine_eq]
      omega
    have I3 := inv_track I' fD hD eD rv sl
    have sD : Same H' (upd H' D (.lst (p.map fun i => xs.getD i .non))) := same_new hD _
    have es : sort2 kf ps = p.map fun i => ps.getD i .non := by
      refine sort2_eq nd ?_ ?_
      · have h1 : (p.map fun i => ps.getD i .non).Perm ((List.range its.length).map fun i => ps.getD i .non) := pr.map _
        have h2 : ((List.range its.length).map fun i => ps.getD i .non) = ps := by
          refine List.ext_getElem (by rw [List.length_map, List.length_range]; omega) fun i h1 h2 => ?_
          rw [List.getElem_map, List.getElem_range, List.getD_eq_getElem?_getD, List.getElem?_eq_getElem h2]
          rfl
        rw [h2] at h1
        exact h1
      · rw [List.pairwise_map]
        refine so.imp_of_mem fun {a b} ha hb h => ?_
        obtain ⟨pa, ea, ga⟩ := gat a (by have := pl a ha; omega)
        obtain ⟨pb, eb, gb⟩ := gat b (by have := pl b hb; omega)
        rw [ga, gb] at h
        rw [List.getD_eq_getElem?_getD, List.getD_eq_getElem?_getD, ea, eb]
        exact h
    refine ⟨.ref D, _, I3, rfl, q D _ _ (sm.trans sD) nD upd_same ?_⟩
    rw [es]
    refine AtL.mono (mn_hide (sm.trans sD) nD) _ _ ?_
    clear so pr eD es sl I3 sD rv
    induction p with
    | nil => exact rfl
    | cons i p ih =>
      obtain ⟨pp, xv, v, a, b, c', d, e'⟩ := get i List.mem_cons_self
      refine ⟨_, _, rfl, ?_, ih (fun i hi => pl i (List.mem_cons_of_mem _ hi)) fun i hi => get i (List.mem_cons_of_mem _ hi)⟩
      dsimp only
      rw [List.getD_eq_getElem?_getD, List.getD_eq_getElem?_getD, a, b]
      exact d
end
end L3

/-! ### sorted(numbers, key=lambda y: (fn(y), y)) -/
namespace L2
open PySem PySem.Spec PyProof.Rows
section
variable {prog : Program} {w : World} {A : Around} {s : Shared} {Q : Value → Shared → Prop} {E : Value → Shared → Prop}
/-- lambda y: (fn(y), y), called with any value -/
theorem lam_call3 {f c' fa : Addr} {wv pm ctv : Value} {y q fn : Str} {params : Arguments} {scope : Scope} {p1 p2 pf pc pt : Pos} {x1 : Nat} {K : PySem.W.Frag} {mg : Str → Option Value} {base : Heap}
    (ho : s.heap.get? f = some (PySem.W.kla_obj "<lambda>" q params (.Tuple [.Call (.Name fn pf) [.Name y p1] [] pc, .Name y p2] x1 pt) scope [] pm c' ctv)) (hcd : s.heap.CodeRec (.ref c') q) (hroom : A.depth < recursionLimit) (hlim : s.heap.NoLimit)
    (hbind : bindArgs (PySem.W.kla_fn "<lambda>" q params (.Tuple [.Call (.Name fn pf) [.Name y p1] [] pc, .Name y p2] x1 pt) scope [] pm (.ref c') ctv) ⟨[wv], []⟩ = pure [(y, wv)])
    (hloc : scope.names.lookup y = some .local) (hnc : ∀ z ∈ scope.names, z.2 ≠ .cell) (hk : scope.kind = .function) (hco : scope.isCoroutine = false) (hgen : scope.isGenerator = false) (hyd : (y == ("__debug__" : Str)) = false)
    (hgl : scope.names.lookup fn = some .globalImplicit) (hfd : (fn == ("__debug__" : Str)) = false) (hmod : s.heap.Ns mainGlobals mg) (hm : mg fn = some (.ref fa)) (hKb : K.In base) (hkeep : PySem.W.keepIn K (.ref fa) = true)
    (he : ∀ env : Env, starEach [.Name y p1] env = (false, eval (.Name y p1) env) :: starEach [] env) (he2 : ∀ env : Env, starEach [.Call (.Name fn pf) [.Name y p1] [] pc, .Name y p2] env = (false, eval (.Call (.Name fn pf) [.Name y p1] [] pc) env) :: starEach [.Name y p2] env) (he3 : ∀ env : Env, starEach [.Name y p2] env = (false, eval (.Name y p2) env) :: starEach [] env)
    (kin : ∀ h', (∀ b o, s.heap.get? b = some o → h'.get? b = some o) → K.In h')
    (h : ∀ h' tk o es ep, (∀ b o, s.heap.get? b = some o → h'.get? b = some o) → h'.get? s.heap.objs.size = some o → o.data = .dict es ep → s.heap.objs.size < h'.objs.size → wpAny (model prog w) (A.deeper (PySem.W.envX q scope s.heap.objs.size f (.ref c') [])) (call (.ref fa) [wv]) (fun k1 s2 => (∃ sl, s2.heap.get? s.heap.objs.size = some { o with slots := sl }) ∧ Q (.ref s2.heap.objs.size) { s2 with heap := s2.heap.push { cls := .type "tuple", data := .seq #[k1, wv] } }) (fun _ _ => False) { s with heap := h', toks := tk }) :
    wpAny (model prog w) A (call (.ref f) [wv]) Q E s := by
  refine wpAny_call (PySem.W.kla_callFunE hroom ho rfl hco hgen rfl hcd ?_)
  rw [hbind]
  refine wpAny_pure (wpAny_newFunctionEnv hnc (fun z hz => ?_) (fun h₁ hns hsb => ⟨hlim.fresh _ hsb, ?_⟩) hk)
  · rw [List.mem_singleton.mp hz]
    exact hloc
  have hk₁ : ∀ b o, s.heap.get? b = some o → h₁.get? b = some o := fun b o e => hsb.extBut b o (Nat.ne_of_lt (Heap.lt_size e)) (Heap.get?_push_of_some _ e)
  show codeAny _ _ (.expr _ (PySem.W.envX q scope s.heap.objs.size f (.ref c') [])) _ _
  refine PySem.W.kla_codeExpr ?_
  have hlt := hns.lt
  have lk : List.lookup y [(y, wv)].reverse = some wv := by simp
  refine wpAny_Tuple_spliced (args_cons (wpAny_Call_Name_kw (Calls.Name_function_global hk hgl (Calls.loadGlobal_global (hmod.keeps hk₁) hm ?_) hfd)) (he2 _))
  refine PySem.W.callWith_K (h₀ := base) hKb hkeep ?_ (he _) rfl
  refine args_cons (wpAny_Name (wpAny_loadName_local hk hloc hns (v := wv) lk ?_) hyd) (he _)
  obtain ⟨o, es, ep, e, d, r⟩ := hns
  refine args_nil ⟨kin h₁ hk₁, ?_⟩
  refine wpAny_mono (h _ _ o es ep hk₁ e d hlt) (fun k1 s2 h2 => ?_) fun _ _ x => x.elim
  obtain ⟨⟨sl, e2⟩, hq⟩ := h2
  refine args_cons (wpAny_Name (wpAny_loadName_local hk hloc (⟨_, es, ep, e2, d, r⟩ : s2.heap.Ns s.heap.objs.size _) (v := wv) lk ?_) hyd) (he3 _)
  exact args_nil ⟨by show 2 ≤ sizeLine; rw [sizeLine_eq]; decide, hq⟩
end
end L2
namespace L3
open PySem PySem.Spec PyProof.Rows L2
theorem ints_of_atL {K : PySem.W.Frag} {G : Gx} {H : Hp} : ∀ {ns : List Int} {vs : List V}, AtL K G H (ns.map PV.int) vs → vs = ns.map V.int
  | [], vs, h => h
  | n :: r, vs, h => by
    obtain ⟨v, ws, rfl, h1, h2⟩ := h
    have h1 : v = .int n := h1
    rw [h1, ints_of_atL h2]
    rfl
noncomputable def leN (cf : Int → Int) (a b : Int) : Bool := !lex2 (cf b, b) (cf a, a)
/-- numbers by what cf tells of them, those alike by themselves -/
noncomputable def sortN (cf : Int → Int) (ns : List Int) : List Int := ns.mergeSort (leN cf)
theorem leN_iff {cf : Int → Int} {a b : Int} : leN cf a b = true ↔ lex2 (cf b, b) (cf a, a) = false := by
  unfold leN
  cases lex2 (cf b, b) (cf a, a) <;> simp
theorem sortN_so (cf : Int → Int) (ns : List Int) : (sortN cf ns).Pairwise fun a b => lex2 (cf b, b) (cf a, a) = false := by
  have := List.pairwise_mergeSort (le := leN cf) (fun a b c h k => ?_) (fun a b => ?_) ns
  · exact this.imp fun h => leN_iff.mp h
  · have h := lex2_no.mp (leN_iff.mp h)
    have k := lex2_no.mp (leN_iff.mp k)
    refine leN_iff.mpr (lex2_no.mpr ?_)
    simp only at h k ⊢
    omega
  · rw [Bool.or_eq_true]
    rw [leN_iff, leN_iff, lex2_no, lex2_no]
    simp only
    omega
theorem sortN_perm (cf : Int → Int) (ns : List Int) : (sortN cf ns).Perm ns := List.mergeSort_perm ns _
noncomputable def kfN (cf : Int → Int) : PV → Int × Int
  | .int n => (cf n, n)
  | _ => (0, 0)
theorem sort2_ints {cf : Int → Int} {ns : List Int} (nd : ((ns.map PV.int).map (kfN cf)).Nodup) : sort2 (kfN cf) (ns.map PV.int) = (sortN cf ns).map PV.int :=
  sort2_eq nd ((sortN_perm cf ns).map _) (List.pairwise_map.mpr (sortN_so cf ns))
theorem kfN_nd {cf : Int → Int} {ns : List Int} (nd : ns.Nodup) : ((ns.map PV.int).map (kfN cf)).Nodup := by
  rw [List.map_map]
  refine List.nodup_iff_pairwise_ne.mpr (List.pairwise_map.mpr ((List.nodup_iff_pairwise_ne.mp nd).imp fun {a b} h z => h ?_))
  have z : (cf a, a) = (cf b, b) := z
  exact congrArg Prod.snd z
section
variable {X : Cx} {pins : List (Addr × Obj)} {σ : L2.St} {H : Hp} {s : Shared} {G : Gx} {O : Addr → Bool} {A : Around} {pre : List PV → Prop} {F : List PV → PV} {j k : Nat} {fn : Str} {x : Str}
theorem run_key2 {outer : List Env} {ch : List Addr} {fa L : Addr} {oL : Obj} {fd : FuncData} {p : PV} {v : V} {u : Value} (FF : FnOk X.prog X.w X.K X.mg X.base CX0 j fa fd [x] (spF X.K G pre F)) (hb : Binds X.K fd [x] []) (hr : Room j A) (e0 : Env0 X.prog X.w X.K X.mg X.base A outer s H) (I : Inv X pins σ H s)
    (ho : ∀ b ∈ frs outer, b ∈ frs X.stack ∨ b ∈ ch) (hch : ∀ b ∈ ch, Fresh X pins b) (dom : ∀ a, O a = true → H a ≠ none) (at1 : At X.K G (mn H O) p v) (rl : RelV v u) (hp : pre [p]) (eL : s.heap.get? L = some oL) (nL : H L = none) :
    wpAny (model X.prog X.w) A (call (.ref fa) [u]) (fun k s' => ∃ kv H', Inv X pins σ H' s' ∧ Same H H' ∧ RelV kv k ∧ At X.K G (mn H' O) (F [p]) kv ∧ H' L = none ∧ ∃ sl, s'.heap.get? L = some { oL with slots := sl }) (fun _ _ => False) s := by
  refine wpAny_call (codeAny_mono (FF.run A outer s H ⟨[u], []⟩ [u] [v] (fun kv H' => Same H H' ∧ At X.K G (mn H' O) (F [p]) kv) (fun _ _ _ => False) hr e0 (hb s [u] I.kIn rfl) (.cons rl .nil) ⟨[p], O, dom, ⟨v, [], rfl, at1, rfl⟩, hp, fun kv H' a b => ⟨a, b⟩⟩) fun r s' hq => ?_)
  cases r with
  | error e => exact False.elim hq
  | ok fl =>
    cases fl with
    | ret u =>
      obtain ⟨kv, H', os, bare, un, hok, r, q1, q2⟩ := hq
      refine ⟨kv, H', I.call' (ch := ch) os ⟨fun b o e n h1 h2 => un.keep b o e n (fun z => (ho b z).elim h1 h2) (by simp), fun b o e n h1 h2 => ?_, fun b o e n _ => un.free b o e n (by simp), fun b o e _ => un.there b o e (by simp), un.tups, un.frzs, un.tbls⟩ hok bare fun b hb => ?_, q1, r, q2, un.free L oL eL nL (by simp), un.any eL nL (by simp)⟩
      · exact un.any e n (by simp)
      · have F := hch b hb
        exact ⟨.inr F.big, F.loc, F.cel, F.pin⟩
    | next => exact False.elim hq
    | brk => exact False.elim hq
    | cont => exact False.elim hq
end
section
variable {X : Cx} {G : Gx} {a : Expr} {pos p kp posL p1 p2 pf pc pt : Pos} {Ca : En → Prop} {ga : En → PV} {ns : En → List Int} {j k x1 : Nat} {x y fn : Str} {params : Arguments} {scope : Scope} {pre : List PV → Prop} {F : List PV → Int}
/-- sorted(numbers, key=lambda y: (fn(y), y)) -/
theorem xl_sort2 (cf : Int → Int) (o : Ok X.prog X.w X.K X.mg X.base j fn [x] (spFI X.K G pre F)) (hl : LamC X.K X.env.code (X.env.qual ++ "<lambda>")) (hr : Room k X.A) (hm : X.mg "sorted" = none) (ha : PE X a (tX X.K G Ca fun ρ => .ints (ns ρ))) (hj : j + 3 ≤ k := by decide) (hdb : (fn == ("__debug__" : Str)) = false := by decide) (hg : Gl X "sorted" := by rfl) (he : starEach [a] X.env = [(false, eval a X.env)] := by rfl)
    (hdef : defaultsOf params X.env = ([], []) := by rfl) (hcl : closureFor scope X.env = pure [] := by rfl)
    (hbind : ∀ (pm ctv wv : Value) (c' : Addr), bindArgs (PySem.W.kla_fn "<lambda>" (X.env.qual ++ "<lambda>") params (.Tuple [.Call (.Name fn pf) [.Name y p1] [] pc, .Name y p2] x1 pt) scope [] pm (.ref c') ctv) ⟨[wv], []⟩ = pure [(y, wv)] := by intros; rfl)
    (hs1 : ∀ env : Env, starEach [.Name y p1] env = (false, eval (.Name y p1) env) :: starEach [] env := by intros; rfl) (hs2 : ∀ env : Env, starEach [.Call (.Name fn pf) [.Name y p1] [] pc, .Name y p2] env = (false, eval (.Call (.Name fn pf) [.Name y p1] [] pc) env) :: starEach [.Name y p2] env := by intros; rfl) (hs3 : ∀ env : Env, starEach [.Name y p2] env = (false, eval (.Name y p2) env) :: starEach [] env := by intros; rfl)
    (hloc : scope.names.lookup y = some .local := by rfl) (hnc : ∀ z ∈ scope.names, z.2 ≠ .cell := by decide) (hk : scope.kind = .function := by rfl) (hco : scope.isCoroutine = false := by rfl) (hgen : scope.isGenerator = false := by rfl) (hyd : (y == ("__debug__" : Str)) = false := by decide) (hgl : scope.names.lookup fn = some .globalImplicit := by rfl) :
    PE X (.Call (.Name "sorted" p) [a] [⟨some "key", .Lambda params (.Tuple [.Call (.Name fn pf) [.Name y p1] [] pc, .Name y p2] x1 pt) scope posL, kp⟩] pos) (tXl X.K G (fun ρ => Ca ρ ∧ (ns ρ).length ≤ 100000 ∧ (ns ρ).Nodup ∧ ∀ n ∈ ns ρ, pre [.int n] ∧ F [.int n] = cf n) fun ρ => sortN cf (ns ρ)) := by
  intro pins s σ H Q I ⟨B, ρ, O, R, c, q⟩
  refine wpAny_Call_Name_kw (ld_blt I hg hm bt_sorted ?_ (by decide) (by decide))
  refine PyProof.Rows.callWith_kw (thn (pa_cons ha pa_nil he pos pins s σ H (fun vs H' => ∃ l, vs = [.ref l] ∧ Same H H' ∧ Rd (mn H' O) l (.lst ((ns ρ).map V.int))) I ⟨B, ρ, O, R, c.1, fun v H1 s1 a1 => ?_⟩) fun us t1 h => ?_) (by rw [he]; rfl) (by rw [he]; rfl)
  · obtain ⟨l, rfl, r1⟩ := a1
    exact ⟨l, rfl, s1, r1⟩
  obtain ⟨vs, H1, I1, rv, l, rfl, s1, rd⟩ := h
  obtain ⟨u, rfl, ru⟩ := vals1 rv
  cases ru
  obtain ⟨cc, P, hcode, hx⟩ := hl
  obtain ⟨_, len, nd, PF⟩ := c
  have q : ∀ (a : Addr) (H' : Hp), Same H H' → H a = none → H' a = some (HO.lst ((sortN cf (ns ρ)).map V.int)) → Q (V.ref a) H' := q
  generalize ns ρ = ps at *
  obtain ⟨fa, fd, FF, hb, hkp, hmg⟩ := o.ex
  refine kws_cons (lam_eval I1 hcode hx rfl hdef hcl _ fun f c' ctv H2 t2 I2 kp2 tb2 hf fn0 fz os fnew => kws_nil ?_)
  have s2 : Same H1 H2 := fun b o e => by
    cases o <;> first | exact kp2 b _ e (fun t z => by cases z) | (obtain ⟨ps', z⟩ := tb2 b _ e; exact ⟨ps', z⟩)
  show wpAny _ _ (call (.builtin "sorted") [.ref l] [("key", .ref f)]) _ _ t2
  have hr2 : Room (j + 3) X.A := hr.mono hj
  have dom : ∀ a, O a = true → H2 a ≠ none := fun a z y => (R.grow s1).dom a z (s2.free y)
  have fF := Fresh.of I1 fnew
  have Ip := inv_pin I2 hf fn0 fF.loc fF.fs fun v z => by cases z
  obtain ⟨oc, fu, fz1, fz2⟩ := fz
  have al : AtL X.K G (mn H2 O) (ps.map PV.int) (ps.map V.int) := atL_of_ints ps
  refine wpAny_mono (sorted2_ok (Q := Q) (kfN cf) Ip (same_rd (mn_le.trans s2) rd) al (by rw [List.length_map]; exact len) (kfN_nd nd) (fun x => ksk_t1 _ _) (fun pins' H3 s3 pp v u hp at1 rl I3 ip sm => ?_) fun a vs H' sm n e alv => q a H' ((s1.trans s2).trans sm) ((s1.trans s2).free n) ?_) (fun r s' h => ?_) fun _ _ z => z
  · obtain ⟨n, hn, rfl⟩ := List.mem_map.mp hp
    obtain ⟨g1, g2⟩ := PF n hn
    have at0 := at1
    have at1 : v = .int n := at1
    subst at1
    obtain ⟨tok, rfl⟩ := rl
    have hf3 := (I3.pin (f, _) (List.mem_append_right _ (ip _ List.mem_cons_self))).1
    have hc3 : H3 c' = some (.frz oc fu) := by
      have := sm c' _ fz1
      exact this
    have A1 : Room (j + 1) X.A.in1.in1 := hr2.in1.in1
    refine lam_call3 (mg := X.mg) (K := X.K) (base := X.base) hf3 (CodeQ.rec (I3.hok c' _ hc3).1 fz2) A1.depth (I3.ok.mod.nolimit.keeps I3.bk) (hbind _ _ _ _) hloc hnc hk hco hgen hyd hgl hdb (I3.mod.glob.keeps I3.bk) hmg I3.mod.kin hkp hs1 hs2 hs3 (fun h' kk => fun b o e => kk b o (I3.kIn b o e)) fun h' tk o es ep kk eL dL lt => ?_
    have I4 := I3.kept (h' := h') (t' := tk) kk
    have fL := Fresh.of I3 (Nat.le_refl s3.heap.objs.size)
    have HL : H3 s3.heap.objs.size = none := I3.hok.fresh (Nat.le_refl _)
    have bL : X.base.get? s3.heap.objs.size = none := Heap.get?_none_of_le (Nat.le_trans I3.env0.bsz (Nat.le_refl _))
    have e0 := I4.env0.in1.in1
    have := run_key2 (O := O) (ch := [s3.heap.objs.size]) (outer := PySem.W.envX (X.env.qual ++ "<lambda>") scope s3.heap.objs.size f (.ref c') [] :: X.stack) (A := X.A.in1.in1.deeper (PySem.W.envX (X.env.qual ++ "<lambda>") scope s3.heap.objs.size f (.ref c') [])) (u := .int n tok) FF hb (A1.deeper _)
      ⟨by
        show Option.map _ X.A.in1.in1.frames = _
        rw [e0.frames]
        rfl, e0.mod, e0.bs, e0.bsz, ⟨(fun z => nomatch hk.symm.trans (show scope.kind = .module from z)), ⟨s3.heap.objs.size, o, rfl, bL, eL, fun vs z => by rw [dL] at z; cases z⟩, e0.funs⟩, ⟨fun b hb => (List.mem_cons.mp hb).elim (fun z => by rw [z]; exact HL) fun z => e0.frf.f b z, e0.frf.t⟩, e0.hok, e0.bare⟩
      I4 (fun b z => (List.mem_cons.mp z).elim (fun z => .inr (by rw [z]; exact List.mem_singleton.mpr rfl)) fun z => .inl z) (fun b z => by rw [List.mem_singleton.mp z]; exact fL) (fun a z y => dom a z (sm.free y)) at0 ⟨tok, rfl⟩ g1 eL HL
    refine wpAny_mono this (fun k1 s5 h5 => ?_) fun _ _ z => z
    obtain ⟨kv, H5, I5, sm5, rk, ak, nL5, sl5⟩ := h5
    refine ⟨sl5, ?_⟩
    have ak : kv = .int (F [.int n]) := ak
    rw [g2] at ak
    subst ak
    have hf5 : H5 s5.heap.objs.size = none := I5.hok.fresh (Nat.le_refl _)
    refine ⟨.ref s5.heap.objs.size, upd H5 s5.heap.objs.size (.tup [.int (cf n), .int n]), I5.laid (t' := s5.toks) (fun b u e => Heap.get?_push_of_some _ e) (Nat.le_refl _) ?_, sm5.trans (same_new hf5 _), rfl, ?_⟩
    · exact ⟨by show 2 ≤ sizeLine; rw [sizeLine_eq]; decide, [k1, .int n tok], .cons rk (.cons ⟨tok, rfl⟩ .nil), ⟨_, Heap.get?_push_size _ rfl, rfl, _, rfl⟩⟩
    · refine ⟨s5.heap.objs.size, [.int (cf n), .int n], rfl, ?_, .int (cf n), _, rfl, rfl, .int n, _, rfl, rfl, rfl⟩
      rw [mn_of]
      · exact upd_same
      · cases y : O s5.heap.objs.size with
        | false => rfl
        | true => exact absurd ((sm.trans sm5).free hf5) (dom _ y)
  · rw [e]
    rw [sort2_ints (kfN_nd nd)] at alv
    rw [ints_of_atL alv]
  · obtain ⟨v, H', I', rv, qv⟩ := h
    exact ⟨v, H', (inv_unpin I').1, rv, qv⟩
end
end L3

/-! ### <<, >>, & -/
namespace L3
open PySem PySem.Spec PyProof.Rows L2
section
variable {X : Cx} {G : Gx} {a b : Expr} {pos : Pos} {Ca Cb : En → Prop} {ga gb : En → Int}
theorem xn_shl (ha : PE X a (tXI X.K G Ca ga)) (hb : PE X b (tXI X.K G Cb gb)) : PE X (.BinOp a .LShift b pos) (tXI X.K G (fun ρ => Ca ρ ∧ Cb ρ ∧ (0 ≤ gb ρ ∧ (Builtin.Int.intBits (ga ρ) : Int) + gb ρ ≤ 2 ^ 27)) fun ρ => ga ρ * 2 ^ (gb ρ).toNat) :=
  xn_op (C := fun i j => 0 ≤ j ∧ (Builtin.Int.intBits i : Int) + j ≤ 2 ^ 27) (g := fun i j => i * 2 ^ j.toNat) (opI fun i j _ _ _ _ _ hc q => lshift_int hc.1 hc.2 q) ha hb
theorem two_nn (k : Nat) : (0 : Int) ≤ 2 ^ k := Int.le_of_lt (PySem.W.kbt_pos k)
theorem opT_shr : OpR X (binaryOp .RShift) (rI (fun _ j => 0 ≤ j) fun i j => .int (i / 2 ^ j.toNat)) := opI fun i j _ _ _ _ _ hc q => rshift_int hc (by rw [Int.fdiv_eq_ediv_of_nonneg i (two_nn _)]; exact q)
theorem op_and1 : OpR X (binaryOp .BitAnd) (rI (fun _ j => j = 1) fun i _ => .int (i % 2)) := opI fun i j _ _ _ _ _ hc q => and_int (by
  have hc : j = 1 := hc
  have e : Builtin.bitAnd i j = i % 2 := by rw [hc]; exact PySem.W.kbt_mask i 1
  rw [e]
  exact q)
theorem xn_shr (ha : PE X a (tXI X.K G Ca ga)) (hb : PE X b (tXI X.K G Cb gb)) : PE X (.BinOp a .RShift b pos) (tXI X.K G (fun ρ => Ca ρ ∧ Cb ρ ∧ 0 ≤ gb ρ) fun ρ => ga ρ / 2 ^ (gb ρ).toNat) := xn_op opT_shr ha hb
theorem xn_and1 (ha : PE X a (tXI X.K G Ca ga)) (hb : PE X b (tXI X.K G Cb gb)) : PE X (.BinOp a .BitAnd b pos) (tXI X.K G (fun ρ => Ca ρ ∧ Cb ρ ∧ gb ρ = 1) fun ρ => ga ρ % 2) := xn_op op_and1 ha hb
end
end L3

/-! ### a comprehension with a test over range(a, b) -/
namespace L3
open PySem PySem.Spec PyProof.Rows L2
section
variable {K : PySem.W.Frag} {G : Gx} {σ : L2.St} {H : Hp} {Q : VK} {Ca C2 Ct Cb : En → Prop} {pt : En → Prop} [∀ ρ, Decidable (pt ρ)] {ga gb : En → Int} {gp : En → PV} {cap : List (Option Nat)}
theorem lc_RT2 (h : tXp K G (fun ρ => (Ca ρ ∧ C2 ρ) ∧ (-(2 ^ 62) ≤ ga ρ ∧ ga ρ < 2 ^ 62 ∧ -(2 ^ 62) ≤ gb ρ ∧ gb ρ < 2 ^ 62) ∧ (gb ρ - ga ρ).toNat ≤ 10000 ∧ ∀ k : Nat, k < (gb ρ - ga ρ).toNat → Ct ((capR (none :: cap) ρ).set 0 (.fr (.int (ga ρ + k)))) ∧ (pt ((capR (none :: cap) ρ).set 0 (.fr (.int (ga ρ + k)))) → Cb ((capR (none :: cap) ρ).set 0 (.fr (.int (ga ρ + k))))))
      (fun ρ => ((List.range (gb ρ - ga ρ).toNat).filter fun (k : Nat) => decide (pt ((capR (none :: cap) ρ).set 0 (.fr (.int (ga ρ + k)))))).map fun (k : Nat) => gp ((capR (none :: cap) ρ).set 0 (.fr (.int (ga ρ + k))))) σ H Q) :
    tLC (none :: cap) (iRng2 (tCons (tXI K G Ca ga) (tCons (tXI K G C2 gb) tNil))) (gName 0) (tXT K G Ct pt) (tX K G Cb gp) σ H Q := by
  obtain ⟨B, ρ, O, R, ⟨⟨c1, c2⟩, l, c4, c5⟩, q⟩ := h
  refine ⟨B, ρ, O, R, c1, fun v H1 s1 a1 => ⟨B, ρ, O, R.grow s1, c2, fun u H2 s2 a2 => ?_⟩⟩
  have a1 : v = .int (ga ρ) := a1
  have a2 : u = .int (gb ρ) := a2
  subst a1 a2
  have hz : (List.range (gb ρ - ga ρ).toNat).length = (gb ρ - ga ρ).toNat := List.length_range
  refine ⟨ga ρ, gb ρ, rfl, l, fun D hD => ?_⟩
  refine lc_mainT (List.range (gb ρ - ga ρ).toNat) (fun _ v => (capS (none :: cap) σ).set 0 (some v)) (fun (k : Nat) => (capR (none :: cap) ρ).set 0 (.fr (.int (ga ρ + k)))) (fun (k : Nat) => .int (ga ρ + k)) ((R.grow s1).grow s2) hD (by rw [hz]; exact c4) (fun i H hi s => by rw [hz] at hi; exact hi) ?_ (fun H s => by rw [hz]; exact Nat.le_refl _) (fun k H _ s R' => R'.set (p := .int _) rfl) ?_ (fun k hk => (c5 k (List.mem_range.mp hk)).1) (fun k hk => (c5 k (List.mem_range.mp hk)).2) ?_
  · rintro i k x H H' en s ⟨rfl, rfl⟩
    have hlt : i < (gb ρ - ga ρ).toNat := by
      have := (List.getElem?_eq_some_iff.mp en).1
      rw [hz] at this
      exact this
    rw [List.getElem?_range hlt] at en
    cases en
    exact ⟨Same.refl _, fun kk hk => hk⟩
  · intro k
    show ExtS (none :: capS cap σ) (some (.int _) :: capS cap σ)
    exact ext_refl _
  · intro H' ys s hd al
    exact q D ys H' ((s1.trans s2).trans s) ((s1.trans s2).free hD) hd al
end
section
variable {X : Cx} {G : Gx} {Er : ER} {N' : List Str} {sc : Scope} {cl : List (Str × Addr)} {cap : List (Option Nat)} {el tg a b tst : Expr} {at' p px pos' spos : Pos} {Ca C2 Ct Cb : En → Prop} {pt : En → Prop} [∀ ρ, Decidable (pt ρ)] {ga gb : En → Int} {gi : En → Int} {i : Nat} {x : Str}
theorem xst_lcRT2f (hN : X.N.Nodup) (hi' : X.N[i]? = some x) (hx : X.env.scope.names.lookup x = some .local) (L : LcOk X N' sc cl (none :: cap)) (hc : X.calm = true) (hgl : Gl X "range") (hm : X.mg "range" = none) (ha : PE X a (tXI X.K G Ca ga)) (hb : PE X b (tXI X.K G C2 gb)) (hg : ∀ s H fp, PG (cxComp X N' sc cl s H fp) tg (gName 0)) (ht : ∀ s H fp, PT (cxComp X N' sc cl s H fp) tst (tXT X.K G Ct pt)) (he : ∀ s H fp, PE (cxComp X N' sc cl s H fp) el (tXI X.K G Cb gi))
    (hsw : swapsWith (.ListComp el [⟨tg, .Call (.Name "range" p) [a, b] [] pos', [tst], 0⟩] sc at') (some (.Name x px)) spos.line X.env = pure true) (hst : starEach [a, b] X.env = [(false, eval a X.env), (false, eval b X.env)] := by rfl) (hs2 : starEach [b] X.env = [(false, eval b X.env)] := by rfl) (hs : ∀ x, foldedSetIterable (.Call (.Name "range" p) [a, b] [] pos') X.env x = pure x := by intro _; rfl) :
    PS X (.Assign [.Name x px] (.ListComp el [⟨tg, .Call (.Name "range" p) [a, b] [] pos', [tst], 0⟩] sc at') spos) (ts X.K G Er fun P ρ => ((Ca ρ ∧ C2 ρ) ∧ (-(2 ^ 62) ≤ ga ρ ∧ ga ρ < 2 ^ 62 ∧ -(2 ^ 62) ≤ gb ρ ∧ gb ρ < 2 ^ 62) ∧ (gb ρ - ga ρ).toNat ≤ 10000 ∧ ∀ k : Nat, k < (gb ρ - ga ρ).toNat → Ct ((capR (none :: cap) ρ).set 0 (.fr (.int (ga ρ + k)))) ∧ (pt ((capR (none :: cap) ρ).set 0 (.fr (.int (ga ρ + k)))) → Cb ((capR (none :: cap) ρ).set 0 (.fr (.int (ga ρ + k)))))) ∧ ∀ ns, ns = (((List.range (gb ρ - ga ρ).toNat).filter fun (k : Nat) => decide (pt ((capR (none :: cap) ρ).set 0 (.fr (.int (ga ρ + k)))))).map fun (k : Nat) => gi ((capR (none :: cap) ρ).set 0 (.fr (.int (ga ρ + k))))) → P.nx (ρ.set i (.fr (.ints ns)))) :=
  fr_of (ps_lc hN hi' hx L hc (pi_range2 hgl hm (pa_cons ha (pa_cons hb pa_nil hs2) (by rw [hst, hs2])) hst hs2) hg (fun s H fp => pts_one (ht s H fp)) he hsw hs) fun σ H Q h => lc_RT2 (p_of_l h)
end
end L3

/-! ### lists of one's own lists: the rules -/
namespace L3
open PySem PySem.Spec PyProof.Rows L2
theorem atI_ref {as : List Addr} {i : Int} (h1 : -(as.length : Int) ≤ i) (h2 : i < as.length) : ∃ a, as[ixO as.length i]? = some a ∧ atI (as.map V.ref) i = some (V.ref a) := by
  have hl : ixO as.length i < as.length := by unfold ixO; split <;> omega
  refine ⟨as[ixO as.length i], List.getElem?_eq_getElem hl, ?_⟩
  unfold atI
  rw [List.length_map, ixN_ok h1 h2]
  show (as.map V.ref)[ixO as.length i]? = _
  rw [List.getElem?_map, List.getElem?_eq_getElem hl]
  rfl
section
variable {K : PySem.W.Frag} {G : Gx} {B : Bs} {σ : L2.St} {H : Hp} {ρ : En} {O : Addr → Bool} {i : Nat} {Q : VK} {Cs : En → Prop} {gn : En → Int} {cap : List (Option Nat)}
theorem ol_lc (R : Rep K G B σ H ρ O) (c1 : Cs ρ) (c2 : 0 ≤ gn ρ ∧ gn ρ ≤ 1000) (q : ∀ D as H', Same H H' → (∀ a ∈ as, H a = none) → as.Nodup → EachAt H' as (List.replicate (gn ρ).toNat []) → H D = none → H' D = some (.lst (as.map V.ref)) → Q (.ref D) H') :
    tLC (none :: cap) (iRng1 (tCons (tXI K G Cs gn) tNil)) (gName 0) noTest (tLst tNil) σ H Q := by
  refine ⟨B, ρ, O, R, c1, fun v H1 s1 a1 => ?_⟩
  have a1 : v = .int (gn ρ) := a1
  subst a1
  refine ⟨gn ρ, rfl, by omega, by omega, fun D hD => ?_⟩
  refine ⟨fun i m ys H' => m = (gn ρ).toNat - i ∧ i ≤ (gn ρ).toNat ∧ ∃ as, ys = as.map V.ref ∧ as.length = i ∧ Same H1 H' ∧ H' D = some (.lst ys) ∧ (∀ a ∈ as, H1 a = none ∧ a ≠ D) ∧ as.Nodup ∧ EachAt H' as (List.replicate i []), ⟨(gn ρ).toNat, by simp, Nat.zero_le _, [], rfl, rfl, same_new hD _, upd_same, (fun a ha => nomatch ha), List.nodup_nil, rfl, (fun k a e => nomatch e)⟩, ?_⟩
  rintro i m ys H' ⟨rfl, hi, as, rfl, al, hs, hd, nas, nd, ea⟩
  refine ⟨hd, small1000 (by rw [List.length_map]; omega), ?_⟩
  by_cases hlt : i < (gn ρ).toNat
  · refine .inr ⟨hlt, ?_⟩
    rintro x H2 ⟨rfl, rfl⟩
    refine ⟨?_, ?_⟩
    · show ExtS (none :: capS cap σ) (some (.int _) :: capS cap σ)
      exact ext_refl _
    refine iteT ⟨Nat.zero_le _, fun a na => ?_⟩
    have naD : a ≠ D := Ne.symm (ne_of_none hd na)
    have nas' : a ∉ as := fun z => ea.has z na
    refine ⟨by rw [upd_ne (Ne.symm naD)]; exact hd, (gn ρ).toNat - (i + 1), by omega, rfl, hlt, as ++ [a], by rw [List.map_append]; rfl, by rw [List.length_append, al]; rfl, fun b o z => ?_, upd_same, fun b hb => ?_, ?_, by rw [List.length_append, List.length_replicate, al]; rfl, fun k b eb => ?_⟩
    · rw [upd_ne (ne_of_none z hD)]
      exact (hs.trans (same_new na _)) b o z
    · rcases List.mem_append.mp hb with hb | hb
      · exact nas b hb
      · rw [List.mem_singleton.mp hb]; exact ⟨hs.free na, naD⟩
    · exact List.nodup_append.mpr ⟨nd, by simp, fun x hx y hy z => nas' (by rw [List.mem_singleton.mp hy] at z; rw [← z]; exact hx)⟩
    · have e0 : (List.replicate (i + 1) ([] : List Int)).getD k [] = [] := by
        rw [List.getD_eq_getElem?_getD, List.getElem?_replicate]
        split <;> rfl
      rw [e0]
      by_cases kl : k < as.length
      · rw [List.getElem?_append_left kl] at eb
        have mb := List.mem_of_getElem? eb
        have e1 : (List.replicate i ([] : List Int)).getD k [] = [] := by
          rw [List.getD_eq_getElem?_getD, List.getElem?_replicate]
          split <;> rfl
        have := ea.2 k b eb
        rw [e1] at this
        rw [upd_ne (nas b mb).2, upd_ne (fun z => nas' (by rw [← z]; exact mb))]
        exact this
      · rw [List.getElem?_append_right (by omega)] at eb
        have m0 : k - as.length = 0 := by
          have := (List.getElem?_eq_some_iff.mp eb).1
          rw [List.length_singleton] at this
          omega
        rw [m0] at eb
        cases eb
        rw [upd_ne naD]
        exact upd_same
  · have e : i = (gn ρ).toNat := by omega
    refine .inl ⟨by show (gn ρ).toNat ≤ i; omega, ?_⟩
    rw [e] at ea
    exact q D as H' (s1.trans hs) (fun a ha => s1.free (nas a ha).1) nd ea (s1.free hD) hd
noncomputable def showL (as : List Addr) (O : Addr → Bool) : Addr → Bool := fun b => if b ∈ as then false else O b
theorem showL_in {as : List Addr} {b : Addr} (h : b ∈ as) : showL as O b = false := by unfold showL; rw [if_pos h]
theorem showL_out {as : List Addr} {b : Addr} (h : b ∉ as) : showL as O b = O b := by unfold showL; rw [if_neg h]
theorem showL_le {as : List Addr} : ∀ b, showL as O b = true → O b = true := fun b h => by
  by_cases c : b ∈ as
  · rw [showL_in c] at h; cases h
  · rw [showL_out c] at h; exact h
noncomputable def frzT (ρ : En) (i : Nat) : En := match ρ[i]? with
  | some (.o2 xss) => ρ.set i (.fr (.lst (xss.map PV.ints)))
  | _ => ρ
theorem each_atL {H' : Hp} : ∀ {as : List Addr} {xss : List (List Int)}, as.length = xss.length → (∀ (k : Nat) a, as[k]? = some a → Rd H' a (.lst ((xss.getD k []).map V.int))) → AtL K G H' (xss.map PV.ints) (as.map V.ref)
  | [], [], _, _ => rfl
  | [], _ :: _, h, _ => nomatch h
  | _ :: _, [], h, _ => nomatch h
  | a :: as, xs :: xss, h, e => ⟨.ref a, as.map V.ref, rfl, ⟨a, rfl, e 0 a rfl⟩, each_atL (Nat.succ.inj h) fun k b eb => e (k + 1) b eb⟩
/-- they are changed no more -/
theorem Rep.freezeT (R : Rep K G B σ H ρ O) (i : Nat) : ∃ O', Rep K G B σ H (frzT ρ i) O' := by
  unfold frzT
  split
  · rename_i xss e
    obtain ⟨D, as, z⟩ := R.o2 i xss e
    have sub : Same (mn H O) (mn H (showL (D :: as) O)) := mn_anti showL_le
    have n0 : ∀ b ∈ D :: as, B.H0 b = none := fun b hb => (List.mem_cons.mp hb).elim (fun y => by rw [y]; exact z.nD) fun y => (z.el b y).2
    have hp : At K G (mn H (showL (D :: as) O)) (.lst (xss.map PV.ints)) (.ref D) := by
      refine ⟨D, as.map V.ref, rfl, .inl (by rw [mn_of (showL_in List.mem_cons_self)]; exact z.hD), each_atL z.ea.1 fun k a ea => .inl ?_⟩
      rw [mn_of (showL_in (List.mem_cons_of_mem _ (List.mem_of_getElem? ea)))]
      exact z.ea.2 k a ea
    refine ⟨showL (D :: as) O, R.same, R.cd, fun b y => ?_, fun b y => R.dom b (showL_le b y), fun b y => R.vis b (showL_le b y), fun j q ej => ?_, fun j q ej => ?_, fun j k q r b j1 j2 j3 j4 => ?_, by rw [List.length_set]; exact R.len, fun j xss' ej => ?_⟩
    · rw [showL_out fun m => R.cd b y (n0 b m)]
      exact R.hid b y
    · rcases set_at ej with ⟨rfl, e', _⟩ | ⟨n, e'⟩
      · cases e'
        exact ⟨.ref D, z.at_, hp⟩
      · obtain ⟨v, f1, f2⟩ := R.fr j q e'
        exact ⟨v, f1, At.mono sub _ _ f2⟩
    · rcases set_at ej with ⟨rfl, e', _⟩ | ⟨n, e'⟩
      · cases e'
      · obtain ⟨b, ws, f1, f2, f3, f4, f5⟩ := R.ow j q e'
        obtain ⟨u1, u2⟩ := z.un j q b e' f1
        exact ⟨b, ws, f1, by rw [showL_out fun m => (List.mem_cons.mp m).elim u1 u2]; exact f2, f3, f4, f5.mono sub⟩
    · rcases set_at j1 with ⟨_, e', _⟩ | ⟨_, y1⟩
      · cases e'
      · rcases set_at j2 with ⟨_, e', _⟩ | ⟨_, y2⟩
        · cases e'
        · exact R.inj j k q r b y1 y2 j3 j4
    · rcases set_at ej with ⟨_, e', _⟩ | ⟨n, e'⟩
      · cases e'
      · exact absurd (z.one j xss' e').symm n
  · exact ⟨O, R⟩
end
section
variable {X : Cx} {G : Gx} {Er : ER} {f : FS} {sts : List Stmt} {b e : Expr} {pos p px pl pl2 ps pa pc : Pos} {i : Nat} {x : Str} {C Cb Cs : En → Prop} {g gb gn : En → Int}
theorem xss_freezeT (i : Nat) (h : PSs X sts (ts X.K G Er f)) : PSs X sts (ts X.K G Er fun P ρ => f P (frzT ρ i)) :=
  fun pins s σ H D I ⟨B, ρ, P, ⟨_, R⟩, c, w⟩ => h pins s σ H D I ⟨B, frzT ρ i, P, R.freezeT i, c, w⟩
/-- x = [[]] -/
theorem xst_olN {pos' : Pos} (hN : X.N.Nodup) (hi : X.N[i]? = some x) (hx : Loc X.env.scope x) (he : starEach [.List [] pl2] X.env = (false, eval (.List [] pl2) X.env) :: starEach [] X.env := by rfl)
    (hs : swapsWith (.List [.List [] pl2] pl) (some (.Name x pos')) pos.line X.env = pure false := by rfl) (hf : X.fn x = true ∨ X.env.scope.names.lookup x = some .local := by first | exact .inl rfl | exact .inr rfl | assumption) :
    PS X (.Assign [.Name x pos'] (.List [.List [] pl2] pl) pos) (ts X.K G Er fun P ρ => no2 ρ = true ∧ P.nx (ρ.set i (.o2 [[]]))) :=
  toS (ps_set hN hi hx (pe_lst (pa_cons (pe_lst pa_nil) pa_nil he)) hs hf) fun B σ H ρ O P D R c w => ⟨Nat.zero_le _, fun a na => ⟨by show 1 ≤ sizeLine; rw [sizeLine_eq]; decide, fun d nd => w.nx _ _ _ ⟨_, by
    have nad : a ≠ d := ne_of_none (show upd H a (.lst []) a = some (.lst []) from upd_same) nd
    exact R.newT (as := [a]) (xss := [[]]) c.1 ((same_new na _).trans (same_new nd _)) (fun b hb => by rw [List.mem_singleton.mp hb]; exact na) (by simp) ⟨rfl, fun k b eb => by
      cases k with
      | zero =>
        cases eb
        rw [upd_ne nad]
        exact upd_same
      | succ k => cases eb⟩ ((same_new na _).free nd) upd_same⟩ c.2⟩⟩
/-- x = [[] for .. in range(n)] -/
theorem xst_olC {N' : List Str} {sc : Scope} {cl : List (Str × Addr)} {cap : List (Option Nat)} {tg src : Expr} {at' pos' spos : Pos} (hN : X.N.Nodup) (hi' : X.N[i]? = some x) (hx : X.env.scope.names.lookup x = some .local) (L : LcOk X N' sc cl (none :: cap)) (hc : X.calm = true) (hgl : Gl X "range") (hm : X.mg "range" = none) (hi : PE X src (tXI X.K G Cs gn)) (hg : ∀ s H fp, PG (cxComp X N' sc cl s H fp) tg (gName 0))
    (hsw : swapsWith (.ListComp (.List [] pl) [⟨tg, .Call (.Name "range" p) [src] [] pos', [], 0⟩] sc at') (some (.Name x px)) spos.line X.env = pure true) (hst : starEach [src] X.env = [(false, eval src X.env)] := by rfl) (hs : ∀ x, foldedSetIterable (.Call (.Name "range" p) [src] [] pos') X.env x = pure x := by intro _; rfl) :
    PS X (.Assign [.Name x px] (.ListComp (.List [] pl) [⟨tg, .Call (.Name "range" p) [src] [] pos', [], 0⟩] sc at') spos) (ts X.K G Er fun P ρ => Cs ρ ∧ (0 ≤ gn ρ ∧ gn ρ ≤ 1000) ∧ no2 ρ = true ∧ P.nx (ρ.set i (.o2 (List.replicate (gn ρ).toNat [])))) :=
  toS (ps_lc hN hi' hx L hc (pi_range1 hgl hm (pa_cons hi pa_nil hst) hst) hg (fun _ _ _ => pts_nil) (fun _ _ _ => pe_lst pa_nil) hsw hs) fun B σ H ρ O P D R c w => ol_lc R c.1 c.2.1 fun d as H' s nas nd ea nD hD => w.nx _ _ _ ⟨_, R.newT c.2.2.1 s nas nd ea nD hD⟩ c.2.2.2
/-- x.append([]) -/
theorem xst_olApp (i : Nat) {x : Str} (hN : X.N[i]? = some x := by rfl) (hv : Vis X.env.scope x := by first | exact Or.inl rfl | exact Or.inr (Or.inl rfl) | exact Or.inr (Or.inr rfl))
    (hd : (x == ("__debug__" : Str)) = false := by decide) (hcd : (x == ("__classdict__" : Str)) = false := by decide)
    (hbase : attributeBase (.Name x px) "append" X.env (eval (.Name x px) X.env) = eval (.Name x px) X.env := by rfl)
    (hfew : ((backTo pc (starEach (.List [] pl :: []) X.env)).all (fun x => !x.1) && (backToKw pc (keywordEach [] X.env)).all (fun x => x.1.isSome)
      && decide ((Expr.List [] pl :: []).length + ([] : List Keyword).length + (if ([] : List Keyword).isEmpty then 0 else 1) < 30)) = true := by rfl)
    (hline : (pa.endLine == pc.line) = true := by rfl) (hs : starEach (.List [] pl :: []) X.env = (false, eval (.List [] pl) X.env) :: starEach [] X.env := by rfl) (hplain : (backTo pc (starEach [] X.env)).any (·.1) = false := by rfl)
    (hsw : swapsWith (.Call (.Attribute (.Name x px) "append" pa) [.List [] pl] [] pc) none pos.line X.env = pure false := by rfl) :
    PS X (.Expr (.Call (.Attribute (.Name x px) "append" pa) [.List [] pl] [] pc) pos) (ts X.K G Er fun P ρ => isT ρ i ∧ (getT ρ i).length < sizeLine ∧ P.nx (ρ.set i (.o2 (getT ρ i ++ [[]])))) :=
  toS (ps_expr (pe_bm PySem.F.plainAttrs_list PySem.F.slot_list_append PySem.F.type_list_append mt_append (pe_var hN hv hd hcd) (pa_cons (pe_lst pa_nil) pa_nil hs) hbase hfew hline hs hplain) hsw) fun B σ H ρ O P D' R c w => by
    obtain ⟨c0, c1, c2⟩ := c
    obtain ⟨D, as, z⟩ := R.o2 i _ c0
    refine ⟨_, z.at_, .inl ⟨rfl, _, SqL.of z.hD⟩, Nat.zero_le _, fun a na => ?_⟩
    have naD : a ≠ D := Ne.symm (ne_of_none z.hD na)
    refine ⟨D, _, _, rfl, rfl, by rw [upd_ne (Ne.symm naD)]; exact z.hD, by rw [List.length_map, z.ea.1]; exact c1, ?_⟩
    have e : as.map V.ref ++ [V.ref a] = (as ++ [a]).map V.ref := by rw [List.map_append]; rfl
    rw [e]
    exact w.nx σ _ _ ⟨_, R.appT c0 z (same_new na _) na upd_same⟩ c2
/-- x[b].append(e) -/
theorem xst_olIn (i : Nat) {x : Str} (hb : PE X b (tXI X.K G Cb gb)) (hsx : PlainIx b) (he : PE X e (tXI X.K G C g)) (hN : X.N[i]? = some x := by rfl) (hv : Vis X.env.scope x := by first | exact Or.inl rfl | exact Or.inr (Or.inl rfl) | exact Or.inr (Or.inr rfl))
    (hd : (x == ("__debug__" : Str)) = false := by decide) (hcd : (x == ("__classdict__" : Str)) = false := by decide)
    (hbase : attributeBase (.Subscript (.Name x px) b ps) "append" X.env (eval (.Subscript (.Name x px) b ps) X.env) = eval (.Subscript (.Name x px) b ps) X.env := by rfl)
    (hfew : ((backTo pc (starEach (e :: []) X.env)).all (fun x => !x.1) && (backToKw pc (keywordEach [] X.env)).all (fun x => x.1.isSome)
      && decide ((e :: []).length + ([] : List Keyword).length + (if ([] : List Keyword).isEmpty then 0 else 1) < 30)) = true := by rfl)
    (hline : (pa.endLine == pc.line) = true := by rfl) (hs : starEach (e :: []) X.env = (false, eval e X.env) :: starEach [] X.env := by rfl) (hplain : (backTo pc (starEach [] X.env)).any (·.1) = false := by rfl)
    (hsw : swapsWith (.Call (.Attribute (.Subscript (.Name x px) b ps) "append" pa) [e] [] pc) none pos.line X.env = pure false := by rfl) :
    PS X (.Expr (.Call (.Attribute (.Subscript (.Name x px) b ps) "append" pa) [e] [] pc) pos) (ts X.K G Er fun P ρ => isT ρ i ∧ Cb ρ ∧ (-((getT ρ i).length : Int) ≤ gb ρ ∧ gb ρ < ((getT ρ i).length : Int)) ∧ C ρ ∧ ((getT ρ i).getD (ixO (getT ρ i).length (gb ρ)) []).length < sizeLine ∧
      P.nx (ρ.set i (.o2 ((getT ρ i).set (ixO (getT ρ i).length (gb ρ)) ((getT ρ i).getD (ixO (getT ρ i).length (gb ρ)) [] ++ [g ρ]))))) :=
  toS (ps_expr (pe_bm PySem.F.plainAttrs_list PySem.F.slot_list_append PySem.F.type_list_append mt_append (pe_ix ix_list (pe_var hN hv hd hcd) hb hsx) (pa_cons he pa_nil hs) hbase hfew hline hs hplain) hsw) fun B σ H ρ O P D' R c w => by
    obtain ⟨c0, cb, ⟨i1, i2⟩, c1, c2, c3⟩ := c
    obtain ⟨D, as, z⟩ := R.o2 i _ c0
    have al := z.ea.1
    refine ⟨_, z.at_, B, ρ, O, R, cb, fun u H1 s1 a1 => ?_⟩
    obtain ⟨a, ga, ha⟩ := atI_ref (as := as) (i := gb ρ) (by rw [al]; exact i1) (by rw [al]; exact i2)
    have ea := z.ea.2 _ a ga
    rw [al] at ea ga
    refine ⟨D, _, _, _, rfl, a1, SqL.of (s1 _ _ z.hD), ha, .inl ⟨rfl, _, SqL.of (s1 _ _ ea)⟩, B, ρ, O, R.grow s1, c1, fun v H2 s2 a2 => ?_⟩
    have a2 : v = .int (g ρ) := a2
    subst a2
    have z2 : O2At B σ H2 ρ O i (getT ρ i) D as := ⟨z.at_, z.oD, z.nD, s2 _ _ (s1 _ _ z.hD), z.el, (z.ea.mono s1).mono s2, z.nd, z.un, z.one⟩
    refine ⟨a, _, _, rfl, rfl, s2 _ _ (s1 _ _ ea), by rw [List.length_map]; exact c2, ?_⟩
    have e : ((getT ρ i).getD (ixO (getT ρ i).length (gb ρ)) []).map V.int ++ [V.int (g ρ)] = ((getT ρ i).getD (ixO (getT ρ i).length (gb ρ)) [] ++ [g ρ]).map V.int := by rw [List.map_append]; rfl
    rw [e]
    exact w.nx σ _ _ ⟨O, ((R.grow s1).grow s2).changeT c0 z2 ga⟩ c3
/-- len(x) -/
theorem xn_olLen (i : Nat) {x : Str} (hm : X.mg "len" = none) (hN : X.N[i]? = some x := by rfl) (hg : Gl X "len" := by rfl) (hv : Vis X.env.scope x := by first | exact Or.inl rfl | exact Or.inr (Or.inl rfl) | exact Or.inr (Or.inr rfl))
    (hd : (x == ("__debug__" : Str)) = false := by decide) (hcd : (x == ("__classdict__" : Str)) = false := by decide) (he : starEach [.Name x px] X.env = [(false, eval (.Name x px) X.env)] := by rfl) :
    PE X (.Call (.Name "len" p) [.Name x px] [] pos) (tXI X.K G (fun ρ => isT ρ i) fun ρ => ((getT ρ i).length : Int)) :=
  toX (pe_callB call_len_seq hg hm bt_len (pa_cons (pe_var hN hv hd hcd) pa_nil he) (by decide) (by decide) he rfl) fun B σ H ρ O Q R c q => by
    obtain ⟨D, as, z⟩ := R.o2 i _ c
    exact ⟨_, z.at_, D, _, rfl, .inl (SqL.of z.hD), by rw [List.length_map, z.ea.1]; exact q _ H (Same.refl H) rfl⟩
/-- len(x[b]) -/
theorem xn_olLenI (i : Nat) {x : Str} (hm : X.mg "len" = none) (hb : PE X b (tXI X.K G Cb gb)) (hsx : PlainIx b) (hN : X.N[i]? = some x := by rfl) (hg : Gl X "len" := by rfl) (hv : Vis X.env.scope x := by first | exact Or.inl rfl | exact Or.inr (Or.inl rfl) | exact Or.inr (Or.inr rfl))
    (hd : (x == ("__debug__" : Str)) = false := by decide) (hcd : (x == ("__classdict__" : Str)) = false := by decide) (he : starEach [.Subscript (.Name x px) b ps] X.env = [(false, eval (.Subscript (.Name x px) b ps) X.env)] := by rfl) :
    PE X (.Call (.Name "len" p) [.Subscript (.Name x px) b ps] [] pos) (tXI X.K G (fun ρ => isT ρ i ∧ Cb ρ ∧ (-((getT ρ i).length : Int) ≤ gb ρ ∧ gb ρ < ((getT ρ i).length : Int))) fun ρ => (((getT ρ i).getD (ixO (getT ρ i).length (gb ρ)) []).length : Int)) :=
  toX (pe_callB call_len_seq hg hm bt_len (pa_cons (pe_ix ix_list (pe_var hN hv hd hcd) hb hsx) pa_nil he) (by decide) (by decide) he rfl) fun B σ H ρ O Q R c q => by
    obtain ⟨c0, cb, i1, i2⟩ := c
    obtain ⟨D, as, z⟩ := R.o2 i _ c0
    have al := z.ea.1
    refine ⟨_, z.at_, B, ρ, O, R, cb, fun u H1 s1 a1 => ?_⟩
    obtain ⟨a, ga, ha⟩ := atI_ref (as := as) (i := gb ρ) (by rw [al]; exact i1) (by rw [al]; exact i2)
    have ea := z.ea.2 _ a ga
    rw [al] at ea
    exact ⟨D, _, _, _, rfl, a1, SqL.of (s1 _ _ z.hD), ha, a, _, rfl, .inl (SqL.of (s1 _ _ ea)), by rw [List.length_map]; exact q _ H1 s1 rfl⟩
end
end L3

namespace K66
open PySem L2 L3 PyProof.Rows FM
noncomputable abbrev s_cut_noughts : Stmt := top 5
theorem sc_cut_noughts : FnScope ["numbers"] ["numbers"] (defScope s_cut_noughts) := scm
noncomputable abbrev s_trimmed : Stmt := top 6
theorem sc_trimmed : FnScope ["kind", "f", "numbers"] ["kind", "f"] (defScope s_trimmed) := scm
noncomputable abbrev s_times : Stmt := top 7
theorem sc_times : FnScope ["kind", "f", "g", "ones", "others", "sums", "at", "one", "behind", "other"] ["kind", "f", "g"] (defScope s_times) := scm
noncomputable abbrev s_sets : Stmt := top 9
theorem sc_sets : FnScope ["count", "few"] ["count"] (defScope s_sets) := scm
noncomputable abbrev s_place_count : Stmt := top 10
theorem sc_place_count : FnScope ["bits", "count", "left"] ["bits"] (defScope s_place_count) := scm
noncomputable abbrev s_candidate : Stmt := top 11
theorem sc_candidate : FnScope ["g", "size", "ups", "bits", "product", "at", "up"] ["g", "size", "ups", "bits"] (defScope s_candidate) := scm
noncomputable abbrev s_rests_by : Stmt := top 12
theorem sc_rests_by : FnScope ["size", "f"] ["size", "f"] (defScope s_rests_by) := scm
noncomputable abbrev s_nearest : Stmt := top 13
theorem sc_nearest : FnScope ["size", "number", "rest"] ["size", "number"] (defScope s_nearest) := scm
noncomputable abbrev s_cell_at : Stmt := top 15
theorem sc_cell_at : FnScope ["_law_script", "_law_k"] ["_law_script", "_law_k"] (defScope s_cell_at) := scm
noncomputable abbrev s_head : Stmt := top 16
theorem sc_head : FnScope ["_law_script", "_law_number"] ["_law_script"] (defScope s_head) := scm
noncomputable abbrev s_whole : Stmt := top 17
theorem sc_whole : FnScope ["_law_found"] ["_law_found"] (defScope s_whole) := scm
noncomputable abbrev s_alike : Stmt := top 18
theorem sc_alike : FnScope ["_law_found", "_law_due", "_law_k"] ["_law_found", "_law_due"] (defScope s_alike) := scm
noncomputable abbrev s_trim : Stmt := top 19
theorem sc_trim : FnScope ["_law_row", "_law_size"] ["_law_row", "_law_size"] (defScope s_trim) := scm
noncomputable abbrev s_law_times : Stmt := top 20
theorem sc_law_times : FnScope ["_law_f", "_law_g", "_law_size", "_law_row", "_law_i", "_law_k"] ["_law_f", "_law_g", "_law_size"] (defScope s_law_times) := scm
noncomputable abbrev s_ones : Stmt := top 22
theorem sc_ones : FnScope ["_law_bits", "_law_found"] ["_law_bits"] (defScope s_ones) := scm
noncomputable abbrev s_counted : Stmt := top 23
theorem sc_counted : FnScope ["_law_count", "_law_rows", "_law_bits", "_law_few", "_law_made", "_law_row"] ["_law_count"] (defScope s_counted) := scm
noncomputable abbrev s_lists : Stmt := top 24
theorem sc_lists : FnScope ["_law_script", "_law_rows", "_law_k", "_law_cell", "_law_number"] ["_law_script"] (defScope s_lists) := scm
noncomputable abbrev s_law : Stmt := top 25
theorem sc_law : FnScope ["_law_script", "_law_head_here", "_law_count", "_law_size", "_law_rows", "_law_g", "_law_ups", "_law_bits", "_law_made", "_law_k", "_law_due", "_law_number", "_law_handed", "_law_found"] ["_law_script"] (defScope s_law) := scm
noncomputable abbrev s_Kind_init : Stmt := inClass (top 2) 0
theorem sc_Kind_init : FnScope ["self", "size"] ["self", "size"] (defScope s_Kind_init) := scm
noncomputable abbrev s_Wholes_init : Stmt := inClass (top 3) 0
theorem sc_Wholes_init : FnScope ["self"] ["self"] (defScope s_Wholes_init) := scm
noncomputable abbrev s_Wholes_plain : Stmt := inClass (top 3) 1
theorem sc_Wholes_plain : FnScope ["self", "number"] ["self", "number"] (defScope s_Wholes_plain) := scm
/-- what the law asks of the text as its top has made it -/
structure Top (K : PySem.W.Frag) (mg : Str → Option Value) (cK : Addr) (cW : Addr) : Prop where
  d_cut_noughts : Def K mg "cut_noughts" s_cut_noughts ["numbers"]
  d_trimmed : Def K mg "trimmed" s_trimmed ["kind", "f"]
  d_times : Def K mg "times" s_times ["kind", "f", "g"]
  d_sets : Def K mg "sets" s_sets ["count"]
  d_place_count : Def K mg "place_count" s_place_count ["bits"]
  d_candidate : Def K mg "candidate" s_candidate ["g", "size", "ups", "bits"]
  d_rests_by : Def K mg "rests_by" s_rests_by ["size", "f"]
  d_nearest : Def K mg "nearest" s_nearest ["size", "number"]
  d_cell_at : Def K mg "_law_cell_at" s_cell_at ["_law_script", "_law_k"]
  d_head : Def K mg "_law_head" s_head ["_law_script"]
  d_whole : Def K mg "_law_whole" s_whole ["_law_found"]
  d_alike : Def K mg "_law_alike" s_alike ["_law_found", "_law_due"]
  d_trim : Def K mg "_law_trim" s_trim ["_law_row", "_law_size"]
  d_law_times : Def K mg "_law_times" s_law_times ["_law_f", "_law_g", "_law_size"]
  d_ones : Def K mg "_law_ones" s_ones ["_law_bits"]
  d_counted : Def K mg "_law_counted" s_counted ["_law_count"]
  d_lists : Def K mg "_law_lists" s_lists ["_law_script"]
  l_sets : LamDef K mg "sets"
  b_len : mg "len" = none
  b_range : mg "range" = none
  b_isinstance : mg "isinstance" = none
  b_bool : mg "bool" = none
  b_int : mg "int" = none
  b_list : mg "list" = none
  b_enumerate : mg "enumerate" = none
  b_sorted : mg "sorted" = none
  i_int_int : PySem.W.kitOne K (.type "int") (.type "int") = some true
  i_int_bool : PySem.W.kitOne K (.type "int") (.type "bool") = some false
  i_list_list : PySem.W.kitOne K (.type "list") (.type "list") = some true
  m_Kind : mg "Kind" = some (.ref cK)
  m_Wholes : mg "Wholes" = some (.ref cW)
  cl_Wholes : Cls K cW
  na_Wholes_size : NoAttr K cW "size"
  f_Kind_init : ∃ f fd, Fun K "__init__" "Kind.__init__" s_Kind_init f fd ∧ Binds K fd ["self", "size"] [] ∧ ClsFn K cK "__init__" f
  f_Wholes_init : ∃ f fd, Fun K "__init__" "Wholes.__init__" s_Wholes_init f fd ∧ Binds K fd ["self"] [] ∧ Mk K cW f
  f_Wholes_plain : ∃ f fd, Fun K "plain" "Wholes.plain" s_Wholes_plain f fd ∧ Binds K fd ["self", "number"] [] ∧ Meth K cW "plain" f
section
variable {w : World} {K : PySem.W.Frag} {h : Heap} {mg : Str → Option Value} {fa f C : Addr} {od an : Option Addr} {sl : Array (Option Value)} {oc kV dc pm cd ct : Value} {x q : Str} {st : Stmt} {ps : List Str} {cK : Addr} {cW : Addr}
theorem df_mk (X : K.In h) (G : h.Ns mainGlobals mg) (a : PySem.W.nsIn K mainGlobals x = some (some (.ref f))) (l : K.lookup f = some ⟨oc, od, .func (PySem.W.fnOf x x (defArgs st) (defBody st) (defScope st) .none kV dc pm an cd ct), sl⟩) (c : PySem.W.codeIn K cd x = true) (k : PySem.W.keepIn K (.ref f) = true) (b : ∀ (kV dc pm : Value) (an : Option Addr) (cd ct : Value) (us : List Value), us.length = ps.length → bindArgs (PySem.W.fnOf x x (defArgs st) (defBody st) (defScope st) .none kV dc pm an cd ct) ⟨us, []⟩ = pure (ps.zip us)) : Def K mg x st ps := .mk' (fun_mk l c k) ((fun_mk l c k).binds b) (PySem.W.mg_of X G a)
theorem lm_mk {ar : Arguments} {bo : List Stmt} {sc : Scope} {dv : Value} (X : K.In h) (G : h.Ns mainGlobals mg) (a : PySem.W.nsIn K mainGlobals x = some (some (.ref f))) (l : K.lookup f = some ⟨oc, od, .func (PySem.W.fnOf x x ar bo sc dv kV dc pm an cd ct), sl⟩) (c : lamHas K cd (x ++ ".<locals>." ++ "<lambda>") = true) : LamDef K mg x := ⟨f, oc, od, _, sl, PySem.W.mg_of X G a, l, lamHas_of c⟩
theorem mt1_mk {C0 : Addr} (g0 : PySem.W.findIn K (.ref C0) x = some (some (.ref f))) (l : K.lookup f = some ⟨oc, od, .func (PySem.W.fnOf x q (defArgs st) (defBody st) (defScope st) .none kV dc pm an cd ct), sl⟩) (c : PySem.W.codeIn K cd q = true) (k : PySem.W.keepIn K (.ref f) = true) (n : PySem.W.isFn K (.ref f) = true) (b : ∀ (kV dc pm : Value) (an : Option Addr) (cd ct : Value) (us : List Value), us.length = ps.length → bindArgs (PySem.W.fnOf x q (defArgs st) (defBody st) (defScope st) .none kV dc pm an cd ct) ⟨us, []⟩ = pure (ps.zip us)) : ∃ f fd, Fun K x q st f fd ∧ Binds K fd ps [] ∧ Meth K C0 x f := ⟨_, _, fun_mk l c k, (fun_mk l c k).binds b, ⟨g0, n, k⟩⟩
theorem in_mk (g : PySem.W.findIn K (.ref C) "__init__" = some (some (.ref f))) (l : K.lookup f = some ⟨oc, od, .func (PySem.W.fnOf x q (defArgs st) (defBody st) (defScope st) .none kV dc pm an cd ct), sl⟩) (c : PySem.W.codeIn K cd q = true) (k : PySem.W.keepIn K (.ref f) = true) (m : PySem.W.makesIn K C = true) (n : PySem.W.isFn K (.ref f) = true) (kc : PySem.W.keepIn K (.ref C) = true) (b : ∀ (kV dc pm : Value) (an : Option Addr) (cd ct : Value) (us : List Value), us.length = ps.length → bindArgs (PySem.W.fnOf x q (defArgs st) (defBody st) (defScope st) .none kV dc pm an cd ct) ⟨us, []⟩ = pure (ps.zip us)) : ∃ f fd, Fun K x q st f fd ∧ Binds K fd ps [] ∧ Mk K C f := ⟨_, _, fun_mk l c k, (fun_mk l c k).binds b, m, g, n, kc⟩
theorem cf_mk (g : PySem.W.findCls K (.ref C) (.type "type") "__init__" = some (.val (.ref f))) (l : K.lookup f = some ⟨oc, od, .func (PySem.W.fnOf x q (defArgs st) (defBody st) (defScope st) .none kV dc pm an cd ct), sl⟩) (c : PySem.W.codeIn K cd q = true) (k : PySem.W.keepIn K (.ref f) = true) (m : PySem.W.specialIn K (.ref C) "__getattribute__" = some (some (.builtin "type.__getattribute__"))) (n : PySem.W.readsIn K C (.type "type") = true) (b : ∀ (kV dc pm : Value) (an : Option Addr) (cd ct : Value) (us : List Value), us.length = ps.length → bindArgs (PySem.W.fnOf x q (defArgs st) (defBody st) (defScope st) .none kV dc pm an cd ct) ⟨us, []⟩ = pure (ps.zip us)) : ∃ f fd, Fun K x q st f fd ∧ Binds K fd ps [] ∧ ClsFn K C "__init__" f := ⟨_, _, fun_mk l c k, (fun_mk l c k).binds b, m, n, g, k⟩
theorem na_mk (h : PySem.W.findIn K (.ref C) x = some none) : NoAttr K C x := h
noncomputable def AMk : Prop := ∀ {P : Program} {w : World} {K : PySem.W.Frag} {mg : Str → Option Value} {base : Heap} {cK : Addr} {cW : Addr}, Top K mg cK cW → ∀ {f : Addr} {fd : FuncData}, Fun K "law" "law" s_law f fd → FnOk P w K mg base CX0 8 f fd ["_law_script"] (spLaw2 K)
theorem am {r : PySem.W.OpenLaw} (AM : AMk) (X : K.In h) (G : h.Ns mainGlobals mg) (hfa : mg "law" = some (.ref fa)) (T : Top K mg cK cW) (a : PySem.W.nsIn K mainGlobals "law" = some (some (.ref f))) (l : K.lookup f = some ⟨oc, od, .func (PySem.W.fnOf "law" "law" (defArgs s_law) (defBody s_law) (defScope s_law) .none kV dc pm an cd ct), sl⟩) (c : PySem.W.codeIn K cd "law" = true) (k : PySem.W.keepIn K (.ref f) = true) : ∃ fd : FuncData, (∀ (s : Shared) (v : Value), BindsTo s fd ⟨[v], []⟩ [("_law_script", v)]) ∧ ∀ base : Heap, K.In base → base.Ns mainGlobals mg → FnOk r.prog w K mg base CX0 8 fa fd ["_law_script"] (spLaw2 K) := by
  have e := hfa.symm.trans (PySem.W.mg_of X G a)
  cases e
  exact ⟨_, fun s v => .of_eq rfl, fun base _ _ => AM T (fun_mk l c k)⟩
theorem bn1 {Q : List Value → Prop} (h : ∀ a, Q [a]) : ∀ us : List Value, us.length = 1 → Q us := fun us hl => match us, hl with | [a], _ => h a
theorem bn2 {Q : List Value → Prop} (h : ∀ a b, Q [a, b]) : ∀ us : List Value, us.length = 2 → Q us := fun us hl => match us, hl with | [a, b], _ => h a b
theorem bn3 {Q : List Value → Prop} (h : ∀ a b c, Q [a, b, c]) : ∀ us : List Value, us.length = 3 → Q us := fun us hl => match us, hl with | [a, b, c], _ => h a b c
theorem bn4 {Q : List Value → Prop} (h : ∀ a b c d, Q [a, b, c, d]) : ∀ us : List Value, us.length = 4 → Q us := fun us hl => match us, hl with | [a, b, c, d], _ => h a b c d
end
theorem walk {l : PySem.W.OpenLaw} {q : Program} {loose : List Str} {XP : (Str → Option Value) → Heap → Prop} {YP : World → Heap → Prop} {d : DefRec} {K : Params → PySem.W.Frag} (hn : l.most = some 63) (hdf : d.params.defaults = [])
    (hY : ∀ (w : World) (h : Heap), YP w h → (K w.params).In h) (hL : ∀ (w : World) (h : Heap), YP w h → LamOk (K w.params) h)
    (F : ∀ (w : World) (mg : Str → Option Value) (fa : Addr) (h : Heap), (K w.params).In h → h.Ns mainGlobals mg → mg d.name = some (.ref fa) →
      ∃ fd : FuncData, (∀ (s : Shared) (u : Value), BindsTo s fd ⟨[u], []⟩ [("_law_script", u)]) ∧ ∀ base : Heap, (K w.params).In base → base.Ns mainGlobals mg → FnOk l.prog w (K w.params) mg base CX0 8 fa fd ["_law_script"] (spLaw2 (K w.params))) :
    PySem.W.WalkO q loose XP YP l.row.toRowW d [] (fun f vs => PySem.call f vs) :=
  L2.walk_of2 (n := 63) (k := 8) (x := "_law_script") (CX := fun _ => CX0) (sp := fun w => spLaw2 (K w.params)) hn (by decide) hdf ⟨rfl, by decide, by decide⟩ hY F hL (fun _ _ a ns hl hb hS => ⟨a, ns, rfl, hS, hl, hb, fun _ => rfl⟩) fun _ _ _ _ _ z => z
end K66
section
local macro_rules | `(tactic| o_head $H) => `(tactic| (refine PySem.W.holds_open (q := K66.view) (loose := []) (Xt := fun s => PySem.W.xlAt K66.view [] s && PySem.W.recOk (PySem.W.RowW.records PySem.Challenge.rw_factorforge_k66_sets_and_candidates.row.toRowW) s) (XP := PySem.W.XL K66.view []) (Yf := PySem.W.Hook.obs $H) (Ya := PySem.W.Hook.val $H) (YP := PySem.W.Hook.says $H) (N := 20000) ?hl (PySem.W.Hook.of $H) (PySem.W.Hook.keeps $H) (fun s e => PySem.W.xl_of s (Bool.and_eq_true_iff.mp e).1) PySem.W.XL.keeps (by rfl) (by rfl) (by rfl) (fun s e => PySem.W.recFacts_of (Bool.and_eq_true_iff.mp e).2) (by rfl) (by first | assumption | decide +kernel) (by decide +kernel) ⟨rfl, rfl, rfl, rfl, rfl, by decide +kernel⟩ ?hw ?hc; (case hl => (intro w; exact K66.fin w (by kernel_rfl)))))
local macro_rules | `(tactic| walk_at "bnd") => `(tactic| (first | exact fun _ _ _ _ _ _ => K66.bn1 fun _ => rfl | exact fun _ _ _ _ _ _ => K66.bn2 fun _ _ => rfl | exact fun _ _ _ _ _ _ => K66.bn3 fun _ _ _ => rfl | exact fun _ _ _ _ _ _ => K66.bn4 fun _ _ _ _ => rfl))
open PySem PySem.W PyProof.Rows
set_option maxRecDepth 100000 in
set_option maxHeartbeats 0 in
theorem K66.pre (AM : K66.AMk) : PySem.Challenge.rw_factorforge_k66_sets_and_candidates.Holds := by
  w_on; o_law; k_head; (rotate_left; rotate_right); (· w_witness2)
  k_fill
  refine K66.walk (l := PySem.Challenge.rw_factorforge_k66_sets_and_candidates) rfl rfl (fun w h Y => PySem.W.km_in_of Y) (fun w h Y => L3.lamOk_of (by kernel_rfl) (PySem.W.km_tabs_of Y)) ?F
  case F =>
    intro w mg fa h KX G hmg
    refine' K66.am AM KX G hmg ?T ?a ?l ?c ?k
    case a => k_is
    case l => k_is
    case c => k_is
    case k => k_is
    case T =>
      constructor
      case m_Kind => (refine' PySem.W.mg_of KX G ?a; (case a => k_is))
      case m_Wholes => (refine' PySem.W.mg_of KX G ?a; (case a => k_is))
      all_goals first | (refine' K66.df_mk KX G ?a ?l ?c ?k ?b; (case a => k_is); (case l => k_is); (case c => k_is); (case k => k_is); (case b => walk_at "bnd")) | (refine' K66.lm_mk KX G ?a ?l ?c; (case a => k_is); (case l => k_is); (case c => kernel_rfl)) | (refine' PySem.W.mg_none_of KX G ?a; (case a => k_is)) | (refine' K66.mt1_mk ?g0 ?l ?c ?k ?n ?b; (case g0 => k_is); (case l => k_is); (case c => k_is); (case k => k_is); (case n => k_is); (case b => walk_at "bnd")) | (refine' K66.in_mk ?g ?l ?c ?k ?m ?n ?kc ?b; (case g => k_is); (case l => k_is); (case c => k_is); (case k => k_is); (case m => k_is); (case n => k_is); (case kc => k_is); (case b => walk_at "bnd")) | (refine' K66.cf_mk ?g ?l ?c ?k ?m ?n ?b; (case g => k_is); (case l => k_is); (case c => k_is); (case k => k_is); (case m => k_is); (case n => k_is); (case b => walk_at "bnd")) | (refine' K66.na_mk ?a; (case a => k_is)) | kit_is | (constructor <;> k_is)
end
namespace K66
open PySem L2 L3 PyProof.Rows FM
local macro_rules | `(tactic| walk_at "pn0") => `(tactic| first | omega | (dsimp only; omega) | (dsimp only [List.length_cons, List.length_nil]; omega) | (simp [L2.gI, L2.start] <;> omega))
local macro_rules | `(tactic| walk_at "pn1") => `(tactic| first | exact True.intro | rfl | assumption | decide | decide +kernel | exact L2.mul_okR (by decide) | exact L2.mul_okL (by decide) | exact ⟨by decide, by decide +kernel⟩ | exact ⟨by decide, by decide, by decide⟩ | walk_at "pn0" | exact L2.mul_okR ⟨by walk_at "pn0", by walk_at "pn0"⟩ | exact L2.mul_okL ⟨by walk_at "pn0", by walk_at "pn0"⟩)
local macro_rules | `(tactic| walk_at "pn") => `(tactic| first | (refine ⟨?_, ?_⟩ <;> walk_at "pn") | walk_at "pn1" | (intro _; walk_at "pn"))
local macro_rules | `(tactic| walk_at "xs1") => `(tactic| first | exact True.intro | exact (rfl : _ = some _) | exact (rfl : L3.isI _ _) | exact (rfl : L3.isL _ _) | exact (rfl : L3.isF _ _) | exact (rfl : L3.isK _ _) | exact (rfl : L3.isO _ _) | exact (Or.inl rfl : L3.isLO _ _) | exact (Or.inr (Or.inl rfl) : L3.isLO _ _) | exact (Or.inr (Or.inr rfl) : L3.isLO _ _) | walk_at "pn1")
local macro_rules | `(tactic| walk_at "xs") => `(tactic| first | (refine And.intro ?_ ?_ <;> walk_at "xs") | walk_at "xs1")

section
variable {P : Program} {w : World} {K : PySem.W.Frag} {mg : Str → Option Value} {base : Heap} {cK cW : Addr}
noncomputable def spKInit (K : PySem.W.Frag) : Sp := fun vs H Q _ => ∃ (p C dx : Addr) (z : Int), vs = [.ref p, .int z] ∧ H p = some (.ins C dx []) ∧ Cls K C ∧ NoAttr K C "size" ∧ Q .non (upd H p (.ins C dx [("size", .int z)]))
theorem oc_Kind_init (T : Top K mg cK cW) : OkC P w K mg base CX0 1 "Kind" cK "__init__" ["self", "size"] (spKInit K) := by
  obtain ⟨f, fd, F, b, c⟩ := T.f_Kind_init
  refine ⟨f, fd, F.ok sc_Kind_init (fun vs H Q E h => ?_) (fun cdv A outer s H vs Q E hr h => ?_), b, c, T.m_Kind⟩
  · obtain ⟨p, C, dx, z, rfl, _⟩ := h
    rfl
  obtain ⟨p, C, dx, z, rfl, hp, cl, na, k⟩ := h
  refine ⟨_, (pss_one (ps_fld (pv 0) (pn_var 1) rfl)), ?_⟩
  exact ⟨rfl, _, rfl, p, C, dx, [], rfl, hp, cl, na, by decide, k⟩
theorem oi_Wholes (T : Top K mg cK cW) : OkI P w K mg base CX0 2 "Wholes" cW ["self"] (spNewW cW) := by
  obtain ⟨f, fd, F, b, c⟩ := T.f_Wholes_init
  refine ⟨f, fd, F.ok sc_Wholes_init (fun vs H Q E h => ?_) (fun cdv A outer s H vs Q E hr h => ?_), b, c, T.m_Wholes⟩
  · obtain ⟨p, dx, rfl, _⟩ := h
    rfl
  obtain ⟨p, dx, rfl, hp, k⟩ := h
  refine ⟨_, (pss_one (ps_expr (pe_clsO (oc_Kind_init T) hr pass0 (pa_cons (pv 0) (pa_cons pn_int pa_nil))))), ?_⟩
  exact ⟨_, rfl, True.intro, p, cW, dx, 0, rfl, hp, T.cl_Wholes, T.na_Wholes_size, k⟩
noncomputable def F_plain : Int → List Int → Int := fun z ns => match ns with
  | [n] => pl z n
  | _ => 0
noncomputable abbrev anyK : Int → List Int → Prop := fun _ _ => True
theorem km_plain (T : Top K mg cK cW) : KM P w K mg base 1 (KW cW) "plain" 1 anyK F_plain := by
  refine ⟨fun H a z ka => ?_⟩
  obtain ⟨q0, dx, fs, e, hz, hm⟩ := ka
  subst q0
  refine ⟨cW, dx, fs, ["self", "number"], e, hm "plain" (by decide +kernel), ?_⟩
  obtain ⟨f, fd, F, b, m1⟩ := T.f_Wholes_plain
  refine ⟨f, fd, F.ok sc_Wholes_plain (fun vs H Q E h => ?_) (fun cdv A outer s H vs Q E hr h => ?_), b, m1, T.cl_Wholes⟩
  · obtain ⟨ns, hl, rfl, _⟩ := h
    show (ns.map V.int).length + 1 = 2
    rw [List.length_map, hl]
  · obtain ⟨ns, hl, rfl, _, _, k⟩ := h
    obtain ⟨n, rfl⟩ := len1 hl
    refine ⟨_, (pss_one (ps_ret (pn_var 1))), ?_⟩
    exact ⟨rfl, k⟩

noncomputable def preCell : List Int → List Int → Prop := fun _ is => match is with
  | [k] => 0 ≤ k
  | _ => False
noncomputable def F_cell : List Int → List Int → Int := fun xs is => match is with
  | [k] => xs.getD k.toNat 0
  | _ => 0
theorem ok_cell_at (T : Top K mg cK cW) : Ok P w K mg base 1 "_law_cell_at" ["_law_script", "_law_k"] (spS K 1 preCell F_cell) := by
  refine Def.ok T.d_cell_at sc_cell_at (fun vs H Q E h => ?_) (fun f cdv A outer s H vs Q E hr h => ?_)
  · obtain ⟨a, xs, is, hl, rfl, _⟩ := h
    show (is.map V.int).length + 1 = 2
    rw [List.length_map, hl]
  obtain ⟨sa, ns, is, hl, rfl, hS, hp, k⟩ := h
  obtain ⟨i, rfl⟩ := len1 hl
  have hp : 0 ≤ i := hp
  have k : Q (.int (ns.getD i.toNat 0)) H := k
  refine ⟨_, (pss_cons (ps_ifP (ptn_lt (pn_var 1) (pn_len 0 sa (ns.map V.int) T.b_len))
 (pss_one (ps_ret (pn_item 0 sa ns (pn_var 1) (fun _ _ => rfl))))
 pss_nil)
 (pss_one (ps_ret pn_int))), ?_⟩
  have el : (ns.map V.int).length = ns.length := List.length_map _
  refine ⟨⟨rfl, ⟨rfl, hS⟩⟩, fun q => ?_, fun q => ?_⟩
  · have q : i < ((ns.map V.int).length : Int) := q
    refine ⟨⟨rfl, rfl, hS, ?_, ?_⟩, ?_⟩
    · show -(ns.length : Int) ≤ i
      omega
    · show i < (ns.length : Int)
      omega
    · show Q (.int (ns.getD (if 0 ≤ i then i else i + ns.length).toNat 0)) H
      rw [if_pos hp]
      exact k
  · have q : ¬ i < ((ns.map V.int).length : Int) := q
    have e : ns.getD i.toNat 0 = 0 := by
      rw [List.getD_eq_getElem?_getD, List.getElem?_eq_none (by omega)]; rfl
    rw [e] at k
    exact ⟨True.intro, k⟩
theorem kx_cell_at (T : Top K mg cK cW) : Ok P w K mg base 1 "_law_cell_at" ["_law_script", "_law_k"] (spFI K (GkW cW) (L3.preS 1 preCell) fun as => F_cell (scrI as) (allI as.tail)) := liftS (ok_cell_at T)

theorem kx_whole (T : Top K mg cK cW) : Ok P w K mg base 1 "_law_whole" ["_law_found"] (spFB K (GkW cW) (fun as => ∃ n, as = [.int n]) fun _ => true) := by
  refine okF T.d_whole sc_whole (fun as ⟨c, h⟩ => by rw [h]; rfl) (fun f cdv A outer s H E hr => ⟨_, (xss_one (xst_ret (xe_and (xe_isinst T.b_isinstance (xv 0) (xv_bltn (by rfl) T.b_int bt_int)) (pe_one (xe_not (xe_isinst T.b_isinstance (xv 0) (xv_bltn (by rfl) T.b_bool bt_bool))))))), fun as hp => ?_⟩)
  obtain ⟨n, rfl⟩ := hp
  have h1 : instP K (.int n) (.ty "int") = true := instP_of rfl rfl T.i_int_int
  have h2 : instP K (.int n) (.ty "bool") = false := instP_of rfl rfl T.i_int_bool
  refine ⟨⟨⟨rfl, True.intro, _, _, _, rfl, rfl, T.i_int_int⟩, fun _ => ⟨rfl, True.intro, _, _, _, rfl, rfl, T.i_int_bool⟩⟩, ?_⟩
  show PV.bl (decide (instP K (.int n) (.ty "int") = true ∧ ¬ instP K (.int n) (.ty "bool") = true)) = PV.bl true
  rw [h1, h2]
  rfl
/-- are two lists of numbers alike -/
theorem kx_alike (T : Top K mg cK cW) : Ok P w K mg base 2 "_law_alike" ["_law_found", "_law_due"] (spFB K (GkW cW) (fun as => ∃ a b, as = [.ints a, .ints b] ∧ b.length ≤ 100000) fun as => match as with
    | [.ints a, .ints b] => decide (a = b)
    | _ => false) := by
  refine okF T.d_alike sc_alike (fun as ⟨a, b, h, _⟩ => by rw [h]; rfl) (fun f cdv A outer s H E hr => ⟨_, (xss_cons (xst_if (L2.PW.pt (xw_or (xt_not (xt_V (xe_isinst T.b_isinstance (xl 0) (xv_bltn (by rfl) T.b_list bt_list)))) (xw_or1 (xt_ne (xn_len 0 T.b_len) (xn_len 1 T.b_len)))))
 (xss_one (xst_ret xb_bl))
 xss_nil)
 (xss_cons (xst_forR (k := 2) PassesOwn.never rfl (by rfl) T.b_range (xn_len 1 T.b_len) sc_alike.nd rfl (Or.inl rfl)
 (xss_one (xst_if (L2.PW.pt (xw_or (xt_not (xt_V (xcb (kx_whole T) hr (xa_cons (xn_item 0 (xn 2) (fun _ _ => rfl)) xa_nil)))) (xw_or1 (xt_ne (xn_item 0 (xn 2) (fun _ _ => rfl)) (xn_item 1 (xn 2) (fun _ _ => rfl))))))
 (xss_one (xst_ret xb_bl))
 xss_nil)))
 (xss_one (xst_ret xb_bl)))), fun as hp => ?_⟩)
  obtain ⟨a, b, rfl, hb⟩ := hp
  have h1 : instP K (.ints a) (.ty "list") = true := instP_of rfl rfl T.i_list_list
  refine ⟨⟨⟨rfl, True.intro, _, _, _, rfl, rfl, T.i_list_list⟩, fun _ => ⟨.inl rfl, .inl rfl⟩⟩, fun q => ?_, fun q => ?_⟩
  · have q : ¬ instP K (.ints a) (.ty "list") = true ∨ ¬ (a.length : Int) = (b.length : Int) := q
    rw [h1] at q
    refine ⟨True.intro, ?_⟩
    show PV.bl false = PV.bl (decide (a = b))
    rw [decide_eq_false]
    intro z
    subst z
    rcases q with q | q
    · exact q rfl
    · exact q rfl
  · have q : ¬ (¬ instP K (.ints a) (.ty "list") = true ∨ ¬ (a.length : Int) = (b.length : Int)) := q
    have hl : a.length = b.length := by
      by_cases c : a.length = b.length
      · exact c
      · exact absurd (.inr (by omega)) q
    refine ⟨.inl rfl, ⟨by show -(2 : Int) ^ 62 ≤ (b.length : Int); omega, by show (b.length : Int) < 2 ^ 62; omega⟩, fun i ρ => (∃ v, ρ = [.fr (.ints a), .fr (.ints b), v]) ∧ ∀ j, j < i → a.getD j 0 = b.getD j 0, ⟨⟨_, rfl⟩, fun j h => by omega⟩, ?_, ?_⟩
    · rintro i ρ hi ⟨⟨v, rfl⟩, ih⟩
      have hi : i < (b.length : Int).toNat := hi
      have i1 : -(a.length : Int) ≤ (i : Int) := by omega
      have i2 : (i : Int) < (a.length : Int) := by omega
      have i3 : -(b.length : Int) ≤ (i : Int) := by omega
      have i4 : (i : Int) < (b.length : Int) := by omega
      have ea : ixO a.length (i : Int) = i := by unfold ixO; rw [if_pos (by omega)]; omega
      have eb : ixO b.length (i : Int) = i := by unfold ixO; rw [if_pos (by omega)]; omega
      refine ⟨⟨⟨⟨⟨.inl rfl, rfl, i1, i2⟩, True.intro⟩, ⟨_, rfl⟩⟩, fun _ => ⟨⟨.inl rfl, rfl, i1, i2⟩, ⟨.inl rfl, rfl, i3, i4⟩⟩⟩, fun q => ?_, fun q => ?_⟩
      · have q : ¬ true = true ∨ ¬ a.getD (ixO a.length (i : Int)) 0 = b.getD (ixO b.length (i : Int)) 0 := q
        rw [ea, eb] at q
        refine ⟨True.intro, ?_⟩
        show PV.bl false = PV.bl (decide (a = b))
        rw [decide_eq_false]
        intro z
        subst z
        rcases q with q | q
        · exact q rfl
        · exact q rfl
      · have q : ¬ (¬ true = true ∨ ¬ a.getD (ixO a.length (i : Int)) 0 = b.getD (ixO b.length (i : Int)) 0) := q
        rw [ea, eb] at q
        refine ⟨⟨_, rfl⟩, fun j hj => ?_⟩
        by_cases c : j = i
        · subst c
          by_cases d : a.getD j 0 = b.getD j 0
          · exact d
          · exact absurd (.inr d) q
        · exact ih j (by omega)
    · rintro ρ ⟨⟨v, rfl⟩, ih⟩
      refine ⟨True.intro, ?_⟩
      show PV.bl true = PV.bl (decide (a = b))
      rw [decide_eq_true]
      refine List.ext_getElem hl fun j h1 h2 => ?_
      have z := ih j (by show j < (b.length : Int).toNat; omega)
      rw [List.getD_eq_getElem?_getD, List.getD_eq_getElem?_getD, List.getElem?_eq_getElem h1, List.getElem?_eq_getElem h2] at z
      exact z

/-! ### noughts at the end are cut -/
theorem trimZ_step (h : ns ≠ []) (h0 : ns.getD (ns.length - 1) 0 = 0) : trimZ ns.dropLast = trimZ ns := by
  have e : ns = ns.dropLast ++ [0] := by
    have e1 := List.dropLast_concat_getLast h
    have e2 : ns.getLast h = 0 := by
      rw [List.getLast_eq_getElem]
      rw [List.getD_eq_getElem?_getD, List.getElem?_eq_getElem (by have := List.length_pos_iff.mpr h; omega)] at h0
      exact h0
    rw [e2] at e1
    exact e1.symm
  rw [e, trimZ_zero, List.dropLast_concat]
theorem trimZ_done (h : ¬ (ns ≠ [] ∧ ns.getD (ns.length - 1) 0 = 0)) : trimZ ns = ns := by
  by_cases c : ns = []
  · rw [c]; rfl
  · have h0 : ¬ ns.getD (ns.length - 1) 0 = 0 := fun z => h ⟨c, z⟩
    have e1 := List.dropLast_concat_getLast c
    have e2 : ns.getLast c ≠ 0 := by
      rw [List.getLast_eq_getElem]
      rw [List.getD_eq_getElem?_getD, List.getElem?_eq_getElem (by have := List.length_pos_iff.mpr c; omega)] at h0
      exact h0
    rw [← e1, trimZ_ne _ e2]
theorem last_at (ns : List Int) (h : ns ≠ []) : ixO ns.length (-1) = ns.length - 1 := by
  have := List.length_pos_iff.mpr h
  unfold ixO
  rw [if_neg (by omega)]
  omega

theorem kx_trim (T : Top K mg cK cW) : Ok P w K mg base 2 "_law_trim" ["_law_row", "_law_size"] (spL K (GkW cW) (fun as => ∃ f z, as = [.ints f, .int z] ∧ 0 ≤ z ∧ f.length ≤ 1000) fun as => match as with
    | [.ints f, .int z] => trimZ (f.map (pl z))
    | _ => []) := by
  refine okL T.d_trim sc_trim (fun as ⟨a, b, h, _⟩ => by rw [h]; rfl) (fun f cdv A outer s H E hr => ⟨_, (xss_cons (xst_lcL (i := 0) sc_trim.nd rfl rfl (N' := ["_law_number"]) (cap := []) (lc_ok rfl rfl rfl rfl True.intro True.intro rfl) rfl (xl 0) (fun _ _ _ => (pg_n 0)) (fun _ _ _ => (xn 0)) rfl)
 (xss_join (xst_if (xt_gt (xn 1) xn_int)
 (xss_freeze 0 (xss_one (xst_lcL (i := 0) sc_trim.nd rfl rfl (N' := ["_law_number", "_law_size"]) (cap := [some 1]) (lc_ok rfl rfl rfl rfl ⟨⟨rfl, .inr (.inl rfl), ncl, .inl rfl, _, rfl, rfl⟩, True.intro⟩ ⟨rfl, True.intro⟩ rfl) rfl (xl 0) (fun _ _ _ => (pg_n 0)) (fun _ _ _ => (xn_mod (xn 0) (xn 1))) rfl)))
 xss_nil)
 (xss_cons (xst_while PassesOwn.never (L2.PW.pt (xw_and (xt_gt (xn_len 0 T.b_len) xn_int) (xw_and1 (xt_eq (xn_item 0 (xn_neg xn_int) (fun _ _ => rfl)) xn_int))))
 (xss_one (xst_pop 0)))
 (xss_one (xst_retO 0))))), fun as hp => ?_⟩)
  obtain ⟨f, z, rfl, hz, hf⟩ := hp
  refine ⟨⟨rfl, hf, fun n _ => rfl⟩, fun n0 e0 => ?_⟩
  replace e0 : n0 = f := by
    have e0 : n0 = f.map fun n => n := e0
    rw [e0, List.map_id']
  subst e0
  refine to_lit (ρ' := [.ow (.ints n0), .fr (.int z)]) rfl ?_
  refine ⟨fun ρ => ρ = [.ow (.ints (n0.map (pl z))), .fr (.int z)], ⟨⟨rfl, True.intro⟩, fun q => ?_, fun q => ?_⟩, ?_⟩
  · have q : z > 0 := q
    refine ⟨⟨rfl, hf, fun n _ => ⟨rfl, rfl, q⟩⟩, fun ms em => ?_⟩
    replace em : ms = n0.map fun n => n % z := em
    have e : n0.map (pl z) = ms := by
      rw [em]
      exact List.map_congr_left fun n _ => pl_pos q
    rw [e]
    rfl
  · have q : ¬ z > 0 := q
    have e : n0.map (pl z) = n0 := by
      have z0 : z = 0 := by omega
      rw [z0]
      exact (List.map_congr_left fun n _ => rfl).trans (List.map_id _)
    rw [e]
  rintro ρ rfl
  generalize hns : n0.map (pl z) = ns
  refine ⟨fun ρ => ∃ ms, ρ = [.ow (.ints ms), .fr (.int z)] ∧ trimZ ms = trimZ ns, fun ρ => (getL ρ 0).length, ⟨ns, rfl, rfl⟩, ?_⟩
  rintro ρ ⟨ms, rfl, hm⟩
  refine ⟨⟨⟨.inr (.inl rfl), True.intro⟩, fun h => ⟨⟨.inr (.inl rfl), True.intro, ?_, ?_⟩, True.intro⟩⟩, fun q => ?_, fun q => ?_⟩
  · have h : (ms.length : Int) > 0 := h
    show -(ms.length : Int) ≤ -1
    omega
  · show (-1 : Int) < (ms.length : Int)
    omega
  · have q : (ms.length : Int) > 0 ∧ ms.getD (ixO ms.length (-1)) 0 = 0 := q
    have hne : ms ≠ [] := List.length_pos_iff.mp (by omega)
    rw [last_at ms hne] at q
    refine ⟨rfl, hne, ⟨_, rfl, ?_⟩, ?_⟩
    · rw [← hm]; exact trimZ_step hne q.2
    · show ms.dropLast.length < ms.length
      rw [List.length_dropLast]
      omega
  · have q : ¬ ((ms.length : Int) > 0 ∧ ms.getD (ixO ms.length (-1)) 0 = 0) := q
    refine ⟨rfl, ?_⟩
    show ms = trimZ (n0.map (pl z))
    rw [hns, ← hm, trimZ_done]
    rintro ⟨a, b⟩
    have := List.length_pos_iff.mpr a
    exact q ⟨by omega, by rw [last_at ms a]; exact b⟩

/-! ### polynomials: trimmed, value, slope -/
theorem kx_cut_noughts (T : Top K mg cK cW) : Ok P w K mg base 1 "cut_noughts" ["numbers"] (spM (fun _ => True) trimZ) := by
  refine Def.ok T.d_cut_noughts sc_cut_noughts (fun vs H Q E h => ?_) (fun f cdv A outer s H vs Q E hr h => ?_)
  · obtain ⟨a, ns, rfl, _⟩ := h
    rfl
  obtain ⟨a, ns, rfl, hH, _, q⟩ := h
  refine ⟨_, (pss_one (ps_while PassesOwn.never (pw_and (pt_truth (pv 0) (fun _ => rfl)) (pw_and1 (pt_cmpR op_eq (pe_item 0 (pn_neg pn_int) (fun _ _ => rfl)) pn_int (nomark _)))).pt
 (pss_one (ps_expr (pe_bm0 PySem.F.plainAttrs_list PySem.F.slot_list_pop PySem.F.type_list_pop mt_pop (pv 0)))))), ?_⟩
  refine ⟨fun m σ H' => σ = [some (.ref a)] ∧ ∃ ms, m = ms.length ∧ H' = upd H a (.lst (ms.map V.int)) ∧ trimZ ms = trimZ ns, ⟨ns.length, rfl, ns, rfl, ?_, rfl⟩, ?_⟩
  · funext b
    by_cases c : b = a
    · rw [c, upd_same, hH]
    · rw [upd_ne c]
  rintro m σ H' ⟨rfl, ms, rfl, rfl, hm⟩
  refine ⟨_, rfl, _, .inl ⟨_, SqL.of upd_same, rfl⟩, ?_⟩
  by_cases c : ms = []
  · subst c
    refine iteF ?_
    refine iteF ?_
    refine q _ (fun b o hb e => ?_) ?_
    · rw [upd_ne hb]; exact e
    · rw [upd_same, ← hm]; rfl
  · have hlen := List.length_pos_iff.mpr c
    have e1 : (!(ms.map V.int).isEmpty) = true := by cases ms <;> simp at c ⊢
    rw [e1]
    refine iteT ?_
    refine ⟨True.intro, a, ms, ms.getD (ms.length - 1) 0, rfl, SqL.of upd_same, ?_, ?_⟩
    · have z := getD_at (ns := ms) (i := -1) (by omega) (by omega)
      show atI (ms.map V.int) (-1) = _
      rw [z, if_neg (by omega)]
      have : (-1 + (ms.length : Int)).toNat = ms.length - 1 := by omega
      rw [this]
    refine ⟨True.intro, rfl, _, rfl, ?_⟩
    by_cases d : ms.getD (ms.length - 1) 0 = 0
    · have e2 : decide (V.int (ms.getD (ms.length - 1) 0) = V.int 0) = true := decide_eq_true (by rw [d])
      rw [e2]
      refine iteT ?_
      refine ⟨fun σ H' => σ = [some (.ref a)] ∧ H' = upd H a (.lst (ms.dropLast.map V.int)), ?_, ?_⟩
      · rintro σ' H' ⟨rfl, rfl⟩
        refine ⟨ms.dropLast.length, by rw [List.length_dropLast]; omega, rfl, _, rfl, rfl, ?_⟩
        rw [← hm]; exact trimZ_step c d
      · refine ⟨_, rfl, .inl ⟨rfl, _, SqL.of upd_same⟩, a, _, V.int (ms[ms.length - 1]'(by omega)), rfl, rfl, upd_same, ?_, rfl, ?_⟩
        · rw [List.length_map, List.getElem?_map, List.getElem?_eq_getElem (by omega)]
          rfl
        · rw [upd_upd, List.map_dropLast]
    · have e2 : decide (V.int (ms.getD (ms.length - 1) 0) = V.int 0) = false := decide_eq_false (by intro z; exact d (by injection z))
      rw [e2]
      refine iteF ?_
      refine q _ (fun b o hb e => ?_) ?_
      · rw [upd_ne hb]; exact e
      · rw [upd_same, ← hm, trimZ_done fun z => d z.2]
theorem kx_trimmed (T : Top K mg cK cW) : Ok P w K mg base 2 "trimmed" ["kind", "f"] (spL K (GkW cW) (fun as => ∃ z f, as = [.ob 0 z, .ints f] ∧ f.length ≤ 1000) fun as => match as with
    | [.ob 0 z, .ints f] => trimZ (f.map (pl z))
    | _ => []) := by
  refine okL T.d_trimmed sc_trimmed (fun as ⟨a, b, h, _⟩ => by rw [h]; rfl) (fun f cdv A outer s H E hr => ⟨_, (xss_cons (xst_lcL (i := 2) sc_trimmed.nd rfl rfl (N' := ["number", "kind"]) (cap := [some 0]) (lc_ok rfl rfl rfl rfl ⟨⟨rfl, .inr (.inl rfl), ncl, .inl rfl, _, rfl, rfl⟩, True.intro⟩ ⟨rfl, True.intro⟩ rfl) rfl (xl 1) (fun _ _ _ => (pg_n 0)) (fun _ _ _ => (xn_kmeth 1 (km_plain T) hr (xa_cons (xn 0) xa_nil))) rfl)
 (xss_cons (xst_mut 2 (kx_cut_noughts T) hr)
 (xss_one (xst_retO 2)))), fun as hp => ?_⟩)
  obtain ⟨z, f, rfl, hf⟩ := hp
  refine ⟨⟨rfl, hf, fun n _ => ⟨rfl, ⟨rfl, True.intro⟩, True.intro, True.intro⟩⟩, fun ns e => ?_⟩
  have e : ns = f.map (pl z) := e
  refine ⟨rfl, True.intro, rfl, ?_⟩
  show trimZ ns = trimZ (f.map (pl z))
  rw [e]

/-! ### products -/
theorem Tz_b (hz : 0 ≤ z) (hz2 : z < ((2 ^ 9000 : Nat) : Int)) (hf : ∀ m ∈ f, m.natAbs < 2 ^ 9000) : ∀ m ∈ Tz z f, m.natAbs < 2 ^ 9000 := fun m hm => by
  obtain ⟨k, hk, rfl⟩ := Tz_mem hm
  exact pl_small hz hz2 (hf k hk)
theorem kx_times (T : Top K mg cK cW) : Ok P w K mg base 3 "times" ["kind", "f", "g"] (spL K (GkW cW) (fun as => ∃ z f g, as = [.ob 0 z, .ints f, .ints g] ∧ 0 ≤ z ∧ z < ((2 ^ 9000 : Nat) : Int) ∧ f.length + g.length ≤ 1000 ∧ (∀ m ∈ f, m.natAbs < 2 ^ 9000) ∧ (∀ m ∈ g, m.natAbs < 2 ^ 9000)) fun as => match as with
    | [.ob 0 z, .ints f, .ints g] => Tz z (convL (Tz z f) (Tz z g))
    | _ => []) := by
  refine okL T.d_times sc_times (fun as ⟨a, b, c, h, _⟩ => by rw [h]; rfl) (fun f cdv A outer s H E hr => ⟨_, (xss_cons (xst_setL (i := 3) sc_times.nd rfl (Or.inl rfl) (newL (xcl (kx_trimmed T) hr (xa_cons (xv 0) (xa_cons (xl 1) xa_nil)))))
 (xss_cons (xst_setL (i := 4) sc_times.nd rfl (Or.inl rfl) (newL (xcl (kx_trimmed T) hr (xa_cons (xv 0) (xa_cons (xl 2) xa_nil)))))
 (xss_cons (xst_own (i := 5) sc_times.nd rfl (Or.inl rfl) (xl_rep (xl_lst (xa_cons xn_int xa_nil)) (xn_add (xn_len 3 T.b_len) (xn_len 4 T.b_len)) (fun _ => rfl)))
 (xss_cons (xst_forE (k := 6) (j := 7) PassesOwn.never rfl (by rfl) T.b_enumerate (xl 3) (pg_tup rfl (pgs_cons (pg_name (i := 6) sc_times.nd rfl (Or.inl rfl)) (pgs_cons (pg_name (i := 7) sc_times.nd rfl (Or.inl rfl)) pgs_nil)))
 (xss_one (xst_forE (k := 8) (j := 9) PassesOwn.never rfl (by rfl) T.b_enumerate (xl 4) (pg_tup rfl (pgs_cons (pg_name (i := 8) sc_times.nd rfl (Or.inl rfl)) (pgs_cons (pg_name (i := 9) sc_times.nd rfl (Or.inl rfl)) pgs_nil)))
 (xss_one (xst_augit 5 (xn_add (xn 6) (xn 8)) (xn_mul (xn 7) (xn 9)) iop_addT)))))
 (xss_freeze 5 (xss_one (xst_retl (xcl (kx_trimmed T) hr (xa_cons (xv 0) (xa_cons (xl 5) xa_nil)))))))))), fun as hp => ?_⟩)
  obtain ⟨z, f, g, rfl, hz, hz2, hl, hf, hg⟩ := hp
  refine ⟨⟨⟨rfl, rfl, True.intro⟩, z, f, rfl, by omega⟩, fun fo efo => ?_⟩
  have efo : fo = Tz z f := efo
  refine ⟨⟨⟨rfl, rfl, True.intro⟩, z, g, rfl, by omega⟩, fun go ego => ?_⟩
  have ego : go = Tz z g := ego
  have lf : fo.length ≤ f.length := by rw [efo]; exact Tz_len _ _
  have lg : go.length ≤ g.length := by rw [ego]; exact Tz_len _ _
  have bf : ∀ m ∈ fo, m.natAbs < 2 ^ 9000 := by rw [efo]; exact Tz_b hz hz2 hf
  have bg : ∀ m ∈ go, m.natAbs < 2 ^ 9000 := by rw [ego]; exact Tz_b hz hz2 hg
  have en : ((fo.length : Int) + (go.length : Int)).toNat = fo.length + go.length := by omega
  refine ⟨⟨⟨⟨True.intro, True.intro⟩, True.intro⟩, ⟨.inl rfl, .inl rfl⟩, ?_, ?_⟩, fun r0 er0 => ?_⟩
  · show -(2 : Int) ^ 63 ≤ (fo.length : Int) + (go.length : Int)
    omega
  · show ((fo.length : Int) + (go.length : Int)).toNat ≤ 1000
    omega
  have er0 : r0 = List.replicate (fo.length + go.length) 0 := by rw [← en]; exact er0
  refine ⟨rfl, fun i ρ => ∃ row v1 v2 v3 v4, ρ = [.fr (.ob 0 z), .fr (.ints f), .fr (.ints g), .fr (.ints fo), .fr (.ints go), .ow (.ints row), v1, v2, v3, v4] ∧ RowAt fo go i 0 row, ⟨r0, .un, .un, .un, .un, rfl, by rw [er0]; exact row_start fo go⟩, ?_, ?_⟩
  · rintro i n ρ hn ⟨row, v1, v2, v3, v4, rfl, hr⟩
    have hn : fo[i]? = some n := hn
    have hi := at_lt hn
    refine ⟨rfl, fun j ρ => ∃ row v3 v4, ρ = [.fr (.ob 0 z), .fr (.ints f), .fr (.ints g), .fr (.ints fo), .fr (.ints go), .ow (.ints row), .fr (.int i), .fr (.int n), v3, v4] ∧ RowAt fo go i j row, ⟨row, v3, v4, rfl, hr⟩, ?_, ?_⟩
    · rintro j m ρ hm ⟨row, v3, v4, rfl, hr⟩
      have hm : go[j]? = some m := hm
      have hj := at_lt hm
      have l1 : -(row.length : Int) ≤ (i : Int) + (j : Int) := by omega
      have l2 : (i : Int) + (j : Int) < (row.length : Int) := by have := hr.1; omega
      have ix : ixO row.length ((i : Int) + (j : Int)) = i + j := by unfold ixO; rw [if_pos (by omega)]; omega
      refine ⟨rfl, ⟨rfl, rfl⟩, ⟨l1, l2⟩, ⟨rfl, rfl, ?_⟩, True.intro, row.set (i + j) (row.getD (i + j) 0 + n * m), .fr (.int j), .fr (.int m), ?_, ?_⟩
      · exact mul_ok (n := 9000) (m := 9000) (bf n (at_mem hn)) (bg m (at_mem hm))
      · rw [← ix]; rfl
      · have q := row_step hr hi hj
        rw [getD_at' hn, getD_at' hm] at q
        exact q
    · rintro ρ ⟨row, v3, v4, rfl, hr⟩
      exact ⟨row, _, _, v3, v4, rfl, row_next hr⟩
  · rintro ρ ⟨row, v1, v2, v3, v4, rfl, hr⟩
    have er := row_end hr
    refine ⟨⟨⟨rfl, rfl, True.intro⟩, z, row, rfl, ?_⟩, ?_⟩
    · rw [hr.1]; omega
    · show trimZ (row.map (pl z)) = _
      rw [er, efo, ego]
      rfl

theorem kx_law_times (T : Top K mg cK cW) : Ok P w K mg base 3 "_law_times" ["_law_f", "_law_g", "_law_size"] (spL K (GkW cW) (fun as => ∃ f g z, as = [.ints f, .ints g, .int z] ∧ 0 ≤ z ∧ f.length + g.length ≤ 1000 ∧ (∀ m ∈ f, m.natAbs < 2 ^ 9000) ∧ (∀ m ∈ g, m.natAbs < 2 ^ 9000)) fun as => match as with
    | [.ints f, .ints g, .int z] => Tz z (convL f g)
    | _ => []) := by
  refine okL T.d_law_times sc_law_times (fun as ⟨a, b, c, h, _⟩ => by rw [h]; rfl) (fun f cdv A outer s H E hr => ⟨_, (xss_cons (xst_own (i := 3) sc_law_times.nd rfl (Or.inl rfl) (xl_rep (xl_lst (xa_cons xn_int xa_nil)) (xn_add (xn_len 0 T.b_len) (xn_len 1 T.b_len)) (fun _ => rfl)))
 (xss_cons (xst_forR (k := 4) PassesOwn.never rfl (by rfl) T.b_range (xn_len 0 T.b_len) sc_law_times.nd rfl (Or.inl rfl)
 (xss_one (xst_forR (k := 5) PassesOwn.never rfl (by rfl) T.b_range (xn_len 1 T.b_len) sc_law_times.nd rfl (Or.inl rfl)
 (xss_one (xst_setit 3 (xn_add (xn 4) (xn 5)) (xn_add (xn_item 3 (xn_add (xn 4) (xn 5)) (fun _ _ => rfl)) (xn_mul (xn_item 0 (xn 4) (fun _ _ => rfl)) (xn_item 1 (xn 5) (fun _ _ => rfl)))))))))
 (xss_freeze 3 (xss_one (xst_retl (xcl (kx_trim T) hr (xa_cons (xl 3) (xa_cons (xn 2) xa_nil)))))))), fun as hp => ?_⟩)
  obtain ⟨f, g, z, rfl, hz, hl, hf, hg⟩ := hp
  have en : ((f.length : Int) + (g.length : Int)).toNat = f.length + g.length := by omega
  refine ⟨⟨⟨⟨True.intro, True.intro⟩, True.intro⟩, ⟨.inl rfl, .inl rfl⟩, ?_, ?_⟩, fun r0 er0 => ?_⟩
  · show -(2 : Int) ^ 63 ≤ (f.length : Int) + (g.length : Int)
    omega
  · show ((f.length : Int) + (g.length : Int)).toNat ≤ 1000
    omega
  have er0 : r0 = List.replicate (f.length + g.length) 0 := by rw [← en]; exact er0
  refine ⟨.inl rfl, ⟨by show -(2 : Int) ^ 62 ≤ (f.length : Int); omega, by show (f.length : Int) < 2 ^ 62; omega⟩, fun i ρ => ∃ row v1 v2, ρ = [.fr (.ints f), .fr (.ints g), .fr (.int z), .ow (.ints row), v1, v2] ∧ RowAt f g i 0 row, ⟨r0, .un, .un, rfl, by rw [er0]; exact row_start f g⟩, ?_, ?_⟩
  · rintro i ρ hi ⟨row, v1, v2, rfl, hr⟩
    have hi : i < f.length := by have hi : i < (f.length : Int).toNat := hi; omega
    refine ⟨.inl rfl, ⟨by show -(2 : Int) ^ 62 ≤ (g.length : Int); omega, by show (g.length : Int) < 2 ^ 62; omega⟩, fun j ρ => ∃ row v2, ρ = [.fr (.ints f), .fr (.ints g), .fr (.int z), .ow (.ints row), .fr (.int i), v2] ∧ RowAt f g i j row, ⟨row, v2, rfl, hr⟩, ?_, ?_⟩
    · rintro j ρ hj ⟨row, v2, rfl, hr⟩
      have hj : j < g.length := by have hj : j < (g.length : Int).toNat := hj; omega
      have l1 : -(row.length : Int) ≤ (i : Int) + (j : Int) := by omega
      have l2 : (i : Int) + (j : Int) < (row.length : Int) := by have := hr.1; omega
      have ix : ixO row.length ((i : Int) + (j : Int)) = i + j := by unfold ixO; rw [if_pos (by omega)]; omega
      have xi : ixO f.length (i : Int) = i := by unfold ixO; rw [if_pos (by omega)]; omega
      have xj : ixO g.length (j : Int) = j := by unfold ixO; rw [if_pos (by omega)]; omega
      have mi : f.getD i 0 ∈ f := FM.getD_mem hi
      have mj : g.getD j 0 ∈ g := FM.getD_mem hj
      refine ⟨⟨⟨.inr (.inl rfl), ⟨rfl, rfl⟩, l1, l2⟩, ⟨.inl rfl, rfl, by show -(f.length : Int) ≤ (i : Int); omega, by show (i : Int) < (f.length : Int); omega⟩, ⟨.inl rfl, rfl, by show -(g.length : Int) ≤ (j : Int); omega, by show (j : Int) < (g.length : Int); omega⟩, ?_⟩, rfl, ⟨rfl, rfl⟩, ⟨l1, l2⟩, row.set (i + j) (row.getD (i + j) 0 + f.getD i 0 * g.getD j 0), .fr (.int j), ?_, row_step hr hi hj⟩
      · show IntMulOk (f.getD (ixO f.length (i : Int)) 0) (g.getD (ixO g.length (j : Int)) 0)
        rw [xi, xj]
        exact mul_ok (n := 9000) (m := 9000) (hf _ mi) (hg _ mj)
      · show [Sl.fr (.ints f), .fr (.ints g), .fr (.int z), .ow (.ints (row.set (ixO row.length ((i : Int) + (j : Int))) (row.getD (ixO row.length ((i : Int) + (j : Int))) 0 + f.getD (ixO f.length (i : Int)) 0 * g.getD (ixO g.length (j : Int)) 0))), .fr (.int i), .fr (.int j)] = _
        rw [ix, xi, xj]
    · rintro ρ ⟨row, v2, rfl, hr⟩
      have e : (g.length : Int).toNat = g.length := by omega
      have hr : RowAt f g i (g.length : Int).toNat row := hr
      rw [e] at hr
      exact ⟨row, _, v2, rfl, row_next hr⟩
  · rintro ρ ⟨row, v1, v2, rfl, hr⟩
    have e : (f.length : Int).toNat = f.length := by omega
    have hr : RowAt f g (f.length : Int).toNat 0 row := hr
    rw [e] at hr
    have er := row_end hr
    refine ⟨⟨⟨rfl, rfl, True.intro⟩, row, z, rfl, hz, ?_⟩, ?_⟩
    · rw [hr.1]; omega
    · show trimZ (row.map (pl z)) = _
      rw [er]
      rfl


/-- how many bits are set -/
noncomputable def pcc (n : Nat) : Nat := if h : n = 0 then 0 else n % 2 + pcc (n / 2)
termination_by n
decreasing_by omega
theorem pcc_0 : pcc 0 = 0 := by unfold pcc; rw [dif_pos rfl]
theorem pcc_s {n : Nat} (h : 0 < n) : pcc n = n % 2 + pcc (n / 2) := by
  conv => lhs; unfold pcc
  rw [dif_neg (by omega)]
noncomputable def pcN (n : Int) : Int := (pcc n.toNat : Int)
theorem pcN_0 : pcN 0 = 0 := by show ((pcc 0 : Nat) : Int) = 0; rw [pcc_0]; rfl
theorem pcN_s {n : Int} (h : 0 < n) : pcN n = n % 2 + pcN (n / 2) := by
  unfold pcN
  rw [pcc_s (by omega), show (n / 2).toNat = n.toNat / 2 by omega]
  omega
theorem kx_place_count (T : Top K mg cK cW) : Ok P w K mg base 1 "place_count" ["bits"] (spFI K (GkW cW) (fun as => ∃ n, as = [.int n] ∧ 0 ≤ n) fun as => match as with
    | [.int n] => pcN n
    | _ => 0) := by
  refine okF T.d_place_count sc_place_count (fun as ⟨a, h, _⟩ => by rw [h]; rfl) (fun f cdv A outer s H E hr => ⟨_, (xss_cons (xst_setI (i := 1) sc_place_count.nd rfl (Or.inl rfl) xn_int)
 (xss_cons (xst_setI (i := 2) sc_place_count.nd rfl (Or.inl rfl) (xn 0))
 (xss_cons (xst_while PassesOwn.never (xt_gt (xn 2) xn_int)
 (xss_cons (xst_aug (i := 1) sc_place_count.nd rfl (Or.inl rfl) (xn_and1 (xn 2) xn_int) iop_addT)
 (xss_one (xst_aug (i := 2) sc_place_count.nd rfl (Or.inl rfl) xn_int iop_shr))))
 (xss_one (xst_ret (xn 1)))))), fun as hp => ?_⟩)
  obtain ⟨n, rfl, hn⟩ := hp
  refine ⟨True.intro, fun c0 ec => ⟨rfl, fun l0 el => ?_⟩⟩
  replace ec : c0 = 0 := ec
  replace el : l0 = n := el
  subst ec el
  refine to_lit (ρ' := [.fr (.int l0), .fr (.int 0), .fr (.int l0)]) rfl ?_
  refine ⟨fun ρ => ∃ c l, ρ = [.fr (.int l0), .fr (.int c), .fr (.int l)] ∧ 0 ≤ l ∧ c + pcN l = pcN l0, fun ρ => (getI ρ 2).toNat, ⟨0, l0, rfl, hn, by omega⟩, ?_⟩
  rintro ρ ⟨c, l, rfl, hl, he⟩
  refine ⟨⟨rfl, True.intro⟩, fun q => ?_, fun q => ?_⟩
  · have q : l > 0 := q
    have ps := pcN_s q
    refine ⟨rfl, ⟨rfl, True.intro, rfl⟩, True.intro, fun c' ec => ⟨rfl, True.intro, by show (0 : Int) ≤ 1; decide, fun l' el => ⟨⟨c', l', rfl, ?_, ?_⟩, ?_⟩⟩⟩
    · replace el : l' = l / 2 := el
      omega
    · replace el : l' = l / 2 := el
      replace ec : c' = c + l % 2 := ec
      rw [el, ec]
      omega
    · replace el : l' = l / 2 := el
      show l'.toNat < l.toNat
      omega
  · have q : ¬ l > 0 := q
    have : l = 0 := by omega
    subst this
    rw [pcN_0] at he
    refine ⟨rfl, ?_⟩
    show PV.int c = PV.int (pcN l0)
    rw [← he]
    congr 1
    omega
theorem kx_ones (T : Top K mg cK cW) : Ok P w K mg base 1 "_law_ones" ["_law_bits"] (spFI K (GkW cW) (fun as => ∃ n, as = [.int n] ∧ 0 ≤ n) fun as => match as with
    | [.int n] => pcN n
    | _ => 0) := by
  refine okF T.d_ones sc_ones (fun as ⟨a, h, _⟩ => by rw [h]; rfl) (fun f cdv A outer s H E hr => ⟨_, (xss_cons (xst_setI (i := 1) sc_ones.nd rfl (Or.inl rfl) xn_int)
 (xss_cons (xst_while PassesOwn.never (xt_gt (xn 0) xn_int)
 (xss_cons (xst_setI (i := 1) sc_ones.nd rfl (Or.inl rfl) (xn_add (xn 1) (xn_mod (xn 0) xn_int)))
 (xss_one (xst_setI (i := 0) sc_ones.nd rfl (Or.inl rfl) (xn_div (xn 0) xn_int)))))
 (xss_one (xst_ret (xn 1))))), fun as hp => ?_⟩)
  obtain ⟨n, rfl, hn⟩ := hp
  refine ⟨True.intro, fun c0 ec => ?_⟩
  replace ec : c0 = 0 := ec
  subst ec
  refine to_lit (ρ' := [.fr (.int n), .fr (.int 0)]) rfl ?_
  refine ⟨fun ρ => ∃ l c, ρ = [.fr (.int l), .fr (.int c)] ∧ 0 ≤ l ∧ c + pcN l = pcN n, fun ρ => (getI ρ 0).toNat, ⟨n, 0, rfl, hn, by omega⟩, ?_⟩
  rintro ρ ⟨l, c, rfl, hl, he⟩
  refine ⟨⟨rfl, True.intro⟩, fun q => ?_, fun q => ?_⟩
  · have q : l > 0 := q
    have ps := pcN_s q
    refine ⟨⟨rfl, rfl, True.intro, by show (0 : Int) < 2; decide⟩, fun c' ec => ⟨⟨rfl, True.intro, by show (0 : Int) < 2; decide, by show (2 : Int).natAbs.log2 < 9000; decide +kernel⟩, fun l' el => ⟨⟨l', c', rfl, ?_, ?_⟩, ?_⟩⟩⟩
    · replace el : l' = l / 2 := el
      omega
    · replace el : l' = l / 2 := el
      replace ec : c' = c + l % 2 := ec
      rw [el, ec]
      omega
    · replace el : l' = l / 2 := el
      show l'.toNat < l.toNat
      omega
  · have q : ¬ l > 0 := q
    have : l = 0 := by omega
    subst this
    rw [pcN_0] at he
    refine ⟨rfl, ?_⟩
    show PV.int c = PV.int (pcN n)
    rw [← he]
    congr 1
    omega


/-- the sets, in the order of their numbers -/
noncomputable def fewF (n : Int) : List Int := ((List.range (2 ^ n.toNat - 1)).filter fun (k : Nat) => decide (2 * pcN (1 + k) ≤ n)).map fun (k : Nat) => 1 + (k : Int)
theorem fewF_nd (n : Int) : (fewF n).Nodup := by
  unfold fewF
  refine List.nodup_iff_pairwise_ne.mpr (List.pairwise_map.mpr (((List.nodup_iff_pairwise_ne.mp List.nodup_range).filter _).imp fun {a b} h z => h ?_))
  omega
theorem fewF_len {n : Int} (h : n ≤ 12) : (fewF n).length ≤ 5000 := by
  unfold fewF
  rw [List.length_map]
  refine Nat.le_trans (List.length_filter_le _ _) ?_
  rw [List.length_range]
  have : 2 ^ n.toNat ≤ 2 ^ 12 := Nat.pow_le_pow_right (by decide) (by omega)
  omega
theorem fewF_pos {n m : Int} (h : m ∈ fewF n) : 0 < m := by
  unfold fewF at h
  obtain ⟨k, _, rfl⟩ := List.mem_map.mp h
  omega
theorem kx_sets (T : Top K mg cK cW) : Ok P w K mg base 5 "sets" ["count"] (spFL K (GkW cW) (fun as => ∃ n, as = [.int n] ∧ 0 ≤ n ∧ n ≤ 12) fun as => match as with
    | [.int n] => sortN pcN (fewF n)
    | _ => []) := by
  refine okFL T.d_sets sc_sets T.l_sets (fun as ⟨a, h, _⟩ => by rw [h]; rfl) (fun f cdv A outer s H E hr hl => ⟨_, (xss_cons (xst_lcRT2f (i := 1) sc_sets.nd rfl rfl (N' := ["bits", "count"]) (cap := [some 0]) (lc_ok rfl rfl rfl rfl ⟨⟨rfl, .inr (.inl rfl), ncl, .inl rfl, _, rfl, rfl⟩, True.intro⟩ ⟨rfl, True.intro⟩ rfl) rfl (by rfl) T.b_range xn_int (xn_shl xn_int (xn 0)) (fun _ _ _ => (pg_n 0)) (fun _ _ _ => (xt_le (xn_mul xn_int (xci (kx_place_count T) hr (xa_cons (xn 0) xa_nil))) (xn 1))) (fun _ _ _ => (xn 0)) rfl)
 (xss_one (xst_ret (newL (xl_sort2 pcN (kx_place_count T) hl hr T.b_sorted (xl 1)))))), fun as hp => ?_⟩)
  obtain ⟨n, rfl, h0, h12⟩ := hp
  have p12 : (2 : Int) ^ n.toNat = ((2 ^ n.toNat : Nat) : Int) := by rw [Int.natCast_pow]; rfl
  have ple : 2 ^ n.toNat ≤ 2 ^ 12 := Nat.pow_le_pow_right (by decide) (by omega)
  have ppos : 0 < 2 ^ n.toNat := Nat.pow_pos (by decide)
  have eg : (1 * (2 : Int) ^ n.toNat - 1).toNat = 2 ^ n.toNat - 1 := by rw [p12]; omega
  refine ⟨⟨⟨True.intro, True.intro, rfl, ?_⟩, ⟨by show -(2 : Int) ^ 62 ≤ 1; decide, by show (1 : Int) < 2 ^ 62; decide, ?_, ?_⟩, ?_, fun k hk => ⟨⟨⟨True.intro, ⟨⟨rfl, True.intro⟩, 1 + (k : Int), rfl, by omega⟩, ?_⟩, rfl⟩, fun _ => rfl⟩⟩, fun ns ens => ?_⟩
  · show 0 ≤ n ∧ (Builtin.Int.intBits 1 : Int) + n ≤ 2 ^ 27
    have : (Builtin.Int.intBits 1 : Int) = 1 := by decide
    omega
  · show -(2 : Int) ^ 62 ≤ 1 * 2 ^ n.toNat
    rw [p12]; omega
  · show 1 * (2 : Int) ^ n.toNat < 2 ^ 62
    rw [p12]; omega
  · show (1 * (2 : Int) ^ n.toNat - 1).toNat ≤ 10000
    rw [eg]; omega
  · exact mul_okL (by decide)
  replace ens : ns = fewF n := by
    rw [ens]
    show ((List.range (1 * (2 : Int) ^ n.toNat - 1).toNat).filter fun (k : Nat) => decide (2 * pcN (1 + k) ≤ n)).map (fun (k : Nat) => 1 + (k : Int)) = fewF n
    rw [eg]
    rfl
  subst ens
  refine to_lit (ρ' := [.fr (.int n), .fr (.ints (fewF n))]) rfl ?_
  exact ⟨⟨rfl, Nat.le_trans (fewF_len h12) (by decide), fewF_nd n, fun m hm => ⟨⟨m, rfl, Int.le_of_lt (fewF_pos hm)⟩, rfl⟩⟩, rfl⟩


/-! ### the sets row by row -/
theorem sortN_eq {cf : Int → Int} {l ns : List Int} (p : l.Perm ns) (o : l.Pairwise fun a b => lex2 (cf b, b) (cf a, a) = false) : sortN cf ns = l :=
  List.Perm.eq_of_pairwise (fun a b _ _ h1 h2 => congrArg Prod.snd (lex2_one h2 h1)) (sortN_so cf ns) o ((sortN_perm cf ns).trans p.symm)
theorem filter_two {α : Type} (p q : α → Bool) (h : ∀ x, p x = true → q x = false) : ∀ l : List α, (l.filter p ++ l.filter q).Perm (l.filter fun x => p x || q x)
  | [] => List.Perm.refl _
  | x :: r => by
    have ih := filter_two p q h r
    rw [List.filter_cons, List.filter_cons, List.filter_cons]
    cases e : p x with
    | true =>
      rw [h x e]
      exact ih.cons x
    | false =>
      cases f : q x with
      | true => exact List.perm_middle.trans (ih.cons x)
      | false => exact ih
/-- by what p tells, one behind the other -/
theorem rows_perm {α : Type} (p : α → Nat) (l : List α) : ∀ m : Nat, ((List.range m).map fun f => l.filter fun x => decide (p x = f)).flatten.Perm (l.filter fun x => decide (p x < m))
  | 0 => by
    have : (l.filter fun x => decide (p x < 0)) = [] := List.filter_eq_nil_iff.mpr fun x _ z => by
      have := of_decide_eq_true z
      omega
    rw [this]
    exact List.Perm.refl _
  | m + 1 => by
    rw [List.range_succ, List.map_append, List.flatten_append]
    refine (List.Perm.append_right _ (rows_perm p l m)).trans ?_
    have e : ([m].map fun f => l.filter fun x => decide (p x = f)).flatten = l.filter fun x => decide (p x = m) := by
      show (l.filter fun x => decide (p x = m)) ++ [] = _
      rw [List.append_nil]
    rw [e]
    refine (filter_two _ _ (fun x hx => ?_) l).trans ?_
    · have := of_decide_eq_true hx
      exact decide_eq_false (by omega)
    · have e2 : (fun x => decide (p x < m) || decide (p x = m)) = fun x => decide (p x < m + 1) := by
        funext x
        rw [← Bool.decide_or]
        exact decide_eq_decide.mpr (by omega)
      rw [e2]
noncomputable def rwF (i f : Nat) : List Int := ((List.range i).filter fun (k : Nat) => decide (pcc (1 + k) = f)).map fun (k : Nat) => 1 + (k : Int)
noncomputable def rowsF (m i : Nat) : List (List Int) := (List.range m).map (rwF i)
theorem rwF_s (i f : Nat) : rwF (i + 1) f = if pcc (1 + i) = f then rwF i f ++ [1 + (i : Int)] else rwF i f := by
  unfold rwF
  rw [List.range_succ, List.filter_append, List.map_append]
  split
  · rename_i h
    have e : ([i].filter fun (k : Nat) => decide (pcc (1 + k) = f)) = [i] := by simp [h]
    rw [e]
    rfl
  · rename_i h
    have e : ([i].filter fun (k : Nat) => decide (pcc (1 + k) = f)) = [] := by simp [h]
    rw [e]
    exact List.append_nil _
theorem rowsF_0 (m : Nat) : rowsF m 0 = List.replicate m [] := by
  unfold rowsF
  rw [List.eq_replicate_iff]
  exact ⟨by rw [List.length_map, List.length_range], fun b hb => by
    obtain ⟨f, _, rfl⟩ := List.mem_map.mp hb
    rfl⟩
theorem rowsF_len (m i : Nat) : (rowsF m i).length = m := by unfold rowsF; rw [List.length_map, List.length_range]
theorem rowsF_get {m i f : Nat} (h : f < m) : (rowsF m i).getD f [] = rwF i f := by
  unfold rowsF
  rw [List.getD_eq_getElem?_getD, List.getElem?_map, List.getElem?_range h]
  rfl
theorem rowsF_at {m i f : Nat} (h : f < (rowsF m i).length) : (rowsF m i)[f] = rwF i f := by
  have e : (rowsF m i)[f]? = some (rwF i f) := by
    rw [rowsF_len] at h
    unfold rowsF
    rw [List.getElem?_map, List.getElem?_range h]
    rfl
  exact (List.getElem?_eq_some_iff.mp e).2
theorem rowsF_in {m i : Nat} (h : pcc (1 + i) < m) : rowsF m (i + 1) = (rowsF m i).set (pcc (1 + i)) (rwF i (pcc (1 + i)) ++ [1 + (i : Int)]) := by
  refine List.ext_getElem (by rw [List.length_set, rowsF_len, rowsF_len]) fun f h1 h2 => ?_
  rw [List.getElem_set, rowsF_at, rwF_s]
  split
  · rename_i e
    rw [e]
  · rw [rowsF_at]
theorem rowsF_out {m i : Nat} (h : ¬ pcc (1 + i) < m) : rowsF m (i + 1) = rowsF m i := by
  unfold rowsF
  refine List.map_congr_left fun f hf => ?_
  rw [rwF_s, if_neg]
  intro z
  have := List.mem_range.mp hf
  omega
theorem rwF_mem {i f : Nat} {n : Int} (h : n ∈ rwF i f) : 0 < n ∧ pcN n = f := by
  unfold rwF at h
  obtain ⟨k, hk, rfl⟩ := List.mem_map.mp h
  have := of_decide_eq_true (List.mem_filter.mp hk).2
  refine ⟨by omega, ?_⟩
  unfold pcN
  rw [show (1 + (k : Int)).toNat = 1 + k by omega, this]
theorem rowsF_all {n : Int} (h0 : 0 ≤ n) : (rowsF (n / 2 + 1).toNat (2 ^ n.toNat - 1)).flatten = sortN pcN (fewF n) := by
  symm
  refine sortN_eq ?_ ?_
  · have e1 : rowsF (n / 2 + 1).toNat (2 ^ n.toNat - 1) = ((List.range (n / 2 + 1).toNat).map fun f => (List.range (2 ^ n.toNat - 1)).filter fun k => decide (pcc (1 + k) = f)).map (List.map fun (k : Nat) => 1 + (k : Int)) := by
      rw [List.map_map]
      rfl
    rw [e1, ← List.map_flatten]
    unfold fewF
    have := rows_perm (fun k => pcc (1 + k)) (List.range (2 ^ n.toNat - 1)) (n / 2 + 1).toNat
    refine (this.map _).trans ?_
    have e2 : (fun k => decide (pcc (1 + k) < (n / 2 + 1).toNat)) = fun (k : Nat) => decide (2 * pcN (1 + k) ≤ n) := by
      funext k
      refine decide_eq_decide.mpr ?_
      unfold pcN
      rw [show (1 + (k : Int)).toNat = 1 + k by omega]
      omega
    rw [e2]
  · refine List.pairwise_flatten.mpr ⟨fun l hl => ?_, ?_⟩
    · unfold rowsF at hl
      obtain ⟨f, _, rfl⟩ := List.mem_map.mp hl
      refine List.Pairwise.imp_of_mem (R := fun a b => a < b) (fun {a b} ha hb h => lex2_no.mpr (.inr ⟨?_, ?_⟩)) ?_
      · rw [(rwF_mem ha).2, (rwF_mem hb).2]
      · show a ≤ b
        omega
      · unfold rwF
        exact List.pairwise_map.mpr ((List.pairwise_lt_range.filter _).imp fun h => by omega)
    · unfold rowsF
      refine List.pairwise_map.mpr (List.pairwise_lt_range.imp fun {f g} h a ha b hb => lex2_no.mpr (.inl ?_))
      show pcN a < pcN b
      rw [(rwF_mem ha).2, (rwF_mem hb).2]
      omega
theorem rwF_len (i f : Nat) : (rwF i f).length ≤ i := by
  unfold rwF
  rw [List.length_map]
  exact Nat.le_trans (List.length_filter_le _ _) (by rw [List.length_range]; exact Nat.le_refl _)


theorem kx_counted (T : Top K mg cK cW) : Ok P w K mg base 2 "_law_counted" ["_law_count"] (spFL K (GkW cW) (fun as => ∃ n, as = [.int n] ∧ 0 ≤ n ∧ n ≤ 12) fun as => match as with
    | [.int n] => sortN pcN (fewF n)
    | _ => []) := by
  refine okF T.d_counted sc_counted (fun as ⟨a, h, _⟩ => by rw [h]; rfl) (fun f cdv A outer s H E hr => ⟨_, (xss_cons (xst_olC (i := 1) sc_counted.nd rfl rfl (N' := ["_law_few"]) (cap := []) (lc_ok rfl rfl rfl rfl True.intro True.intro rfl) rfl (by rfl) T.b_range (xn_add (xn_div (xn 0) xn_int) xn_int) (fun _ _ _ => (pg_n 0)) rfl)
 (xss_cons (xst_forR2 (k := 2) PassesOwn.never rfl (by rfl) T.b_range xn_int (xn_shl xn_int (xn 0)) sc_counted.nd rfl (Or.inl rfl)
 (xss_cons (xst_setI (i := 3) sc_counted.nd rfl (Or.inl rfl) (xci (kx_ones T) hr (xa_cons (xn 2) xa_nil)))
 (xss_one (xst_if (xt_le (xn 3) (xn_div (xn 0) xn_int))
 (xss_one (xst_olIn 1 (xn 3) (fun _ _ => rfl) (xn 2)))
 xss_nil))))
 (xss_freezeT 1 (xss_cons (xst_setL (i := 4) sc_counted.nd rfl (Or.inl rfl) (newL (xl_lst xa_nil)))
 (xss_cons (xst_forP (k := 5) PassesOwn.never rfl (xp_of (xv 1)) sc_counted.nd rfl (Or.inl rfl)
 (xss_one (xst_setL (i := 4) sc_counted.nd rfl (Or.inl rfl) (newL (xl_cat (xl 4) (xl 5))))))
 (xss_one (xst_ret (xl 4)))))))), fun as hp => ?_⟩)
  obtain ⟨n, rfl, h0, h12⟩ := hp
  have p12 : (2 : Int) ^ n.toNat = ((2 ^ n.toNat : Nat) : Int) := by rw [Int.natCast_pow]; rfl
  have ple : 2 ^ n.toNat ≤ 2 ^ 12 := Nat.pow_le_pow_right (by decide) (by omega)
  have ppos : 0 < 2 ^ n.toNat := Nat.pow_pos (by decide)
  have eg : (1 * (2 : Int) ^ n.toNat - 1).toNat = 2 ^ n.toNat - 1 := by rw [p12]; omega
  have all := rowsF_all h0
  generalize hm : (n / 2 + 1).toNat = m at all
  have hm7 : m ≤ 7 := by omega
  have hmn : (m : Int) = n / 2 + 1 := by omega
  refine ⟨⟨⟨rfl, True.intro, by show (0 : Int) < 2; decide, by show (2 : Int).natAbs.log2 < 9000; decide +kernel⟩, True.intro⟩, ⟨by show 0 ≤ n / 2 + 1; omega, by show n / 2 + 1 ≤ 1000; omega⟩, rfl, ?_⟩
  refine to_lit (ρ' := [.fr (.int n), .o2 (rowsF m 0), .un, .un, .un, .un]) (by rw [rowsF_0, ← hm]; rfl) ?_
  refine ⟨⟨True.intro, True.intro, rfl, ?_⟩, ⟨by show -(2 : Int) ^ 62 ≤ 1; decide, by show (1 : Int) < 2 ^ 62; decide, ?_, ?_⟩, fun i ρ => ∃ a b, ρ = [.fr (.int n), .o2 (rowsF m i), a, b, .un, .un], ⟨.un, .un, rfl⟩, ?_, ?_⟩
  · show 0 ≤ n ∧ (Builtin.Int.intBits 1 : Int) + n ≤ 2 ^ 27
    have : (Builtin.Int.intBits 1 : Int) = 1 := by decide
    omega
  · show -(2 : Int) ^ 62 ≤ 1 * 2 ^ n.toNat
    rw [p12]; omega
  · show 1 * (2 : Int) ^ n.toNat < 2 ^ 62
    rw [p12]; omega
  · rintro i ρ hi ⟨a, b, rfl⟩
    have hi : i < (1 * (2 : Int) ^ n.toNat - 1).toNat := hi
    rw [eg] at hi
    refine ⟨⟨⟨rfl, True.intro⟩, 1 + (i : Int), rfl, by omega⟩, fun fw efw => ?_⟩
    replace efw : fw = pcN (1 + (i : Int)) := efw
    have efn : fw = ((pcc (1 + i) : Nat) : Int) := by
      rw [efw]
      unfold pcN
      rw [show (1 + (i : Int)).toNat = 1 + i by omega]
    refine to_lit (ρ' := [.fr (.int n), .o2 (rowsF m i), .fr (.int (1 + (i : Int))), .fr (.int fw), .un, .un]) rfl ?_
    refine ⟨⟨rfl, rfl, True.intro, by show (0 : Int) < 2; decide, by show (2 : Int).natAbs.log2 < 9000; decide +kernel⟩, fun q => ?_, fun q => ?_⟩
    · have q : fw ≤ n / 2 := q
      have hf : pcc (1 + i) < m := by omega
      have ix : ixO m fw = pcc (1 + i) := by
        unfold ixO
        rw [if_pos (by omega)]
        omega
      have il := rwF_len i (pcc (1 + i))
      refine ⟨rfl, rfl, ⟨?_, ?_⟩, rfl, ?_, ?_⟩
      · show -((rowsF m i).length : Int) ≤ fw
        rw [rowsF_len]; omega
      · show fw < ((rowsF m i).length : Int)
        rw [rowsF_len]; omega
      · show ((rowsF m i).getD (ixO (rowsF m i).length fw) []).length < sizeLine
        rw [rowsF_len, ix, rowsF_get hf, sizeLine_eq]; omega
      · refine ⟨.fr (.int (1 + (i : Int))), .fr (.int fw), ?_⟩
        show [Sl.fr (.int n), .o2 ((rowsF m i).set (ixO (rowsF m i).length fw) ((rowsF m i).getD (ixO (rowsF m i).length fw) [] ++ [1 + (i : Int)])), .fr (.int (1 + (i : Int))), .fr (.int fw), .un, .un] = _
        rw [rowsF_len, ix, rowsF_get hf, ← rowsF_in hf]
    · have q : ¬ fw ≤ n / 2 := q
      exact ⟨.fr (.int (1 + (i : Int))), .fr (.int fw), by rw [rowsF_out (by omega)]⟩
  rintro ρ ⟨a, b, er⟩
  have er : ρ = [.fr (.int n), .o2 (rowsF m (1 * (2 : Int) ^ n.toNat - 1).toNat), a, b, .un, .un] := er
  rw [eg] at er
  subst er
  generalize hN : 2 ^ n.toNat - 1 = N at all
  have rl : (rowsF m N).length ≤ 7 := by rw [rowsF_len]; exact hm7
  have fb : ∀ j, j ≤ 7 → ((rowsF m N).take j).flatten.length ≤ j * 5000 := fun j hj => by
    induction j with
    | zero => exact Nat.le_refl _
    | succ j ih =>
      have ih := ih (by omega)
      by_cases c : j < (rowsF m N).length
      · rw [List.take_succ_eq_append_getElem c, List.flatten_append, List.length_append]
        have : ([(rowsF m N)[j]] : List (List Int)).flatten.length ≤ 5000 := by
          have e : (rowsF m N)[j] = rwF N j := rowsF_at c
          rw [e]
          show (rwF N j ++ []).length ≤ 5000
          rw [List.append_nil]
          have := rwF_len N j
          omega
        omega
      · rw [List.take_of_length_le (by omega)]
        rw [List.take_of_length_le (by omega)] at ih
        omega
  refine ⟨⟨True.intro, True.intro⟩, fun md emd => ?_⟩
  replace emd : md = [] := emd
  subst emd
  refine to_lit (ρ' := [.fr (.int n), .fr (.lst ((rowsF m N).map PV.ints)), a, b, .fr (.ints []), .un]) rfl ?_
  refine ⟨⟨rfl, rfl⟩, fun i ρ => i ≤ 7 ∧ ∃ c, ρ = [.fr (.int n), .fr (.lst ((rowsF m N).map PV.ints)), a, b, .fr (.ints ((rowsF m N).take i).flatten), c], ⟨Nat.zero_le _, .un, rfl⟩, ?_, ?_⟩
  · rintro i q ρ hq ⟨hi, c, rfl⟩
    have hq : ((rowsF m N).map PV.ints)[i]? = some q := hq
    rw [List.getElem?_map] at hq
    have il : i < (rowsF m N).length := by
      rcases Nat.lt_or_ge i (rowsF m N).length with z | z
      · exact z
      · rw [List.getElem?_eq_none z] at hq; cases hq
    rw [List.getElem?_eq_getElem il] at hq
    cases hq
    have e : (rowsF m N)[i] = rwF N i := rowsF_at il
    have f1 := fb i hi
    have f2 := rwF_len N i
    refine ⟨⟨rfl, rfl, ?_⟩, fun md emd => ⟨by omega, .fr (.ints (rowsF m N)[i]), ?_⟩⟩
    · show ((rowsF m N).take i).flatten.length + (rowsF m N)[i].length ≤ sizeLine
      rw [e, sizeLine_eq]; omega
    · replace emd : md = ((rowsF m N).take (i + 1)).flatten := by
        rw [emd, List.take_succ_eq_append_getElem il, List.flatten_append]
        show _ = _ ++ ((rowsF m N)[i] ++ [])
        rw [List.append_nil]
        rfl
      rw [emd]
      rfl
  rintro ρ ⟨_, c, er⟩
  have er : ρ = [.fr (.int n), .fr (.lst ((rowsF m N).map PV.ints)), a, b, .fr (.ints ((rowsF m N).take ((rowsF m N).map PV.ints).length).flatten), c] := er
  rw [List.length_map, List.take_length, all] at er
  subst er
  exact ⟨rfl, rfl⟩


/-! ### sums -/
noncomputable def addL (f g : List Int) : List Int := (List.range (max f.length g.length)).map fun n => f.getD n 0 + g.getD n 0
theorem addL_get (f g : List Int) (n : Nat) : (addL f g).getD n 0 = f.getD n 0 + g.getD n 0 := by
  unfold addL
  by_cases h : n < max f.length g.length
  · rw [getD_lt (by rw [List.length_map, List.length_range]; exact h), List.getElem_map, List.getElem_range]
  · rw [getD_ge (by rw [List.length_map, List.length_range]; omega), getD_ge (by omega), getD_ge (by omega)]
    rfl
/-! ### division of polynomials: what the steps keep, and that there is but one quotient and rest -/
noncomputable def lastI (xs : List Int) : Int := xs.getD (xs.length - 1) 0
theorem sm_dvd : ∀ {N : Nat}, (∀ j, j < N → z ∣ f j) → z ∣ sm N f
  | 0, _ => Int.dvd_zero z
  | N + 1, h => Int.dvd_add (sm_dvd fun j hj => h j (by omega)) (h N (by omega))
/-- the difference of two lists -/
noncomputable def subL (a b : List Int) : List Int := (List.range (max a.length b.length)).map fun i => a.getD i 0 - b.getD i 0
theorem subL_get (a b : List Int) (n : Nat) : (subL a b).getD n 0 = a.getD n 0 - b.getD n 0 := by
  unfold subL
  by_cases h : n < max a.length b.length
  · rw [getD_lt (by rw [List.length_map, List.length_range]; exact h), List.getElem_map, List.getElem_range]
  · rw [getD_ge (by rw [List.length_map, List.length_range]; omega), getD_ge (xs := a) (by omega), getD_ge (xs := b) (by omega)]; rfl
theorem sm_sub (f g : Nat → Int) : ∀ N, sm N (fun i => f i - g i) = sm N f - sm N g
  | 0 => rfl
  | N + 1 => by
    show sm N (fun i => f i - g i) + (f N - g N) = sm N f + f N - (sm N g + g N)
    rw [sm_sub f g N]
    omega
theorem cm_sub (a b d : List Int) (n : Nat) : cm (subL a b) d n = cm a d n - cm b d n := by
  unfold cm
  rw [← sm_sub]
  exact sm_congr fun i _ => by rw [subL_get, Int.sub_mul]
/-- one step: c times the divisor is taken off -/
noncomputable def nextR (z : Int) (d r : List Int) (c : Int) : List Int := trimZ ((List.range r.length).map fun n => if r.length - d.length ≤ n then pl z (r.getD n 0 - c * d.getD (n - (r.length - d.length)) 0) else r.getD n 0)
structure DInv (z : Int) (f d q r : List Int) : Prop where
  eq : ∀ n, z ∣ cm q d n + r.getD n 0 - f.getD n 0
  rr : ∀ n, pl z (r.getD n 0) = r.getD n 0
  rf : InForm r
  qr : ∀ n, pl z (q.getD n 0) = q.getD n 0
  ql : q.length = f.length + 1 - d.length
  rl : r.length ≤ f.length
  q0 : ∀ n, n + d.length ≤ r.length → q.getD n 0 = 0
  qt : r.length < f.length → q.getD (f.length - d.length) 0 ≠ 0
theorem Tz_red' (h : m ∈ Tz z f) : pl z m = m := by
  obtain ⟨k, _, rfl⟩ := Tz_mem h
  exact pl_pl _ _
theorem last_ix (ns : List Int) (h : 0 < ns.length) : ns.getD (ixO ns.length (-1)) 0 = lastI ns := by
  have e : ixO ns.length (-1) = ns.length - 1 := by
    unfold ixO
    rw [if_neg (by omega)]
    omega
  rw [e]
  rfl

/-! ### products behind one another -/
/-- the product of two, with no nought behind -/
noncomputable def mu (f g : List Int) : List Int := trimZ (convL f g)
/-! ### polynomials by a prime and by a polynomial -/
noncomputable def EqM (p : Int) (d a b : List Int) : Prop := ∃ Q : List Int, ∀ n, p ∣ a.getD n 0 - b.getD n 0 - cm Q d n
/-- a product's numbers, where one side is known up to what p divides -/
theorem cm_left (h : ∀ n, p ∣ a.getD n 0 - b.getD n 0) (n : Nat) : p ∣ cm a c n - cm b c n := by
  rw [← cm_sub]
  exact sm_dvd fun i _ => by
    rw [subL_get]
    exact Int.dvd_mul_of_dvd_left (h i)
/-- a rest: in form, by p, shorter than the divisor -/
structure IsR (p : Int) (d r : List Int) : Prop where
  form : InForm r
  red : ∀ n, pl p (r.getD n 0) = r.getD n 0
  len : r.length < d.length
open Classical in
noncomputable def rm (p : Int) (d a : List Int) : List Int := if h : ∃ r, IsR p d r ∧ EqM p d a r then Classical.choose h else []
/-- powers, not cut -/
noncomputable def pw (a : List Int) : Nat → List Int
  | 0 => [1]
  | k + 1 => convL (pw a k) a
/-- above minus half of the size, at most half of it -/
noncomputable def nrF (z n : Int) : Int := if 2 * (n % z) > z then n % z - z else n % z
theorem kx_rests_by (T : Top K mg cK cW) : Ok P w K mg base 1 "rests_by" ["size", "f"] (spL K (GkW cW) (fun as => ∃ z f, as = [.int z, .ints f] ∧ 0 < z ∧ f.length ≤ 1000) fun as => match as with
    | [.int z, .ints f] => f.map fun n => n % z
    | _ => []) := by
  refine okL T.d_rests_by sc_rests_by (fun as ⟨a, b, h, _⟩ => by rw [h]; rfl) (fun f cdv A outer s H E hr => ⟨_, (xss_one (xst_retl (xl_lcL (N' := ["number", "size"]) (cap := [some 0]) (lc_ok rfl rfl rfl rfl ⟨⟨rfl, .inr (.inl rfl), ncl, .inl rfl, _, rfl, rfl⟩, True.intro⟩ ⟨rfl, True.intro⟩ rfl) rfl (xl 1) (fun _ _ _ => (pg_n 0)) (fun _ _ _ => (xn_mod (xn 0) (xn 1)))))), fun as hp => ?_⟩)
  obtain ⟨z, f, rfl, hz, hf⟩ := hp
  exact ⟨⟨rfl, hf, fun n _ => ⟨rfl, rfl, hz⟩⟩, rfl⟩
theorem kx_nearest (T : Top K mg cK cW) : Ok P w K mg base 1 "nearest" ["size", "number"] (spFI K (GkW cW) (fun as => ∃ z n, as = [.int z, .int n] ∧ 0 < z) fun as => match as with
    | [.int z, .int n] => nrF z n
    | _ => 0) := by
  refine okF T.d_nearest sc_nearest (fun as ⟨a, b, h, _⟩ => by rw [h]; rfl) (fun f cdv A outer s H E hr => ⟨_, (xss_cons (xst_setI (i := 2) sc_nearest.nd rfl (Or.inl rfl) (xn_mod (xn 1) (xn 0)))
 (xss_one (xst_ret (xv_if (xt_gt (xn_mul xn_int (xn 2)) (xn 0)) (xn_sub (xn 2) (xn 0)) (xn 2))))), fun as hp => ?_⟩)
  obtain ⟨z, n, rfl, hz⟩ := hp
  refine ⟨⟨rfl, rfl, hz⟩, fun r er => ?_⟩
  replace er : r = n % z := er
  refine to_lit (ρ' := [.fr (.int z), .fr (.int n), .fr (.int r)]) rfl ?_
  refine ⟨⟨⟨⟨True.intro, rfl, mul_okL (by decide)⟩, rfl⟩, fun _ => ⟨rfl, rfl⟩, fun _ => rfl⟩, ?_⟩
  show (if 2 * r > z then PV.int (r - z) else PV.int r) = PV.int (nrF z n)
  unfold nrF
  rw [er]
  split <;> rfl
/-- what candidate has multiplied after i of them -/
noncomputable def prU (z b : Int) (uss : List (List Int)) (l0 : List Int) : Nat → List Int
  | 0 => l0
  | i + 1 => if b / 2 ^ i % 2 = 1 then (Tz 0 (convL (Tz 0 (prU z b uss l0 i)) (Tz 0 ((uss.getD i []).map fun n => n % z)))).map fun n => n % z else prU z b uss l0 i
noncomputable def maU (z b : Int) (uss : List (List Int)) (l0 : List Int) : Nat → List Int
  | 0 => l0
  | i + 1 => if b / 2 ^ i % 2 = 1 then Tz z (convL (maU z b uss l0 i) (uss.getD i [])) else maU z b uss l0 i
theorem mod_b {z n : Int} (hz : 0 < z) (h2 : z < ((2 ^ 200 : Nat) : Int)) : (n % z).natAbs < 2 ^ 200 := by
  have h1 := Int.emod_nonneg n (show z ≠ 0 by omega)
  have h3 := Int.emod_lt_of_pos n hz
  generalize (2 : Nat) ^ 200 = N at h2 ⊢
  omega
theorem prU_b {z b : Int} {uss : List (List Int)} {l0 : List Int} (hz : 0 < z) (h2 : z < ((2 ^ 200 : Nat) : Int)) (hl : l0.length ≤ 1) (hb : ∀ m ∈ l0, m.natAbs < 2 ^ 200) (hu : ∀ u ∈ uss, u.length ≤ 10) : ∀ i, (prU z b uss l0 i).length ≤ 1 + 10 * i ∧ ∀ m ∈ prU z b uss l0 i, m.natAbs < 2 ^ 200
  | 0 => ⟨hl, hb⟩
  | i + 1 => by
    obtain ⟨h3, h4⟩ := prU_b (b := b) hz h2 hl hb hu i
    unfold prU
    split
    · refine ⟨?_, fun m hm => ?_⟩
      · rw [List.length_map]
        refine Nat.le_trans (trimZ_len _) ?_
        rw [List.length_map]
        unfold convL
        rw [List.length_map, List.length_range]
        have a1 : (Tz 0 (prU z b uss l0 i)).length ≤ 1 + 10 * i := Nat.le_trans (Nat.le_trans (trimZ_len _) (by rw [List.length_map]; exact Nat.le_refl _)) h3
        have a2 : (Tz 0 ((uss.getD i []).map fun n => n % z)).length ≤ 10 := by
          refine Nat.le_trans (trimZ_len _) ?_
          rw [List.length_map, List.length_map, List.getD_eq_getElem?_getD]
          cases e : uss[i]? with
          | none => exact Nat.zero_le _
          | some u => exact hu u (List.mem_of_getElem? e)
        omega
      · obtain ⟨n, _, rfl⟩ := List.mem_map.mp hm
        exact mod_b hz h2
    · exact ⟨by omega, h4⟩
theorem Tz0_get (f : List Int) (n : Nat) : (Tz 0 f).getD n 0 = f.getD n 0 := by
  rw [Tz_get]
  rfl
theorem cm_dvd {p : Int} {a b c d : List Int} (h : ∀ n, p ∣ a.getD n 0 - b.getD n 0) (k : ∀ n, p ∣ c.getD n 0 - d.getD n 0) (n : Nat) : p ∣ cm a c n - cm b d n := by
  have h1 := cm_left (c := c) h n
  have h2 := cm_left (c := b) k n
  rw [cm_comm c b, cm_comm d b] at h2
  have := Int.dvd_add h1 h2
  rw [show cm a c n - cm b c n + (cm b c n - cm b d n) = cm a c n - cm b d n by omega] at this
  exact this
theorem map_get {f : Int → Int} (h : f 0 = 0) (l : List Int) (n : Nat) : (l.map f).getD n 0 = f (l.getD n 0) := by
  rw [List.getD_eq_getElem?_getD, List.getElem?_map, List.getD_eq_getElem?_getD]
  cases l[n]? with
  | none => exact h.symm
  | some x => rfl
theorem mod_dvd (z n : Int) : z ∣ n % z - n := by
  have := Int.emod_add_mul_ediv n z
  exact ⟨-(n / z), by rw [Int.mul_neg]; omega⟩
/-- both are alike by the size -/
theorem pr_ma {z b : Int} {uss : List (List Int)} {l0 : List Int} (hz : 0 < z) : ∀ i n, z ∣ (prU z b uss l0 i).getD n 0 - (maU z b uss l0 i).getD n 0
  | 0, n => by
    show z ∣ l0.getD n 0 - l0.getD n 0
    rw [Int.sub_self]
    exact Int.dvd_zero z
  | i + 1, n => by
    have ih := pr_ma (b := b) (uss := uss) (l0 := l0) hz i
    unfold prU maU
    split
    · rw [map_get (Int.zero_emod z), Tz0_get, convL_get, Tz_get, convL_get, pl_pos hz]
      have h1 : z ∣ cm (Tz 0 (prU z b uss l0 i)) (Tz 0 ((uss.getD i []).map fun n => n % z)) n - cm (maU z b uss l0 i) (uss.getD i []) n := cm_dvd (fun k => by rw [Tz0_get]; exact ih k) (fun k => by rw [Tz0_get, map_get (Int.zero_emod z)]; exact mod_dvd z _) n
      generalize cm (Tz 0 (prU z b uss l0 i)) (Tz 0 ((uss.getD i []).map fun n => n % z)) n = x at h1
      generalize cm (maU z b uss l0 i) (uss.getD i []) n = y at h1
      have h2 := Int.dvd_sub (Int.dvd_add (mod_dvd z x) h1) (mod_dvd z y)
      rw [show x % z - x + (x - y) - (y % z - y) = x % z - y % z by omega] at h2
      exact h2
    · exact ih n
theorem kx_candidate (T : Top K mg cK cW) : Ok P w K mg base 4 "candidate" ["g", "size", "ups", "bits"] (spFL K (GkW cW) (fun as => ∃ (g : List Int) (z : Int) (uss : List (List Int)) (b : Int), as = [.ints g, .int z, .lst (uss.map PV.ints), .int b] ∧ 0 < z ∧ z < ((2 ^ 200 : Nat) : Int) ∧ trimZ g ≠ [] ∧ g.length ≤ 1000 ∧ (∀ m ∈ g, m.natAbs < 2 ^ 200) ∧ uss.length ≤ 10 ∧ ∀ u ∈ uss, u.length ≤ 10) fun as => match as with
    | [.ints g, .int z, .lst us, .int b] => trimZ ((prU z b (us.map rowI) [lastI (trimZ g)] us.length).map (nrF z))
    | _ => []) := by
  refine okF T.d_candidate sc_candidate (fun as ⟨a, b, c, d, h, _⟩ => by rw [h]; rfl) (fun f cdv A outer s H E hr => ⟨_, (xss_cons (xst_setL (i := 4) sc_candidate.nd rfl (Or.inl rfl) (newL (xl_lst (xa_cons (xn_of (xp_item (newL (xcl (kx_trimmed T) hr (xa_cons (xk_W (oi_Wholes T) hr gkW) (xa_cons (xl 0) xa_nil)))) (xn_neg xn_int) (fun _ _ => rfl))) xa_nil))))
 (xss_cons (xst_forEP (k := 5) (j := 6) PassesOwn.never rfl (by rfl) T.b_enumerate (xp_of (xv 2)) (pg_tup rfl (pgs_cons (pg_name (i := 5) sc_candidate.nd rfl (Or.inl rfl)) (pgs_cons (pg_name (i := 6) sc_candidate.nd rfl (Or.inl rfl)) pgs_nil)))
 (xss_one (xst_if (xt_eq (xn_and1 (xn_shr (xn 3) (xn 5)) xn_int) xn_int)
 (xss_one (xst_setL (i := 4) sc_candidate.nd rfl (Or.inl rfl) (newL (xcl (kx_rests_by T) hr (xa_cons (xn 1) (xa_cons (newL (xcl (kx_times T) hr (xa_cons (xk_W (oi_Wholes T) hr gkW) (xa_cons (xl 4) (xa_cons (newL (xcl (kx_rests_by T) hr (xa_cons (xn 1) (xa_cons (xl 6) xa_nil)))) xa_nil))))) xa_nil))))))
 xss_nil)))
 (xss_one (xst_ret (newL (xcl (kx_trimmed T) hr (xa_cons (xk_W (oi_Wholes T) hr gkW) (xa_cons (newL (xl_lcL (N' := ["number", "size"]) (cap := [some 1]) (lc_ok rfl rfl rfl rfl ⟨⟨rfl, .inr (.inl rfl), ncl, .inl rfl, _, rfl, rfl⟩, True.intro⟩ ⟨rfl, True.intro⟩ rfl) rfl (xl 4) (fun _ _ _ => (pg_n 0)) (fun _ _ _ => (xci (kx_nearest T) hr (xa_cons (xn 1) (xa_cons (xn 0) xa_nil)))))) xa_nil)))))))), fun as hp => ?_⟩)
  obtain ⟨g, z, uss, b, rfl, hz, hz2, gne, gl, gb, ul, uu⟩ := hp
  have eI : (uss.map PV.ints).map rowI = uss := by
    rw [List.map_map]
    exact (List.map_congr_left fun u _ => rfl).trans (List.map_id _)
  have eT : Tz 0 g = trimZ g := by
    unfold Tz
    rw [show g.map (pl 0) = g from (List.map_congr_left fun n _ => rfl).trans (List.map_id _)]
  have lT := List.length_pos_iff.mpr gne
  refine ⟨⟨⟨⟨⟨⟨⟨True.intro, rfl, True.intro⟩, 0, g, rfl, gl⟩, True.intro, ?_⟩, rfl⟩, True.intro⟩, True.intro⟩, fun l0 el => ?_⟩
  · show -((Tz 0 g).length : Int) ≤ -1 ∧ (-1 : Int) < ((Tz 0 g).length : Int)
    rw [eT]; omega
  replace el : l0 = [lastI (trimZ g)] := by
    rw [el]
    show [(Tz 0 g).getD (ixO (Tz 0 g).length (-1)) 0] = _
    rw [eT, last_ix _ lT]
  have lb : l0.length ≤ 1 ∧ ∀ m ∈ l0, m.natAbs < 2 ^ 200 := by
    rw [el]
    refine ⟨Nat.le_refl _, fun m hm => ?_⟩
    rw [List.mem_singleton.mp hm]
    show ((trimZ g).getD ((trimZ g).length - 1) 0).natAbs < _
    rw [trimZ_get _ _ rfl]
    by_cases c : (trimZ g).length - 1 < g.length
    · exact gb _ (FM.getD_mem c)
    · rw [getD_ge (by omega)]; exact Nat.pow_pos (by decide)
  have pb := prU_b (b := b) hz hz2 lb.1 lb.2 uu
  have big : ∀ {k : Nat}, k < 2 ^ 200 → k < 2 ^ 9000 := fun h => Nat.lt_of_lt_of_le h (Nat.pow_le_pow_right (by decide) (by decide))
  refine to_lit (ρ' := [.fr (.ints g), .fr (.int z), .fr (.lst (uss.map PV.ints)), .fr (.int b), .fr (.ints l0), .un, .un]) rfl ?_
  refine ⟨⟨rfl, rfl⟩, fun i ρ => i ≤ uss.length ∧ ∃ v w, ρ = [.fr (.ints g), .fr (.int z), .fr (.lst (uss.map PV.ints)), .fr (.int b), .fr (.ints (prU z b uss l0 i)), v, w], ⟨Nat.zero_le _, .un, .un, rfl⟩, ?_, ?_⟩
  · rintro i q ρ hq ⟨hi, v, w, rfl⟩
    have hq : (uss.map PV.ints)[i]? = some q := hq
    rw [List.getElem?_map] at hq
    have il : i < uss.length := by
      rcases Nat.lt_or_ge i uss.length with z | z
      · exact z
      · rw [List.getElem?_eq_none z] at hq; cases hq
    rw [List.getElem?_eq_getElem il] at hq
    cases hq
    have eu : uss.getD i [] = uss[i] := by rw [List.getD_eq_getElem?_getD, List.getElem?_eq_getElem il]; rfl
    generalize hu : uss[i] = u at eu
    have ul1 : u.length ≤ 10 := by rw [← hu]; exact uu _ (List.getElem_mem il)
    obtain ⟨p1, p2⟩ := pb i
    have p1' := (pb (i + 1)).1
    refine ⟨⟨⟨⟨rfl, rfl, by show (0 : Int) ≤ (i : Int); omega⟩, True.intro, rfl⟩, True.intro⟩, fun q => ?_, fun q => ?_⟩
    · have q : b / 2 ^ i % 2 = 1 := q
      have en : prU z b uss l0 (i + 1) = (Tz 0 (convL (Tz 0 (prU z b uss l0 i)) (Tz 0 (u.map fun n => n % z)))).map fun n => n % z := by
        conv => lhs; unfold prU
        rw [if_pos q, eu]
      refine ⟨⟨⟨rfl, ⟨⟨True.intro, rfl, ⟨⟨rfl, rfl, True.intro⟩, z, u, rfl, hz, by omega⟩, True.intro⟩, 0, prU z b uss l0 i, u.map fun n => n % z, rfl, Int.le_refl 0, ?_, ?_, fun m hm => big (p2 m hm), fun m hm => ?_⟩, True.intro⟩, z, Tz 0 (convL (Tz 0 (prU z b uss l0 i)) (Tz 0 (u.map fun n => n % z))), rfl, hz, ?_⟩, fun p ep => ?_⟩
      · exact Int.ofNat_lt.mpr (Nat.pow_pos (by decide))
      · rw [List.length_map]; omega
      · obtain ⟨k, _, rfl⟩ := List.mem_map.mp hm
        exact big (mod_b hz hz2)
      · rw [en, List.length_map] at p1'
        omega
      · replace ep : p = prU z b uss l0 (i + 1) := by rw [en]; exact ep
        rw [ep]
        exact ⟨by omega, .fr (.int (i : Int)), .fr (.ints u), rfl⟩
    · have q : ¬ b / 2 ^ i % 2 = 1 := q
      have en : prU z b uss l0 (i + 1) = prU z b uss l0 i := by
        conv => lhs; unfold prU
        rw [if_neg q]
      exact ⟨by omega, .fr (.int (i : Int)), .fr (.ints u), by rw [en]; rfl⟩
  rintro ρ ⟨_, v, w, er⟩
  have er : ρ = [.fr (.ints g), .fr (.int z), .fr (.lst (uss.map PV.ints)), .fr (.int b), .fr (.ints (prU z b uss l0 (uss.map PV.ints).length)), v, w] := er
  rw [List.length_map] at er
  subst er
  obtain ⟨p1, p2⟩ := pb uss.length
  refine ⟨⟨⟨True.intro, ⟨rfl, ?_, fun n _ => ⟨⟨rfl, rfl, True.intro⟩, z, n, rfl, hz⟩⟩, True.intro⟩, 0, (prU z b uss l0 uss.length).map (nrF z), rfl, ?_⟩, ?_⟩
  · show (prU z b uss l0 uss.length).length ≤ 1000
    omega
  · rw [List.length_map]; omega
  · show PV.ints (trimZ (((prU z b uss l0 uss.length).map (nrF z)).map (pl 0))) = PV.ints (trimZ ((prU z b ((uss.map PV.ints).map rowI) [lastI (trimZ g)] (uss.map PV.ints).length).map (nrF z)))
    rw [eI, List.length_map, ← el, show ((prU z b uss l0 uss.length).map (nrF z)).map (pl 0) = (prU z b uss l0 uss.length).map (nrF z) from (List.map_congr_left fun n _ => rfl).trans (List.map_id _)]


noncomputable def headN (c : Int) : Int := ((c % 10 ^ 9) * (c % 10 ^ 9) + 40503) * 1103515245982451653 % (10 ^ 18 + 9)
theorem headN_nn (c : Int) : 0 ≤ headN c := by unfold headN; exact Int.emod_nonneg _ (by decide)
theorem kx_head (T : Top K mg cK cW) : Ok P w K mg base 2 "_law_head" ["_law_script"] (spFI K (GkW cW) (fun as => ∃ ns, as = [.scr ns]) fun as => match as with
    | [.scr ns] => headN (ns.getD 0 0)
    | _ => 0) := by
  refine okF T.d_head sc_head (fun as ⟨a, h⟩ => by rw [h]; rfl) (fun f cdv A outer s H E hr => ⟨_, (xss_cons (xst_setI (i := 1) sc_head.nd rfl (Or.inl rfl) (xn_mod (xci (kx_cell_at T) hr (xa_cons (xr 0) (xa_cons xn_int xa_nil))) (xn_pow xn_int xn_int)))
 (xss_one (xst_ret (xn_mod (xn_mul (xn_add (xn_mul (xn 1) (xn 1)) xn_int) xn_int) (xn_add (xn_pow xn_int xn_int) xn_int))))), fun as hp => ?_⟩)
  obtain ⟨ns, rfl⟩ := hp
  refine ⟨⟨⟨⟨rfl, True.intro, True.intro⟩, True.intro, rfl, by show (0 : Int) ≤ 0; decide⟩, by walk_at "xs", by show (0 : Int) < 10 ^ 9; decide⟩, fun n e => ?_⟩
  have e : n = ns.getD 0 0 % 10 ^ 9 := e
  have n0 : 0 ≤ n ∧ n < 10 ^ 9 := by rw [e]; exact ⟨Int.emod_nonneg _ (by decide), Int.emod_lt_of_pos _ (by decide)⟩
  refine ⟨⟨⟨⟨⟨rfl, rfl, mul_okR ⟨by show -(2 : Int) ^ 64 < n; omega, by show n < (2 : Int) ^ 64; omega⟩⟩, True.intro⟩, True.intro, mul_okR (by decide)⟩, by walk_at "xs", by show (0 : Int) < 10 ^ 18 + 9; decide⟩, ?_⟩
  show PV.int ((n * n + 40503) * 1103515245982451653 % (10 ^ 18 + 9)) = PV.int (headN (ns.getD 0 0))
  unfold headN
  rw [← e]

/-- the lists that are drawn, after some cells -/
noncomputable def liS (rows : List (List Int)) (c : Int) : List (List Int) :=
  let n := if c / 5 % 2 = 1 then -(c % 10 ^ 30) else c % 10 ^ 30
  let r1 := if ((rows.getD (rows.length - 1) []).length : Int) > 0 ∧ (c / 10 % 3 = 1 ∨ ((rows.getD (rows.length - 1) []).length : Int) = 4) ∧ (rows.length : Int) < 7 then rows ++ [[]] else rows
  if ((r1.getD (r1.length - 1) []).length : Int) < 4 then r1.set (r1.length - 1) (r1.getD (r1.length - 1) [] ++ [n]) else r1
noncomputable def liF (cs : List Int) : List (List Int) := cs.foldl liS [[]]
/-- how they are -/
structure LiOk (rows : List (List Int)) : Prop where
  ne : 0 < rows.length
  few : rows.length ≤ 7
  each : ∀ r ∈ rows, r.length ≤ 4 ∧ ∀ m ∈ r, m.natAbs < 10 ^ 30
theorem LiOk.app {rows : List (List Int)} (h : LiOk rows) (hl : rows.length < 7) : LiOk (rows ++ [[]]) :=
  ⟨by rw [List.length_append]; exact Nat.lt_of_lt_of_le h.ne (Nat.le_add_right _ _), by rw [List.length_append]; exact hl, fun r hr => by
    rcases List.mem_append.mp hr with hr | hr
    · exact h.each r hr
    · rw [List.mem_singleton.mp hr]
      exact ⟨Nat.zero_le _, fun m hm => nomatch hm⟩⟩
theorem LiOk.put {rows : List (List Int)} {n : Int} (h : LiOk rows) (hl : (rows.getD (rows.length - 1) []).length < 4) (hn : n.natAbs < 10 ^ 30) : LiOk (rows.set (rows.length - 1) (rows.getD (rows.length - 1) [] ++ [n])) := by
  refine ⟨by rw [List.length_set]; exact h.ne, by rw [List.length_set]; exact h.few, fun r hr => ?_⟩
  rcases List.mem_or_eq_of_mem_set hr with hr | rfl
  · exact h.each r hr
  · have hm : rows.getD (rows.length - 1) [] ∈ rows := by
      rw [List.getD_eq_getElem?_getD, List.getElem?_eq_getElem (by have := h.ne; omega)]
      exact List.getElem_mem _
    refine ⟨by rw [List.length_append]; exact hl, fun m hm' => ?_⟩
    rcases List.mem_append.mp hm' with h1 | h1
    · exact (h.each _ hm).2 m h1
    · rw [List.mem_singleton.mp h1]; exact hn
theorem neg1 {α : Type} {xs : List α} (h : 0 < xs.length) : ixO xs.length (-1) = xs.length - 1 ∧ -(xs.length : Int) ≤ -1 ∧ (-1 : Int) < (xs.length : Int) := by
  refine ⟨?_, by omega, by omega⟩
  unfold ixO
  rw [if_neg (by omega)]
  omega
theorem liOk_start : LiOk [[]] := ⟨by decide, by decide, fun r hr => by
  rw [List.mem_singleton.mp hr]
  exact ⟨Nat.zero_le _, fun m hm => nomatch hm⟩⟩
theorem ten30 (c : Int) : (c % 10 ^ 30).natAbs < 10 ^ 30 ∧ (-(c % 10 ^ 30)).natAbs < 10 ^ 30 := by
  have h1 := Int.emod_nonneg c (show (10 : Int) ^ 30 ≠ 0 by decide)
  have h2 := Int.emod_lt_of_pos c (show (0 : Int) < 10 ^ 30 by decide)
  have e : ((10 ^ 30 : Nat) : Int) = (10 : Int) ^ 30 := by decide
  rw [← e] at h1 h2 ⊢
  generalize (10 : Nat) ^ 30 = N at h1 h2 ⊢
  omega
theorem liS_ok {rows : List (List Int)} {c : Int} (h : LiOk rows) : LiOk (liS rows c) := by
  unfold liS
  dsimp only
  have hn : (if c / 5 % 2 = 1 then -(c % 10 ^ 30) else c % 10 ^ 30).natAbs < 10 ^ 30 := by
    split
    · exact (ten30 c).2
    · exact (ten30 c).1
  generalize (if c / 5 % 2 = 1 then -(c % 10 ^ 30) else c % 10 ^ 30) = n at hn
  have h1 : LiOk (if ((rows.getD (rows.length - 1) []).length : Int) > 0 ∧ (c / 10 % 3 = 1 ∨ ((rows.getD (rows.length - 1) []).length : Int) = 4) ∧ (rows.length : Int) < 7 then rows ++ [[]] else rows) := by
    split
    · rename_i q
      exact h.app (by omega)
    · exact h
  generalize (if ((rows.getD (rows.length - 1) []).length : Int) > 0 ∧ (c / 10 % 3 = 1 ∨ ((rows.getD (rows.length - 1) []).length : Int) = 4) ∧ (rows.length : Int) < 7 then rows ++ [[]] else rows) = r1 at h1
  split
  · exact h1.put (by omega) hn
  · exact h1
theorem liF_ok : ∀ (cs : List Int) (rows : List (List Int)), LiOk rows → LiOk (cs.foldl liS rows)
  | [], _, h => h
  | c :: r, rows, h => liF_ok r (liS rows c) (liS_ok h)
noncomputable def liC (ns : List Int) : List Int := cutI ns (some 4) (some 63)
theorem kx_lists (T : Top K mg cK cW) : Ok P w K mg base 1 "_law_lists" ["_law_script"] (spF K (GkW cW) (fun as => ∃ ns, as = [.scr ns] ∧ ns.length ≤ 1000) fun as => match as with
    | [.scr ns] => .lst ((liF (liC ns)).map PV.ints)
    | _ => .non) := by
  refine okF T.d_lists sc_lists (fun as ⟨a, h, _⟩ => by rw [h]; rfl) (fun f cdv A outer s H E hr => ⟨_, (xss_cons (xst_olN (i := 1) sc_lists.nd rfl (Or.inl rfl))
 (xss_cons (xst_forE (k := 2) (j := 3) PassesOwn.never rfl (by rfl) T.b_enumerate (newL (xl_slice (xr 0) (xo_some xn_int) (xo_some xn_int) (fun _ _ => .inr rfl))) (pg_tup rfl (pgs_cons (pg_name (i := 2) sc_lists.nd rfl (Or.inl rfl)) (pgs_cons (pg_name (i := 3) sc_lists.nd rfl (Or.inl rfl)) pgs_nil)))
 (xss_cons (xst_setI (i := 4) sc_lists.nd rfl (Or.inl rfl) (xn_mod (xn 3) (xn_pow xn_int xn_int)))
 (xss_join (xst_if (xt_eq (xn_mod (xn_div (xn 3) xn_int) xn_int) xn_int)
 (xss_one (xst_setI (i := 4) sc_lists.nd rfl (Or.inl rfl) (xn_neg (xn 4))))
 xss_nil)
 (xss_join (xst_if (L2.PW.pt (xw_and (xt_gt (xn_olLenI 1 T.b_len (xn_neg xn_int) (fun _ _ => rfl)) xn_int) (xw_and (L2.PW.pt (xw_or (xt_eq (xn_mod (xn_div (xn 3) xn_int) xn_int) xn_int) (xw_or1 (xt_eq (xn_olLenI 1 T.b_len (xn_neg xn_int) (fun _ _ => rfl)) xn_int)))) (xw_and1 (xt_lt (xn_olLen 1 T.b_len) xn_int)))))
 (xss_one (xst_olApp 1))
 xss_nil)
 (xss_one (xst_if (xt_lt (xn_olLenI 1 T.b_len (xn_neg xn_int) (fun _ _ => rfl)) xn_int)
 (xss_one (xst_olIn 1 (xn_neg xn_int) (fun _ _ => rfl) (xn 4)))
 xss_nil))))))
 (xss_freezeT 1 (xss_one (xst_ret (xv 1)))))), fun as hp => ?_⟩)
  obtain ⟨ns, rfl, hns⟩ := hp
  refine ⟨rfl, ?_⟩
  refine to_lit (ρ' := [.fr (.scr ns), .o2 [[]], .un, .un, .un]) rfl ?_
  refine ⟨⟨rfl, True.intro, True.intro⟩, fun i ρ => ∃ a b d, ρ = [.fr (.scr ns), .o2 (((liC ns).take i).foldl liS [[]]), a, b, d] ∧ LiOk (((liC ns).take i).foldl liS [[]]), ⟨.un, .un, .un, rfl, liOk_start⟩, ?_, ?_⟩
  · rintro i c ρ hc ⟨a, b, d, rfl, ok⟩
    have hc : (liC ns)[i]? = some c := hc
    have il : i < (liC ns).length := (List.getElem?_eq_some_iff.mp hc).1
    have en : ((liC ns).take (i + 1)).foldl liS [[]] = liS (((liC ns).take i).foldl liS [[]]) c := by
      rw [List.take_succ_eq_append_getElem il, List.foldl_append, (List.getElem?_eq_some_iff.mp hc).2]
      rfl
    generalize ((liC ns).take i).foldl liS [[]] = rows at ok en
    have okS := liS_ok (c := c) ok
    rw [← en] at okS
    obtain ⟨x1, x2, x3⟩ := neg1 ok.ne
    refine ⟨⟨rfl, by walk_at "xs", by show (0 : Int) < 10 ^ 30; decide⟩, fun n0 e0 => ?_⟩
    replace e0 : n0 = c % 10 ^ 30 := e0
    refine to_lit (ρ' := [.fr (.scr ns), .o2 rows, .fr (.int (i : Int)), .fr (.int c), .fr (.int n0)]) rfl ?_
    refine ⟨fun ρ => ρ = [.fr (.scr ns), .o2 rows, .fr (.int (i : Int)), .fr (.int c), .fr (.int (if c / 5 % 2 = 1 then -(c % 10 ^ 30) else c % 10 ^ 30))], ⟨⟨⟨⟨rfl, True.intro, by show (0 : Int) < 5; decide, by show (5 : Int).natAbs.log2 < 9000; decide +kernel⟩, True.intro, by show (0 : Int) < 2; decide⟩, True.intro⟩, fun q => ?_, fun q => ?_⟩, ?_⟩
    · have q : c / 5 % 2 = 1 := q
      refine ⟨rfl, fun m em => ?_⟩
      replace em : m = -n0 := em
      rw [if_pos q, ← e0, ← em]
      rfl
    · have q : ¬ c / 5 % 2 = 1 := q
      rw [if_neg q, ← e0]
    rintro ρ rfl
    generalize hn : (if c / 5 % 2 = 1 then -(c % 10 ^ 30) else c % 10 ^ 30) = n
    generalize hr1 : (if ((rows.getD (rows.length - 1) []).length : Int) > 0 ∧ (c / 10 % 3 = 1 ∨ ((rows.getD (rows.length - 1) []).length : Int) = 4) ∧ (rows.length : Int) < 7 then rows ++ [[]] else rows) = r1
    have ok1 : LiOk r1 := by
      rw [← hr1]
      split
      · rename_i q
        exact ok.app (by omega)
      · exact ok
    refine ⟨fun ρ => ρ = [.fr (.scr ns), .o2 r1, .fr (.int (i : Int)), .fr (.int c), .fr (.int n)], ⟨⟨⟨⟨rfl, True.intro, x2, x3⟩, True.intro⟩, fun _ => ⟨⟨⟨⟨⟨rfl, True.intro, by show (0 : Int) < 10; decide, by show (10 : Int).natAbs.log2 < 9000; decide +kernel⟩, True.intro, by show (0 : Int) < 3; decide⟩, True.intro⟩, fun _ => ⟨⟨rfl, True.intro, x2, x3⟩, True.intro⟩⟩, fun _ => ⟨rfl, True.intro⟩⟩⟩, fun q => ?_, fun q => ?_⟩, ?_⟩
    · have q : ((rows.getD (ixO rows.length (-1)) []).length : Int) > 0 ∧ (c / 10 % 3 = 1 ∨ ((rows.getD (ixO rows.length (-1)) []).length : Int) = 4) ∧ (rows.length : Int) < 7 := q
      rw [x1] at q
      rw [if_pos q] at hr1
      refine ⟨rfl, by show rows.length < sizeLine; rw [sizeLine_eq]; have := ok.few; omega, ?_⟩
      rw [← hr1]
      rfl
    · have q : ¬ (((rows.getD (ixO rows.length (-1)) []).length : Int) > 0 ∧ (c / 10 % 3 = 1 ∨ ((rows.getD (ixO rows.length (-1)) []).length : Int) = 4) ∧ (rows.length : Int) < 7) := q
      rw [x1] at q
      rw [if_neg q] at hr1
      rw [← hr1]
    rintro ρ rfl
    obtain ⟨y1, y2, y3⟩ := neg1 ok1.ne
    have es : liS rows c = if ((r1.getD (r1.length - 1) []).length : Int) < 4 then r1.set (r1.length - 1) (r1.getD (r1.length - 1) [] ++ [n]) else r1 := by
      rw [← hr1, ← hn]
      rfl
    refine ⟨⟨⟨rfl, True.intro, y2, y3⟩, True.intro⟩, fun q => ?_, fun q => ?_⟩
    · have q : ((r1.getD (ixO r1.length (-1)) []).length : Int) < 4 := q
      rw [y1] at q
      rw [if_pos q] at es
      refine ⟨rfl, True.intro, ⟨y2, y3⟩, rfl, ?_, .fr (.int (i : Int)), .fr (.int c), .fr (.int n), ?_, okS⟩
      · show (r1.getD (ixO r1.length (-1)) []).length < sizeLine
        rw [y1, sizeLine_eq]; omega
      · show [Sl.fr (.scr ns), .o2 (r1.set (ixO r1.length (-1)) (r1.getD (ixO r1.length (-1)) [] ++ [n])), .fr (.int (i : Int)), .fr (.int c), .fr (.int n)] = _
        rw [y1, en, es]
    · have q : ¬ ((r1.getD (ixO r1.length (-1)) []).length : Int) < 4 := q
      rw [y1] at q
      rw [if_neg q] at es
      exact ⟨.fr (.int (i : Int)), .fr (.int c), .fr (.int n), by rw [en, es], okS⟩
  · rintro ρ ⟨a, b, d, er, ok⟩
    have er : ρ = [.fr (.scr ns), .o2 (((liC ns).take (liC ns).length).foldl liS [[]]), a, b, d] := er
    rw [List.take_length] at er
    subst er
    exact ⟨rfl, rfl⟩


theorem it_row {rows : List (List Int)} {i : Int} (h0 : 0 ≤ i) (h1 : i < (rows.length : Int)) : itP (.lst (rows.map PV.ints)) i = .ints (rows.getD i.toNat []) := by
  obtain ⟨n, rfl⟩ := Int.eq_ofNat_of_zero_le h0
  have hn : n < rows.length := by omega
  show (rows.map PV.ints).getD (ixO (rows.map PV.ints).length (n : Int)) .non = _
  have e : ixO (rows.map PV.ints).length (n : Int) = n := by
    unfold ixO
    rw [if_pos (by omega)]
    rfl
  rw [e, List.getD_eq_getElem?_getD, List.getElem?_map, List.getElem?_eq_getElem hn, show ((n : Int)).toNat = n from rfl, List.getD_eq_getElem?_getD, List.getElem?_eq_getElem hn]
  rfl
theorem cut_one (x : PV) (r : List PV) : cutP (x :: r) (some 1) none = r := by
  unfold cutP
  have e1 : HT.sIx (x :: r).length 0 (some 1) = 1 := by
    show HT.sIx (r.length + 1) 0 (some ((1 : Nat) : Int)) = 1
    rw [HT.sIx_nat]
    omega
  have e2 : HT.sIx (x :: r).length (x :: r).length none = r.length + 1 := rfl
  rw [e1, e2, List.drop_succ_cons, List.drop_zero]
  exact List.take_of_length_le (by omega)
theorem maU_b {z b : Int} {uss : List (List Int)} {l0 : List Int} (hz : 0 < z) (h2 : z < ((2 ^ 200 : Nat) : Int)) (hl : l0.length ≤ 1) (hb : ∀ m ∈ l0, m.natAbs < 2 ^ 200) (hu : ∀ u ∈ uss, u.length ≤ 10) : ∀ i, (maU z b uss l0 i).length ≤ 1 + 10 * i ∧ ∀ m ∈ maU z b uss l0 i, m.natAbs < 2 ^ 200
  | 0 => ⟨hl, hb⟩
  | i + 1 => by
    obtain ⟨h3, h4⟩ := maU_b (b := b) hz h2 hl hb hu i
    unfold maU
    split
    · refine ⟨?_, fun m hm => ?_⟩
      · refine Nat.le_trans (trimZ_len _) ?_
        rw [List.length_map]
        unfold convL
        rw [List.length_map, List.length_range]
        have a2 : (uss.getD i []).length ≤ 10 := by
          rw [List.getD_eq_getElem?_getD]
          cases e : uss[i]? with
          | none => exact Nat.zero_le _
          | some u => exact hu u (List.mem_of_getElem? e)
        omega
      · have := Tz_red' hm
        rw [pl_pos hz] at this
        rw [← this]
        exact mod_b hz h2
    · exact ⟨by omega, h4⟩
theorem nr_same {z a b : Int} (hz : 0 < z) (h : z ∣ a - b) : nrF z a = nrF z b := by
  have e : a % z = b % z := by
    obtain ⟨k, hk⟩ := h
    rw [show a = b + z * k by omega, Int.add_mul_emod_self_left]
  unfold nrF
  rw [e]
theorem nr_0 {z : Int} (hz : 0 < z) : nrF z 0 = 0 := by
  unfold nrF
  rw [Int.zero_emod, if_neg (by omega)]
theorem trim_tail (x : List Int) : ∀ k, trimZ (x ++ List.replicate k 0) = trimZ x
  | 0 => by rw [List.replicate_zero, List.append_nil]
  | k + 1 => by rw [List.replicate_succ', ← List.append_assoc, trimZ_zero, trim_tail x k]
theorem two200 : (10 : Int) ^ 40 + 2 < ((2 ^ 200 : Nat) : Int) := by decide +kernel
theorem ten200 {n : Nat} (h : n ≤ 10 ^ 30) : n < 2 ^ 200 := Nat.lt_of_le_of_lt h (by decide +kernel)
set_option maxHeartbeats 4000000 in
theorem kx_law (T : Top K mg cK cW) {f : Addr} {fd : FuncData} (F : Fun K "law" "law" s_law f fd) : FnOk P w K mg base CX0 8 f fd ["_law_script"] (spLaw2 K) := by
  refine lawF2 (G := GkW cW) F sc_law (fun cdv A outer s H E hr => ⟨_, (xss_cons (xst_setI (i := 1) sc_law.nd rfl (Or.inl rfl) (xci (kx_head T) hr (xa_cons (xr 0) xa_nil)))
 (xss_cons (xst_setI (i := 2) sc_law.nd rfl (Or.inl rfl) (xn_mod (xn 1) xn_int))
 (xss_join (xst_if (xt_eq (xn_mod (xn_div (xn 1) xn_int) xn_int) xn_int)
 (xss_one (xst_setI (i := 2) sc_law.nd rfl (Or.inl rfl) (xn_add xn_int (xn_mod (xn 1) xn_int))))
 xss_nil)
 (xss_cons (xst_if (xt_not (xt_V (xcb (kx_alike T) hr (xa_cons (xcL (kx_sets T) hr (xa_cons (xn 2) xa_nil)) (xa_cons (xcL (kx_counted T) hr (xa_cons (xn 2) xa_nil)) xa_nil)))))
 (xss_one (xst_ret xb_bl))
 xss_nil)
 (xss_cons (xst_setI (i := 3) sc_law.nd rfl (Or.inl rfl) (xn_add xn_int (xn_mod (xci (kx_cell_at T) hr (xa_cons (xr 0) (xa_cons xn_int xa_nil))) (xn_pow xn_int xn_int))))
 (xss_join (xst_if (xt_eq (xn_mod (xci (kx_cell_at T) hr (xa_cons (xr 0) (xa_cons xn_int xa_nil))) xn_int) xn_int)
 (xss_one (xst_setI (i := 3) sc_law.nd rfl (Or.inl rfl) (xn_add xn_int (xn_mod (xci (kx_cell_at T) hr (xa_cons (xr 0) (xa_cons xn_int xa_nil))) xn_int))))
 xss_nil)
 (xss_cons (xst_setP (i := 4) sc_law.nd rfl (Or.inl rfl) (xc (kx_lists T) hr (xa_cons (xr 0) xa_nil)))
 (xss_cons (xst_setL (i := 5) sc_law.nd rfl (Or.inl rfl) (newL (xl_cat (xl_of (xp_item (xv 4) xn_int (fun _ _ => rfl))) (newL (xl_lst (xa_cons (xn_add xn_int (xn_mod (xci (kx_cell_at T) hr (xa_cons (xr 0) (xa_cons xn_int xa_nil))) (xn_pow xn_int xn_int))) xa_nil))))))
 (xss_cons (xst_setP (i := 6) sc_law.nd rfl (Or.inl rfl) (newP (xp_slice (xp_of (xv 4)) (xo_some xn_int) xo_none)))
 (xss_cons (xst_setI (i := 7) sc_law.nd rfl (Or.inl rfl) (xn_mod (xn_div (xn 1) xn_int) (xn_shl xn_int (xn_lenP T.b_len (xv 6)))))
 (xss_cons (xst_setL (i := 8) sc_law.nd rfl (Or.inl rfl) (newL (xl_lst (xa_cons (xn_item 5 (xn_neg xn_int) (fun _ _ => rfl)) xa_nil))))
 (xss_cons (xst_forR (k := 9) PassesOwn.never rfl (by rfl) T.b_range (xn_lenP T.b_len (xv 6)) sc_law.nd rfl (Or.inl rfl)
 (xss_one (xst_if (xt_eq (xn_mod (xn_div (xn 7) (xn_shl xn_int (xn 9))) xn_int) xn_int)
 (xss_one (xst_setL (i := 8) sc_law.nd rfl (Or.inl rfl) (newL (xcl (kx_law_times T) hr (xa_cons (xl 8) (xa_cons (xl_of (xp_item (xv 6) (xn 9) (fun _ _ => rfl))) (xa_cons (xn 3) xa_nil)))))))
 xss_nil)))
 (xss_cons (xst_own (i := 10) sc_law.nd rfl (Or.inl rfl) (xl_lst xa_nil))
 (xss_cons (xst_forL (k := 11) PassesOwn.never rfl (xl 8) sc_law.nd rfl (Or.inl rfl)
 (xss_cons (xst_setI (i := 11) sc_law.nd rfl (Or.inl rfl) (xn_mod (xn 11) (xn 3)))
 (xss_join (xst_if (xt_gt (xn_mul xn_int (xn 11)) (xn 3))
 (xss_one (xst_setI (i := 11) sc_law.nd rfl (Or.inl rfl) (xn_sub (xn 11) (xn 3))))
 xss_nil)
 (xss_one (xst_append 10 (xn 11))))))
 (xss_freeze 10 (xss_cons (xst_lcVPf (i := 12) sc_law.nd rfl rfl (N' := ["_law_row"]) (cap := []) (lc_ok rfl rfl rfl rfl True.intro True.intro rfl) rfl (xp_of (xv 6)) (fun _ _ _ => (pg_n 0)) (fun _ _ _ => (newL (xl_list T.b_list (xl 0) (fun _ => .inl rfl)))) rfl)
 (xss_cons (xst_setL (i := 13) sc_law.nd rfl (Or.inl rfl) (xcL (kx_candidate T) hr (xa_cons (newL (xl_cat (xl 5) (newL (xl_rep (xl_lst (xa_cons xn_int xa_nil)) (xn_mod (xn_div (xn 1) (xn_pow xn_int xn_int)) xn_int) (fun _ => rfl))))) (xa_cons (xn 3) (xa_cons (xv 12) (xa_cons (xn 7) xa_nil))))))
 (xss_cons (xst_if (xt_ne (xn_lenP T.b_len (xv 12)) (xn_lenP T.b_len (xv 6)))
 (xss_one (xst_ret xb_bl))
 xss_nil)
 (xss_cons (xst_forR (k := 9) PassesOwn.never rfl (by rfl) T.b_range (xn_lenP T.b_len (xv 6)) sc_law.nd rfl (Or.inl rfl)
 (xss_one (xst_if (xt_not (xt_V (xcb (kx_alike T) hr (xa_cons (xl_of (xp_item (xv 12) (xn 9) (fun _ _ => rfl))) (xa_cons (xl_of (xp_item (xv 6) (xn 9) (fun _ _ => rfl))) xa_nil)))))
 (xss_one (xst_ret xb_bl))
 xss_nil)))
 (xss_one (xst_ret (xcb (kx_alike T) hr (xa_cons (xl 13) (xa_cons (newL (xcl (kx_trim T) hr (xa_cons (xl 10) (xa_cons xn_int xa_nil)))) xa_nil)))))))))))))))))))))))), fun ns h63 hbits => ?_⟩)
  refine ⟨⟨⟨rfl, True.intro⟩, ns, rfl⟩, fun h eh => ?_⟩
  have hh : 0 ≤ h := by rw [show h = headN (ns.getD 0 0) from eh]; exact headN_nn _
  clear eh
  refine ⟨⟨rfl, True.intro, by show (0 : Int) < 10; decide⟩, fun c0 ec => ?_⟩
  have hc0 : 0 ≤ c0 ∧ c0 < 10 := by rw [show c0 = h % 10 from ec]; exact ⟨Int.emod_nonneg _ (by decide), Int.emod_lt_of_pos _ (by decide)⟩
  clear ec
  refine to_lit (ρ' := [.fr (.scr ns), .fr (.int h), .fr (.int c0), .un, .un, .un, .un, .un, .un, .un, .un, .un, .un, .un]) rfl ?_
  refine ⟨fun ρ => ∃ ct, ρ = [.fr (.scr ns), .fr (.int h), .fr (.int ct), .un, .un, .un, .un, .un, .un, .un, .un, .un, .un, .un] ∧ 0 ≤ ct ∧ ct ≤ 12, ⟨⟨⟨⟨rfl, True.intro, by show (0 : Int) < 10; decide, by show (10 : Int).natAbs.log2 < 9000; decide +kernel⟩, True.intro, by show (0 : Int) < 9; decide⟩, True.intro⟩, fun _ => ?_, fun _ => ⟨c0, rfl, hc0.1, by omega⟩⟩, ?_⟩
  · refine ⟨⟨True.intro, rfl, True.intro, by show (0 : Int) < 3; decide⟩, fun m em => ⟨m, rfl, ?_⟩⟩
    rw [show m = 10 + h % 3 from em]
    have h1 := Int.emod_nonneg h (show (3 : Int) ≠ 0 by decide)
    have h2 := Int.emod_lt_of_pos h (show (0 : Int) < 3 by decide)
    omega
  clear hc0
  rintro ρ ⟨ct, rfl, t0, t12⟩
  have sl : (sortN pcN (fewF ct)).length ≤ 100000 := by
    rw [(sortN_perm pcN (fewF ct)).length_eq]
    exact Nat.le_trans (fewF_len t12) (by decide)
  refine ⟨⟨⟨⟨⟨rfl, True.intro⟩, ct, rfl, t0, t12⟩, ⟨⟨rfl, True.intro⟩, ct, rfl, t0, t12⟩, True.intro⟩, sortN pcN (fewF ct), sortN pcN (fewF ct), rfl, sl⟩, fun q => ?_, fun _ => ?_⟩
  · have q : ¬ decide (sortN pcN (fewF ct) = sortN pcN (fewF ct)) = true := q
    exact absurd (decide_eq_true rfl) q
  refine ⟨⟨True.intro, ⟨⟨rfl, True.intro, True.intro⟩, True.intro, rfl, by show (0 : Int) ≤ 1; decide⟩, by walk_at "xs", by show (0 : Int) < 10 ^ 40; decide⟩, fun z0 ez => ?_⟩
  have hz0 : 2 ≤ z0 ∧ z0 < 10 ^ 40 + 2 := by
    rw [show z0 = 2 + ns.getD 1 0 % 10 ^ 40 from ez]
    have h1 := Int.emod_nonneg (ns.getD 1 0) (show (10 : Int) ^ 40 ≠ 0 by decide)
    have h2 := Int.emod_lt_of_pos (ns.getD 1 0) (show (0 : Int) < 10 ^ 40 by decide)
    omega
  clear ez
  refine to_lit (ρ' := [.fr (.scr ns), .fr (.int h), .fr (.int ct), .fr (.int z0), .un, .un, .un, .un, .un, .un, .un, .un, .un, .un]) rfl ?_
  refine ⟨fun ρ => ∃ z, ρ = [.fr (.scr ns), .fr (.int h), .fr (.int ct), .fr (.int z), .un, .un, .un, .un, .un, .un, .un, .un, .un, .un] ∧ 2 ≤ z ∧ z < 10 ^ 40 + 2, ⟨⟨⟨⟨⟨rfl, True.intro, True.intro⟩, True.intro, rfl, by show (0 : Int) ≤ 2; decide⟩, True.intro, by show (0 : Int) < 3; decide⟩, True.intro⟩, fun _ => ?_, fun _ => ⟨z0, rfl, hz0⟩⟩, ?_⟩
  · refine ⟨⟨True.intro, ⟨⟨rfl, True.intro, True.intro⟩, True.intro, rfl, by show (0 : Int) ≤ 1; decide⟩, True.intro, by show (0 : Int) < 30; decide⟩, fun m em => ⟨m, rfl, ?_⟩⟩
    rw [show m = 2 + ns.getD 1 0 % 30 from em]
    have h1 := Int.emod_nonneg (ns.getD 1 0) (show (30 : Int) ≠ 0 by decide)
    have h2 := Int.emod_lt_of_pos (ns.getD 1 0) (show (0 : Int) < 30 by decide)
    have h3 : (1000 : Int) < 10 ^ 40 := by decide
    omega
  clear hz0
  rintro ρ ⟨z, rfl, hz2, hz40⟩
  have hz : 0 < z := by omega
  have hzb : z < ((2 ^ 200 : Nat) : Int) := Int.lt_trans hz40 two200
  refine ⟨⟨⟨rfl, True.intro⟩, ns, rfl, by omega⟩, fun p ep => ?_⟩
  replace ep : p = .lst ((liF (liC ns)).map PV.ints) := ep
  subst ep
  have ok : LiOk (liF (liC ns)) := liF_ok _ _ liOk_start
  generalize liF (liC ns) = rows at ok ⊢
  obtain ⟨r0, uss, rfl⟩ : ∃ r0 uss, rows = r0 :: uss := by
    cases rows with
    | nil => exact absurd ok.ne (by decide)
    | cons a b => exact ⟨a, b, rfl⟩
  have ul : uss.length ≤ 6 := by have := ok.few; rw [List.length_cons] at this; omega
  have uu : ∀ u ∈ uss, u.length ≤ 10 := fun u hu => Nat.le_trans (ok.each u (List.mem_cons_of_mem _ hu)).1 (by decide)
  have ub : ∀ u ∈ uss, ∀ m ∈ u, m.natAbs < 2 ^ 200 := fun u hu m hm => ten200 (Nat.le_of_lt ((ok.each u (List.mem_cons_of_mem _ hu)).2 m hm))
  obtain ⟨r4, rb⟩ := ok.each r0 List.mem_cons_self
  clear ok
  refine to_lit (ρ' := [.fr (.scr ns), .fr (.int h), .fr (.int ct), .fr (.int z), .fr (.lst ((r0 :: uss).map PV.ints)), .un, .un, .un, .un, .un, .un, .un, .un, .un]) rfl ?_
  have i0 : itP (.lst ((r0 :: uss).map PV.ints)) 0 = .ints r0 := it_row (by decide) (by rw [List.length_cons]; omega)
  refine ⟨⟨⟨⟨rfl, True.intro, ?_⟩, ?_⟩, ⟨⟨⟨True.intro, ⟨⟨rfl, True.intro, True.intro⟩, True.intro, rfl, by show (0 : Int) ≤ 3; decide⟩, by walk_at "xs", by show (0 : Int) < 10 ^ 30; decide⟩, True.intro⟩, True.intro⟩, ?_⟩, fun g eg => ?_⟩
  · show -(((r0 :: uss).map PV.ints).length : Int) ≤ 0 ∧ (0 : Int) < (((r0 :: uss).map PV.ints).length : Int)
    rw [List.length_map, List.length_cons]; omega
  · show itP (.lst ((r0 :: uss).map PV.ints)) 0 = .ints (pvL (itP (.lst ((r0 :: uss).map PV.ints)) 0))
    rw [i0]
    rfl
  · show (pvL (itP (.lst ((r0 :: uss).map PV.ints)) 0)).length + 1 ≤ sizeLine
    rw [i0, sizeLine_eq]
    show r0.length + 1 ≤ _
    omega
  replace eg : g = r0 ++ [1 + ns.getD 3 0 % 10 ^ 30] := by
    rw [eg]
    show pvL (itP (.lst ((r0 :: uss).map PV.ints)) 0) ++ [1 + ns.getD 3 0 % 10 ^ 30] = _
    rw [i0]
    rfl
  have hld : 0 < 1 + ns.getD 3 0 % 10 ^ 30 ∧ (1 + ns.getD 3 0 % 10 ^ 30).natAbs < 2 ^ 200 := by
    have h1 := Int.emod_nonneg (ns.getD 3 0) (show (10 : Int) ^ 30 ≠ 0 by decide)
    have h2 := Int.emod_lt_of_pos (ns.getD 3 0) (show (0 : Int) < 10 ^ 30 by decide)
    refine ⟨by omega, ten200 ?_⟩
    have e : ((10 ^ 30 : Nat) : Int) = (10 : Int) ^ 30 := by decide
    rw [← e] at h1 h2 ⊢
    generalize (10 : Nat) ^ 30 = N at h1 h2 ⊢
    omega
  generalize 1 + ns.getD 3 0 % 10 ^ 30 = ld at eg hld
  have gl : g.length ≤ 5 ∧ 0 < g.length := by rw [eg, List.length_append]; show r0.length + 1 ≤ 5 ∧ 0 < r0.length + 1; omega
  have gt : ∀ k, trimZ (g ++ List.replicate k 0) = g := fun k => by
    rw [trim_tail, eg, trimZ_ne _ (by omega)]
  have gla : lastI g = ld := by
    unfold lastI
    rw [eg, List.length_append]
    show (r0 ++ [ld]).getD (r0.length + 1 - 1) 0 = ld
    rw [Nat.add_sub_cancel, List.getD_eq_getElem?_getD, List.getElem?_append_right (Nat.le_refl _), Nat.sub_self]
    rfl
  have gb : ∀ m ∈ g, m.natAbs < 2 ^ 200 := fun m hm => by
    rw [eg] at hm
    rcases List.mem_append.mp hm with hm | hm
    · exact ten200 (Nat.le_of_lt (rb m hm))
    · rw [List.mem_singleton.mp hm]; exact hld.2
  refine to_lit (ρ' := [.fr (.scr ns), .fr (.int h), .fr (.int ct), .fr (.int z), .fr (.lst ((r0 :: uss).map PV.ints)), .fr (.ints g), .un, .un, .un, .un, .un, .un, .un, .un]) rfl ?_
  refine ⟨⟨⟨rfl, rfl⟩, True.intro, True.intro⟩, fun p ep => ?_⟩
  replace ep : p = .lst (uss.map PV.ints) := by
    rw [ep]
    show PV.lst (cutP (.ints r0 :: uss.map PV.ints) (some 1) none) = _
    rw [cut_one]
  subst ep
  refine to_lit (ρ' := [.fr (.scr ns), .fr (.int h), .fr (.int ct), .fr (.int z), .fr (.lst ((r0 :: uss).map PV.ints)), .fr (.ints g), .fr (.lst (uss.map PV.ints)), .un, .un, .un, .un, .un, .un, .un]) rfl ?_
  have b1 : (Builtin.Int.intBits 1 : Int) = 1 := by decide
  have p6 : ∀ k : Nat, k ≤ 6 → (2 : Int) ^ k = ((2 ^ k : Nat) : Int) ∧ 0 < 2 ^ k ∧ 2 ^ k ≤ 64 := fun k hk => ⟨by rw [Int.natCast_pow]; rfl, Nat.pow_pos (by decide), Nat.le_trans (Nat.pow_le_pow_right (by decide) hk) (by decide)⟩
  have lu : (((uss.map PV.ints).length : Nat) : Int).toNat = uss.length := by rw [List.length_map]; rfl
  refine ⟨⟨⟨rfl, True.intro, by show (0 : Int) < 100; decide, by show (100 : Int).natAbs.log2 < 9000; decide +kernel⟩, ⟨True.intro, ⟨rfl, True.intro⟩, ?_⟩, ?_⟩, fun bt ebt => ?_⟩
  · show 0 ≤ (((uss.map PV.ints).length : Nat) : Int) ∧ (Builtin.Int.intBits 1 : Int) + (((uss.map PV.ints).length : Nat) : Int) ≤ 2 ^ 27
    rw [List.length_map, b1]; omega
  · show 0 < 1 * (2 : Int) ^ (((uss.map PV.ints).length : Nat) : Int).toNat
    rw [lu]
    have := p6 uss.length ul
    rw [this.1]; omega
  clear ebt
  refine to_lit (ρ' := [.fr (.scr ns), .fr (.int h), .fr (.int ct), .fr (.int z), .fr (.lst ((r0 :: uss).map PV.ints)), .fr (.ints g), .fr (.lst (uss.map PV.ints)), .fr (.int bt), .un, .un, .un, .un, .un, .un]) rfl ?_
  refine ⟨⟨⟨⟨.inl rfl, True.intro, by show -(g.length : Int) ≤ -1; omega, by show (-1 : Int) < (g.length : Int); omega⟩, True.intro⟩, True.intro⟩, fun l0 el => ?_⟩
  replace el : l0 = [ld] := by
    rw [el]
    show [g.getD (ixO g.length (-1)) 0] = _
    rw [last_ix _ gl.2, gla]
  have lb : l0.length ≤ 1 ∧ ∀ m ∈ l0, m.natAbs < 2 ^ 200 := by
    rw [el]
    exact ⟨Nat.le_refl _, fun m hm => by rw [List.mem_singleton.mp hm]; exact hld.2⟩
  have mb := maU_b (b := bt) hz hzb lb.1 lb.2 uu
  have big : ∀ {k : Nat}, k < 2 ^ 200 → k < 2 ^ 9000 := fun h => Nat.lt_of_lt_of_le h (Nat.pow_le_pow_right (by decide) (by decide))
  refine to_lit (ρ' := [.fr (.scr ns), .fr (.int h), .fr (.int ct), .fr (.int z), .fr (.lst ((r0 :: uss).map PV.ints)), .fr (.ints g), .fr (.lst (uss.map PV.ints)), .fr (.int bt), .fr (.ints l0), .un, .un, .un, .un, .un]) rfl ?_
  refine ⟨⟨rfl, True.intro⟩, ⟨?_, ?_⟩, fun i ρ => ∃ v, ρ = [.fr (.scr ns), .fr (.int h), .fr (.int ct), .fr (.int z), .fr (.lst ((r0 :: uss).map PV.ints)), .fr (.ints g), .fr (.lst (uss.map PV.ints)), .fr (.int bt), .fr (.ints (maU z bt uss l0 i)), v, .un, .un, .un, .un], ⟨.un, rfl⟩, ?_, ?_⟩
  · show -(2 : Int) ^ 62 ≤ (((uss.map PV.ints).length : Nat) : Int)
    omega
  · show (((uss.map PV.ints).length : Nat) : Int) < 2 ^ 62
    rw [List.length_map]; omega
  · rintro i ρ hi ⟨v, rfl⟩
    have hi : i < (((uss.map PV.ints).length : Nat) : Int).toNat := hi
    rw [lu] at hi
    obtain ⟨q1, q2, q3⟩ := p6 i (by omega)
    have iu : itP (.lst (uss.map PV.ints)) (i : Int) = .ints (uss.getD i []) := it_row (by omega) (by omega)
    have eu : uss.getD i [] = uss[i] := by rw [List.getD_eq_getElem?_getD, List.getElem?_eq_getElem hi]; rfl
    have mu := List.getElem_mem hi
    rw [← eu] at mu
    obtain ⟨m1, m2⟩ := mb i
    refine ⟨⟨⟨⟨rfl, ⟨True.intro, rfl, by show (0 : Int) ≤ (i : Int) ∧ (Builtin.Int.intBits 1 : Int) + (i : Int) ≤ 2 ^ 27; rw [b1]; omega⟩, ?_, ?_⟩, True.intro, by show (0 : Int) < 2; decide⟩, True.intro⟩, fun q => ?_, fun q => ?_⟩
    · show (0 : Int) < 1 * 2 ^ i
      rw [q1]; omega
    · show (1 * (2 : Int) ^ i).natAbs.log2 < 9000
      rw [q1, Int.one_mul, Int.natAbs_natCast]
      exact Nat.lt_of_le_of_lt (Nat.log2_le_self _) (by omega)
    · have q : bt / (1 * 2 ^ i) % 2 = 1 := q
      rw [Int.one_mul] at q
      have en : maU z bt uss l0 (i + 1) = Tz z (convL (maU z bt uss l0 i) (uss.getD i [])) := by
        conv => lhs; unfold maU
        rw [if_pos q]
      refine ⟨⟨⟨rfl, ⟨⟨rfl, rfl, ?_⟩, ?_⟩, rfl, True.intro⟩, maU z bt uss l0 i, uss.getD i [], z, ?_, by omega, ?_, fun m hm => big (m2 m hm), fun m hm => big (ub _ mu m hm)⟩, fun p ep => ?_⟩
      · show -((uss.map PV.ints).length : Int) ≤ (i : Int) ∧ (i : Int) < ((uss.map PV.ints).length : Int)
        rw [List.length_map]; omega
      · show itP (.lst (uss.map PV.ints)) (i : Int) = .ints (pvL (itP (.lst (uss.map PV.ints)) (i : Int)))
        rw [iu]
        rfl
      · show [PV.ints (maU z bt uss l0 i), .ints (pvL (itP (.lst (uss.map PV.ints)) (i : Int))), .int z] = _
        rw [iu]
        rfl
      · have := uu _ mu
        omega
      · replace ep : p = maU z bt uss l0 (i + 1) := by
          rw [en, ep]
          show Tz z (convL (maU z bt uss l0 i) (pvL (itP (.lst (uss.map PV.ints)) (i : Int)))) = _
          rw [iu]
          rfl
        rw [ep]
        exact ⟨.fr (.int (i : Int)), rfl⟩
    · have q : ¬ bt / (1 * 2 ^ i) % 2 = 1 := q
      rw [Int.one_mul] at q
      have en : maU z bt uss l0 (i + 1) = maU z bt uss l0 i := by
        conv => lhs; unfold maU
        rw [if_neg q]
      exact ⟨.fr (.int (i : Int)), by rw [en]; rfl⟩
  rintro ρ ⟨v9, er⟩
  have er : ρ = [.fr (.scr ns), .fr (.int h), .fr (.int ct), .fr (.int z), .fr (.lst ((r0 :: uss).map PV.ints)), .fr (.ints g), .fr (.lst (uss.map PV.ints)), .fr (.int bt), .fr (.ints (maU z bt uss l0 (((uss.map PV.ints).length : Nat) : Int).toNat)), v9, .un, .un, .un, .un] := er
  rw [lu] at er
  subst er
  have key : trimZ ((prU z bt uss l0 uss.length).map (nrF z)) = trimZ ((maU z bt uss l0 uss.length).map (nrF z)) := trim_ext fun n => by
    rw [map_get (nr_0 hz), map_get (nr_0 hz)]
    exact nr_same hz (pr_ma hz uss.length n)
  obtain ⟨ml, mbb⟩ := mb uss.length
  generalize maU z bt uss l0 uss.length = made at key ml mbb
  refine ⟨⟨True.intro, True.intro⟩, fun d0 ed => ?_⟩
  replace ed : d0 = [] := ed
  subst ed
  refine to_lit (ρ' := [.fr (.scr ns), .fr (.int h), .fr (.int ct), .fr (.int z), .fr (.lst ((r0 :: uss).map PV.ints)), .fr (.ints g), .fr (.lst (uss.map PV.ints)), .fr (.int bt), .fr (.ints made), v9, .ow (.ints []), .un, .un, .un]) rfl ?_
  refine ⟨rfl, fun i ρ => ∃ v, ρ = [.fr (.scr ns), .fr (.int h), .fr (.int ct), .fr (.int z), .fr (.lst ((r0 :: uss).map PV.ints)), .fr (.ints g), .fr (.lst (uss.map PV.ints)), .fr (.int bt), .fr (.ints made), v9, .ow (.ints ((made.take i).map (nrF z))), v, .un, .un], ⟨.un, rfl⟩, ?_, ?_⟩
  · rintro i n ρ hn ⟨v, rfl⟩
    have hn : made[i]? = some n := hn
    have il : i < made.length := (List.getElem?_eq_some_iff.mp hn).1
    have en : (made.take (i + 1)).map (nrF z) = (made.take i).map (nrF z) ++ [nrF z n] := by
      rw [List.take_succ_eq_append_getElem il, List.map_append, (List.getElem?_eq_some_iff.mp hn).2]
      rfl
    refine ⟨⟨rfl, rfl, hz⟩, fun m em => ?_⟩
    replace em : m = n % z := em
    refine to_lit (ρ' := [.fr (.scr ns), .fr (.int h), .fr (.int ct), .fr (.int z), .fr (.lst ((r0 :: uss).map PV.ints)), .fr (.ints g), .fr (.lst (uss.map PV.ints)), .fr (.int bt), .fr (.ints made), v9, .ow (.ints ((made.take i).map (nrF z))), .fr (.int m), .un, .un]) rfl ?_
    refine ⟨fun ρ => ρ = [.fr (.scr ns), .fr (.int h), .fr (.int ct), .fr (.int z), .fr (.lst ((r0 :: uss).map PV.ints)), .fr (.ints g), .fr (.lst (uss.map PV.ints)), .fr (.int bt), .fr (.ints made), v9, .ow (.ints ((made.take i).map (nrF z))), .fr (.int (nrF z n)), .un, .un], ⟨⟨⟨True.intro, rfl, mul_okL (by decide)⟩, rfl⟩, fun q => ?_, fun q => ?_⟩, ?_⟩
    · have q : 2 * m > z := q
      refine ⟨⟨rfl, rfl⟩, fun k ek => ?_⟩
      replace ek : k = m - z := ek
      have e : nrF z n = k := by
        unfold nrF
        rw [em] at q ek
        rw [if_pos q, ek]
      rw [e]
      rfl
    · have q : ¬ 2 * m > z := q
      have e : nrF z n = m := by
        unfold nrF
        rw [em] at q
        rw [if_neg q, em]
      rw [e]
    rintro ρ rfl
    refine ⟨rfl, rfl, ?_, .fr (.int (nrF z n)), ?_⟩
    · show ((made.take i).map (nrF z)).length < sizeLine
      rw [List.length_map, List.length_take, sizeLine_eq]
      omega
    · rw [en]
      rfl
  rintro ρ ⟨v11, er⟩
  have er : ρ = [.fr (.scr ns), .fr (.int h), .fr (.int ct), .fr (.int z), .fr (.lst ((r0 :: uss).map PV.ints)), .fr (.ints g), .fr (.lst (uss.map PV.ints)), .fr (.int bt), .fr (.ints made), v9, .ow (.ints ((made.take made.length).map (nrF z))), v11, .un, .un] := er
  rw [List.take_length] at er
  subst er
  refine ⟨⟨⟨rfl, rfl⟩, ?_, fun q hq => ?_⟩, fun hd eh => ?_⟩
  · show (uss.map PV.ints).length ≤ 1000
    rw [List.length_map]; omega
  · have hq : q ∈ uss.map PV.ints := hq
    obtain ⟨u, _, rfl⟩ := List.mem_map.mp hq
    rfl
  replace eh : hd = uss.map PV.ints := by
    rw [eh]
    show (uss.map PV.ints).map _ = _
    rw [List.map_map]
    exact List.map_congr_left fun u _ => rfl
  subst eh
  refine to_lit (ρ' := [.fr (.scr ns), .fr (.int h), .fr (.int ct), .fr (.int z), .fr (.lst ((r0 :: uss).map PV.ints)), .fr (.ints g), .fr (.lst (uss.map PV.ints)), .fr (.int bt), .fr (.ints made), v9, .fr (.ints (made.map (nrF z))), v11, .fr (.lst (uss.map PV.ints)), .un]) rfl ?_
  have k1 := Int.emod_nonneg (h / 10 ^ 9) (show (3 : Int) ≠ 0 by decide)
  have k2 := Int.emod_lt_of_pos (h / 10 ^ 9) (show (0 : Int) < 3 by decide)
  have lr : (List.replicate (h / 10 ^ 9 % 3).toNat (0 : Int)).length ≤ 2 := by rw [List.length_replicate]; omega
  have gt' := gt (h / 10 ^ 9 % 3).toNat
  have gb' : ∀ m ∈ g ++ List.replicate (h / 10 ^ 9 % 3).toNat 0, m.natAbs < 2 ^ 200 := fun m hm => by
    rcases List.mem_append.mp hm with hm | hm
    · exact gb m hm
    · rw [(List.mem_replicate.mp hm).2]; exact Nat.pow_pos (by decide)
  refine ⟨⟨⟨⟨rfl, ⟨⟨⟨True.intro, True.intro⟩, True.intro⟩, ⟨⟨rfl, by walk_at "xs", by show (0 : Int) < 10 ^ 9; decide, by show ((10 : Int) ^ 9).natAbs.log2 < 9000; decide +kernel⟩, True.intro, by show (0 : Int) < 3; decide⟩, ?_, ?_⟩, ?_⟩, rfl, rfl, rfl, True.intro⟩, g ++ List.replicate (h / 10 ^ 9 % 3).toNat 0, z, uss, bt, rfl, hz, hzb, ?_, ?_, gb', by omega, uu⟩, fun fd' ef => ?_⟩
  · show -(2 : Int) ^ 63 ≤ h / 10 ^ 9 % 3
    omega
  · show (h / 10 ^ 9 % 3).toNat ≤ 1000
    omega
  · show g.length + (List.replicate (h / 10 ^ 9 % 3).toNat (0 : Int)).length ≤ sizeLine
    rw [sizeLine_eq]; omega
  · rw [gt']
    exact List.length_pos_iff.mp gl.2
  · rw [List.length_append]; omega
  have eI : (uss.map PV.ints).map rowI = uss := by
    rw [List.map_map]
    exact (List.map_congr_left fun u _ => rfl).trans (List.map_id _)
  replace ef : fd' = trimZ (made.map (nrF z)) := by
    rw [← key, ef]
    show trimZ ((prU z bt ((uss.map PV.ints).map rowI) [lastI (trimZ (g ++ List.replicate (h / 10 ^ 9 % 3).toNat 0))] (uss.map PV.ints).length).map (nrF z)) = _
    rw [eI, gt', gla, List.length_map, ← el]
  subst ef
  clear gb' gt' lr
  refine to_lit (ρ' := [.fr (.scr ns), .fr (.int h), .fr (.int ct), .fr (.int z), .fr (.lst ((r0 :: uss).map PV.ints)), .fr (.ints g), .fr (.lst (uss.map PV.ints)), .fr (.int bt), .fr (.ints made), v9, .fr (.ints (made.map (nrF z))), v11, .fr (.lst (uss.map PV.ints)), .fr (.ints (trimZ (made.map (nrF z))))]) rfl ?_
  refine ⟨⟨⟨rfl, True.intro⟩, rfl, True.intro⟩, fun q => ?_, fun _ => ?_⟩
  · have q : ¬ (((uss.map PV.ints).length : Nat) : Int) = (((uss.map PV.ints).length : Nat) : Int) := q
    exact absurd rfl q
  refine ⟨⟨rfl, True.intro⟩, ⟨?_, ?_⟩, fun i ρ => ∃ v, ρ = [.fr (.scr ns), .fr (.int h), .fr (.int ct), .fr (.int z), .fr (.lst ((r0 :: uss).map PV.ints)), .fr (.ints g), .fr (.lst (uss.map PV.ints)), .fr (.int bt), .fr (.ints made), v, .fr (.ints (made.map (nrF z))), v11, .fr (.lst (uss.map PV.ints)), .fr (.ints (trimZ (made.map (nrF z))))], ⟨v9, rfl⟩, ?_, ?_⟩
  · show -(2 : Int) ^ 62 ≤ (((uss.map PV.ints).length : Nat) : Int)
    omega
  · show (((uss.map PV.ints).length : Nat) : Int) < 2 ^ 62
    rw [List.length_map]; omega
  · rintro i ρ hi ⟨v, rfl⟩
    have hi : i < (((uss.map PV.ints).length : Nat) : Int).toNat := hi
    rw [lu] at hi
    have iu : itP (.lst (uss.map PV.ints)) (i : Int) = .ints (uss.getD i []) := it_row (by omega) (by omega)
    have eu : uss.getD i [] = uss[i] := by rw [List.getD_eq_getElem?_getD, List.getElem?_eq_getElem hi]; rfl
    have mu := List.getElem_mem hi
    rw [← eu] at mu
    have hl : -((uss.map PV.ints).length : Int) ≤ (i : Int) ∧ (i : Int) < ((uss.map PV.ints).length : Int) := by rw [List.length_map]; omega
    have ie : itP (.lst (uss.map PV.ints)) (i : Int) = .ints (pvL (itP (.lst (uss.map PV.ints)) (i : Int))) := by rw [iu]; rfl
    have ea : [PV.ints (pvL (itP (.lst (uss.map PV.ints)) (i : Int))), PV.ints (pvL (itP (.lst (uss.map PV.ints)) (i : Int)))] = [PV.ints (uss.getD i []), PV.ints (uss.getD i [])] := by rw [iu]; rfl
    refine ⟨⟨⟨⟨⟨rfl, rfl, hl⟩, ie⟩, ⟨⟨rfl, rfl, hl⟩, ie⟩, True.intro⟩, uss.getD i [], uss.getD i [], ea, Nat.le_trans (uu _ mu) (by decide)⟩, fun q => ?_, fun _ => ⟨.fr (.int (i : Int)), rfl⟩⟩
    have q : ¬ decide (pvL (itP (.lst (uss.map PV.ints)) (i : Int)) = pvL (itP (.lst (uss.map PV.ints)) (i : Int))) = true := q
    exact absurd (decide_eq_true rfl) q
  rintro ρ ⟨v, rfl⟩
  have e0 : trimZ ((made.map (nrF z)).map (pl 0)) = trimZ (made.map (nrF z)) := by
    rw [show (made.map (nrF z)).map (pl 0) = made.map (nrF z) from (List.map_congr_left fun n _ => rfl).trans (List.map_id _)]
  refine ⟨⟨⟨rfl, ⟨⟨rfl, True.intro, True.intro⟩, made.map (nrF z), 0, rfl, Int.le_refl 0, ?_⟩, True.intro⟩, trimZ (made.map (nrF z)), trimZ ((made.map (nrF z)).map (pl 0)), rfl, ?_⟩, ?_⟩
  · rw [List.length_map]; omega
  · refine Nat.le_trans (trimZ_len _) ?_
    rw [List.length_map, List.length_map]; omega
  · show PV.bl (decide (decide (trimZ (made.map (nrF z)) = trimZ ((made.map (nrF z)).map (pl 0))) = true)) = PV.bl true
    rw [e0, decide_eq_true (p := trimZ (made.map (nrF z)) = trimZ (made.map (nrF z))) rfl]
    rfl


end
end K66
theorem PySem.Challenge.cw_factorforge_k66_sets_and_candidates_holds : PySem.Challenge.rw_factorforge_k66_sets_and_candidates.Holds :=
  K66.pre fun T => K66.kx_law T
