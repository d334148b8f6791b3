import PyProof.Rows.All
import Wide.All
import KE.KNestM
import KE.KUnpack
import KE.KEqDeep
import KE.KPassesOwn
import KE.RegKIsAll
import KE.RegKTryMore
import OpenK.KOwn
import KE.KItem
import KE.KNest
import KE.KLam
import KE.KSortKey
import KE.KSortTup
import KE.KRevIter
import Wide.FinOn
import Lean
import PyProof.EqAt
import PyProof.EqKinds
import PyProof.TupleCall
import KE.KNest
import KE.KNestM
import KE.KLam
import KE.KSortKey
import KE.KSortTup
import KE.KIntText
import PyProof.Draws
import PyProof.EnumMake
import PyProof.Rows.StrNews2
import PyProof.StrBlockI
import PyProof.StrCalls2
import PyProof.StrCalls6
import PyProof.StrLawsIdx
import PyProof.StrLawsTight
import PyProof.StrLawsReplace
import PyProof.StrLawsChain
import PyProof.Rows.StrPartPair
import PySem.Challenge.RW_factorforge_k82_product_read
set_option Elab.async false
set_option linter.all false
set_option maxRecDepth 100000
set_option maxHeartbeats 4000000
local macro_rules | `(tactic| omega) => `(tactic| lia)
section
open PySem PySem.W PyProof.Rows
namespace K82
noncomputable def top (i : Nat) : Stmt := PySem.Challenge.pw_factorforge_k82_product_read.main.body.getD i (.Pass ⟨0, 0, 0, 0⟩)
end K82
noncomputable def K82.view : PySem.Program := { PySem.Challenge.rw_factorforge_k82_product_read.row.toRowW.prog with main := { PySem.Challenge.rw_factorforge_k82_product_read.row.toRowW.prog.main with body := [K82.top 0, K82.top 2, K82.top 3, K82.top 4, K82.top 6, K82.top 7, K82.top 9, K82.top 10, K82.top 12, K82.top 13, K82.top 14, K82.top 15, K82.top 16, K82.top 17, K82.top 18, K82.top 19, K82.top 21, K82.top 22, K82.top 23, K82.top 24, K82.top 25, K82.top 26, K82.top 27, K82.top 28, K82.top 29, K82.top 30, K82.top 31, K82.top 33, K82.top 34, K82.top 35, K82.top 36, K82.top 37, K82.top 38, K82.top 39, K82.top 40, K82.top 41, K82.top 42, K82.top 43, K82.top 44] } }
def X.trT (tb : String → Option Builtin) (p : Program) (w : World) (n₀ : Nat) (ann : Option Value) : Nat → SharedT → Thread → Option SharedT
  | 0, _, _ => none
  | n + 1, s, t => match through t with
    | true => some s
    | false => match stepOk n₀ ann t with
      | false => none
      | true => match stepT (denote tb) p w s t with
        | some (s', t') => X.trT tb p w n₀ ann n s' t'
        | none => none
theorem X.trT_of {tb : String → Option Builtin} {p : Program} {w : World} {n₀ : Nat} {ann : Option Value} : ∀ {n : Nat} {s s' : SharedT} {t : Thread}, X.trT tb p w n₀ ann n s t = some s' → topRun tb p w n₀ ann n s.abs t = some s'.abs
  | 0, _, _, _, h => by cases h
  | n + 1, s, s', t, h => by
    unfold X.trT at h
    unfold topRun
    cases ht : through t with
    | true => rw [ht] at h; cases h; rfl
    | false =>
      rw [ht] at h
      cases hk : stepOk n₀ ann t with
      | false => rw [hk] at h; cases h
      | true =>
        rw [hk] at h
        cases hs : stepT (denote tb) p w s t with
        | none => rw [hs] at h; cases h
        | some r => obtain ⟨s₂, t₂⟩ := r; rw [hs] at h; rw [stepT_spec hs]; exact X.trT_of h
def X.toT (s : Shared) : SharedT := ⟨(s.heap.objs.toList.foldl (fun (x : BT × Nat) o => (x.1.ins x.2 o, x.2 + 1)) (BT.nil, 0)).1, s.heap.objs.size, s.heap.life, s.gens, s.drawn, s.toks, s.os⟩
def X.RT (tb : String → Option Builtin) (p : Program) (w : World) (N : Nat) : Option (Shared × SharedT) := (fencedOpening tb p w N).bind fun s0 => (X.trT tb p w s0.heap.objs.size (s0.heap.nsMap mainGlobals "__annotations__") N (X.toT s0) (topStub p)).map fun s1 => (s0, s1)
def X.chk (p : Program) (s0 s1 : Shared) : Bool := (s0.heap.isNs mainGlobals && s0.gens.size == 0) && (staticsOk (importedModules p.main.body) s0.heap s1.heap && namesBound p s1.heap && gensDone s1 && laidKept s0.heap s1.heap)
theorem X.ends_of_tree {p : Program} {w : World} {N : Nat} {A : Type} {f : Shared → A} {a : A} (h0 : (fencedOpening treeTable p w N).map (fun s => (X.toT s).tree.list s.heap.objs.size) = (fencedOpening treeTable p w N).map (fun s => s.heap.objs.toList))
    (h1 : (X.RT treeTable p w N).map (fun x => (X.chk p x.1 x.2.abs, f x.2.abs)) = some (true, a)) : (openEnds treeTable p w N).map f = some a := by
  unfold X.RT at h1
  unfold openEnds
  cases e : fencedOpening treeTable p w N with
  | none => rw [e] at h1; cases h1
  | some s0 =>
    rw [e] at h0 h1
    have hl : (X.toT s0).tree.list s0.heap.objs.size = s0.heap.objs.toList := Option.some.inj h0
    have ha : (X.toT s0).abs = s0 := by
      obtain ⟨⟨objs, life⟩, gens, drawn, toks, os⟩ := s0
      show (⟨⟨((X.toT ⟨⟨objs, life⟩, gens, drawn, toks, os⟩).tree.list objs.size).toArray, life⟩, gens, drawn, toks, os⟩ : Shared) = _
      rw [hl]
    have h1 : ((X.trT treeTable p w s0.heap.objs.size (s0.heap.nsMap mainGlobals "__annotations__") N (X.toT s0) (topStub p)).map fun s1 => (s0, s1)).map (fun x => (X.chk p x.1 x.2.abs, f x.2.abs)) = some (true, a) := h1
    cases e1 : X.trT treeTable p w s0.heap.objs.size (s0.heap.nsMap mainGlobals "__annotations__") N (X.toT s0) (topStub p) with
    | none => rw [e1] at h1; cases h1
    | some s1 =>
      rw [e1] at h1
      have h1 := Option.some.inj h1
      have c := congrArg Prod.fst h1
      have d := congrArg Prod.snd h1
      have c : X.chk p s0 s1.abs = true := c
      have d : f s1.abs = a := d
      have r := X.trT_of e1
      rw [ha] at r
      obtain ⟨c1, c2⟩ := Bool.and_eq_true_iff.mp c
      show (topFrom treeTable p w N s0).map f = some a
      unfold topFrom
      rw [c1, r]
      show (match staticsOk (importedModules p.main.body) s0.heap s1.abs.heap && namesBound p s1.abs.heap && gensDone s1.abs && laidKept s0.heap s1.abs.heap with | true => some s1.abs | false => none).map f = some a
      rw [c2]
      exact congrArg some d
theorem X.both {S A B : Type} {o : Option S} {c : S → Bool} {f : S → A} {y : S → B} {g : A} {a : B} (h1 : o.map (fun x => (c x, f x)) = some (true, g)) (h2 : o.map y = some a) : o.map (fun x => (c x, (f x, y x))) = some (true, (g, a)) := by
  cases o with
  | none => cases h2
  | some s =>
    have e1 := Option.some.inj h1
    have e2 := Option.some.inj h2
    have e3 : c s = true := congrArg Prod.fst e1
    have e4 : f s = g := congrArg Prod.snd e1
    show some (c s, (f s, y s)) = _
    rw [e3, e4, e2]
theorem X.two {S A B : Type} {o : Option S} {f : S → A × B} {g : A × B} {c : S → Bool} (h1 : o.map (fun x => (c x, (f x).1)) = some (true, g.1)) (h2 : o.map (fun x => (f x).2) = some g.2) : o.map (fun x => (c x, f x)) = some (true, g) := by
  cases o with
  | none => cases h2
  | some s =>
    have e1 := Option.some.inj h1
    have e2 := Option.some.inj h2
    have e3 : c s = true := congrArg Prod.fst e1
    have e4 : (f s).1 = g.1 := congrArg Prod.snd e1
    show some (c s, ((f s).1, (f s).2)) = some (true, (g.1, g.2))
    rw [e3, e4]
    exact congrArg (fun z => some (true, (g.1, z))) e2
noncomputable abbrev K82.seenT (s : Shared) := openSeen K82.view [] (importedModules PySem.Challenge.rw_factorforge_k82_product_read.row.toRowW.prog.main.body) (fun s => xlAt K82.view [] s && recOk (RowW.records PySem.Challenge.rw_factorforge_k82_product_read.row.toRowW) s) true s
theorem K82.h0 : ∀ w, (fencedOpening treeTable PySem.Challenge.rw_factorforge_k82_product_read.row.toRowW.prog w 20000).map (fun s => (X.toT s).tree.list s.heap.objs.size) = (fencedOpening treeTable PySem.Challenge.rw_factorforge_k82_product_read.row.toRowW.prog w 20000).map (fun s => s.heap.objs.toList) := by intro w; kernel_rfl
theorem K82.h1 : ∀ w, (X.RT treeTable PySem.Challenge.rw_factorforge_k82_product_read.row.toRowW.prog w 20000).map (fun x => (X.chk PySem.Challenge.rw_factorforge_k82_product_read.row.toRowW.prog x.1 x.2.abs, (K82.seenT x.2.abs).1)) = some (true, (openGood K82.view []).1) := by intro w; kernel_rfl
theorem K82.h2 : ∀ w, (X.RT treeTable PySem.Challenge.rw_factorforge_k82_product_read.row.toRowW.prog w 20000).map (fun x => (K82.seenT x.2.abs).2) = some (openGood K82.view []).2 := by intro w; kernel_rfl
theorem K82.fin {A : Type} {y : Shared → A} {a : A} (w : World) (h : (X.RT treeTable PySem.Challenge.rw_factorforge_k82_product_read.row.toRowW.prog w 20000).map (fun x => y x.2.abs) = some a) : (openEnds treeTable PySem.Challenge.rw_factorforge_k82_product_read.row.toRowW.prog w 20000).map (fun s => (K82.seenT s, y s)) = some (openGood K82.view [], a) :=
  X.ends_of_tree (f := fun s => (K82.seenT s, y s)) (K82.h0 w) (X.both (X.two (K82.h1 w) (K82.h2 w)) h)
end
/-! THE HAND LAYER, for ints, bools, texts, own classes, LISTS and tuples (index, slices, in, append, pop ..), calls, loops. Paste it whole ahead of your own text; what your proof does not reach may be deleted. -/
namespace L2
open PySem PySem.Spec PyProof.Rows

/-- a key: an int or a str -/
noncomputable abbrev Key := Sum Int Str
noncomputable def keyIs : Key → Value → Bool
  | .inl k, v => Value.isInt k v
  | .inr x, v => Value.isStrOf x v
noncomputable def keyH (w : World) : Key → Int
  | .inl k => hashInt k
  | .inr x => hashStr w x
theorem keyIs_shape : ∀ {k : Key} {v : Value}, keyIs k v = true → (∃ i t, k = Sum.inl i ∧ v = Value.int i t) ∨ (∃ x t, k = Sum.inr x ∧ v = Value.str x t)
  | .inl i, v, h => by
    obtain ⟨t, e⟩ := Value.isInt_shape (k := i) (v := v) h
    exact .inl ⟨i, t, rfl, e⟩
  | .inr x, v, h => by
    obtain ⟨t, e⟩ := Value.isStrOf_shape (x := x) (v := v) h
    exact .inr ⟨x, t, rfl, e⟩
theorem key_ll (a b : Int) : decide ((Sum.inl a : Key) = Sum.inl b) = (a == b) := by
  by_cases e : a = b
  · subst e; simp
  · have h : ¬ (Sum.inl a : Key) = Sum.inl b := fun q => e (Sum.inl.inj q)
    rw [decide_eq_false h]
    exact (beq_eq_false_iff_ne.mpr e).symm
theorem key_rr (a b : Str) : decide ((Sum.inr a : Key) = Sum.inr b) = decide (a = b) := by
  by_cases e : a = b
  · subst e; simp
  · have h : ¬ (Sum.inr a : Key) = Sum.inr b := fun q => e (Sum.inr.inj q)
    rw [decide_eq_false h, decide_eq_false e]
theorem key_lr (a : Int) (b : Str) : decide ((Sum.inl a : Key) = Sum.inr b) = false := decide_eq_false (fun q => nomatch q)
theorem key_rl (a : Str) (b : Int) : decide ((Sum.inr a : Key) = Sum.inl b) = false := decide_eq_false (fun q => nomatch q)

noncomputable def mixKind (prog : Program) (w : World) : PySem.KeyKind prog w Key where
  is := keyIs
  hash := keyH w
  inj := fun v a b ha hb => by
    rcases keyIs_shape ha with ⟨i, t, rfl, rfl⟩ | ⟨x, t, rfl, rfl⟩
    · rcases keyIs_shape hb with ⟨j, u, rfl, e⟩ | ⟨y, u, rfl, e⟩
      · injection e with e1 _; rw [e1]
      · exact nomatch e
    · rcases keyIs_shape hb with ⟨j, u, rfl, e⟩ | ⟨y, u, rfl, e⟩
      · exact nomatch e
      · injection e with e1 _; rw [e1]
  byValue := fun k v h => by
    rcases keyIs_shape h with ⟨i, t, rfl, rfl⟩ | ⟨x, t, rfl, rfl⟩ <;> rfl
  pyHash := fun hv h => by
    rcases keyIs_shape hv with ⟨i, t, rfl, rfl⟩ | ⟨x, t, rfl, rfl⟩
    · exact wpAny_pyHash_int h
    · exact wpAny_pyHash_str h
  eqBool := fun hu hv h => by
    rcases keyIs_shape hu with ⟨i, t, rfl, rfl⟩ | ⟨x, t, rfl, rfl⟩
    · rcases keyIs_shape hv with ⟨j, u, rfl, rfl⟩ | ⟨y, u, rfl, rfl⟩
      · rw [key_ll] at h; exact wpAny_eqBool_int h
      · rw [key_lr] at h; exact SeqAt.EqAt.int_str i t y u _ _ _ _ h
    · rcases keyIs_shape hv with ⟨j, u, rfl, rfl⟩ | ⟨y, u, rfl, rfl⟩
      · rw [key_rl] at h; exact SeqAt.EqAt.str_int x t j u _ _ _ _ h
      · rw [key_rr] at h; exact wpAny_eqBool_str h
  «strs» := fun k x t v h => by
    rcases keyIs_shape h with ⟨i, u, rfl, e⟩ | ⟨y, u, rfl, e⟩
    · exact nomatch e
    · injection e with e1 _
      subst e1
      cases v <;> rfl

end L2

namespace L2
open PySem PySem.Spec PyProof.Rows

/-- a value, without the heap -/
inductive V where
  | non | bl (b : Bool) | int (i : Int) | str (x : Str) | byt (b : Array UInt8) | flt (b : UInt64) | ref (a : Addr) | ty (n : String)
  deriving DecidableEq

noncomputable def RelV : V → Value → Prop
  | .non, u => u = Value.none
  | .bl b, u => u = Value.bool b
  | .int i, u => ∃ t, u = Value.int i t
  | .str x, u => ∃ t, u = Value.str x t
  | .byt b, u => ∃ t, u = Value.bytes b t
  | .flt b, u => ∃ t, u = Value.float b t
  | .ref a, u => u = Value.ref a
  | .ty n, u => u = Value.type n

noncomputable abbrev Vals : List V → List Value → Prop := Paired RelV
theorem Vals.length (r : Vals xs us) : xs.length = us.length := Paired.length r
theorem Vals.get : ∀ {xs : List V} {us : List Value} {i : Nat} {x : V}, Vals xs us → xs[i]? = some x → ∃ u, us[i]? = some u ∧ RelV x u
  | _, _, _, _, .nil, e => by simp at e
  | _, _, 0, _, .cons r _, e => by simp at e; subst e; exact ⟨_, rfl, r⟩
  | _, _, i + 1, x, .cons _ t, e => by
    obtain ⟨u, h1, h2⟩ := Vals.get (i := i) (x := x) t (by simpa using e)
    exact ⟨u, by simpa using h1, h2⟩
theorem Vals.set (r : RelV x u) : ∀ {xs : List V} {us : List Value} (i : Nat), Vals xs us → Vals (xs.set i x) (us.set i u)
  | _, _, _, .nil => .nil
  | _, _, 0, .cons _ t => .cons r t
  | _, _, i + 1, .cons q t => .cons q (Vals.set r i t)
theorem Vals.append : ∀ {xs ys : List V} {us ws : List Value}, Vals xs us → Vals ys ws → Vals (xs ++ ys) (us ++ ws)
  | _, _, _, _, .nil, s => s
  | _, _, _, _, .cons r t, s => .cons r (Vals.append t s)
theorem Vals.take : ∀ {xs : List V} {us : List Value} (n : Nat), Vals xs us → Vals (xs.take n) (us.take n)
  | _, _, 0, _ => .nil
  | _, _, _ + 1, .nil => .nil
  | _, _, n + 1, .cons r t => .cons r (Vals.take n t)
theorem Vals.drop : ∀ {xs : List V} {us : List Value} (n : Nat), Vals xs us → Vals (xs.drop n) (us.drop n)
  | _, _, 0, r => r
  | _, _, _ + 1, .nil => .nil
  | _, _, n + 1, .cons _ t => Vals.drop n t
noncomputable def RelO : Option V → Option Value → Prop
  | some v, some u => RelV v u
  | none, none => True
  | _, _ => False
noncomputable def KV {κ : Type} : List (κ × V) → List (κ × Value) → Prop := Paired fun (p : κ × V) (q : κ × Value) => p.1 = q.1 ∧ RelV p.2 q.2

/-- a key of a dict (00_mix): an int or a text -/
noncomputable def kV : Key → V
  | .inl i => .int i
  | .inr x => .str x

/-- a code object's table, and the name that the functions in it bear -/
structure TabD where
  q : Str
  ps : Array Value
noncomputable instance : HAppend TabD (Array Value) TabD := ⟨fun t m => ⟨t.q, t.ps ++ m⟩⟩
@[simp] theorem TabD.append_nil (t : TabD) : t ++ (#[] : Array Value) = t := by
  obtain ⟨q, ps⟩ := t
  show TabD.mk q (ps ++ #[]) = ⟨q, ps⟩
  rw [Array.append_empty]
theorem TabD.append_assoc (t : TabD) (a b : Array Value) : t ++ a ++ b = t ++ (a ++ b) := by
  obtain ⟨q, ps⟩ := t
  show TabD.mk q (ps ++ a ++ b) = ⟨q, ps ++ (a ++ b)⟩
  rw [Array.append_assoc]
/-- a code record of that name -/
noncomputable def CodeQ (o : Obj) (q : Str) : Prop := ∃ vs t, o.data = .fields vs ∧ vs[1]? = some (.str q t)
/-- what stands at a tracked address -/
inductive HO where
  /-- a list -/
  | lst (xs : List V)
  /-- a tuple (never changes) -/
  | tup (xs : List V)
  /-- a dict whose keys are ints and texts; one whose keys are tuples of ints and texts (the empty one is both) -/
  | dK (kvs : List (Key × V)) | dT (kvs : List (List Key × V))
  /-- a set of ints: its members, its size -/
  | set (S : Int → Bool) (n : Nat)
  /-- an instance of the class at C, its dict at dx, its attributes -/
  | ins (C dx : Addr) (fs : List (Str × V))
  /-- the dict of the instance at x -/
  | own (x : Addr)
  /-- the dict of an exception -/
  | xd (fs : List (Str × V))
  /-- a bound method, f of x -/
  | met (f x : Addr)
  /-- a range object lo, lo + 1, .. below hi -/
  | rng (lo hi : Int)
  /-- a thing that is known to the object (the script; a dict while a loop walks it): read, never written while it is so -/
  | frz (o : Obj) (u : HO)
  /-- a code object's table -/
  | tbl (ps : TabD)
  /-- any other thing, by what is true of its one object (a def of one's own: SetO a S n := HO.ext fun h => ..) -/
  | ext (φ : Heap → Prop)

noncomputable abbrev Hp := Addr → Option HO
noncomputable def upd (H : Hp) (a : Addr) (o : HO) : Hp := fun b => if b = a then some o else H b
theorem upd_same : upd H a o a = some o := by unfold upd; rw [if_pos rfl]
theorem upd_ne (h : b ≠ a) : upd H a o b = H b := by unfold upd; rw [if_neg h]
theorem upd_upd : upd (upd H a o) a u = upd H a u := by
  funext b; unfold upd; split <;> rfl
/-- two objects of different content stand apart -/
theorem ne_of {H : Hp} {a b : Addr} {o u : HO} (h : H a = some o) (h' : H b = some u) (d : o ≠ u) : a ≠ b := by
  intro e; subst e; rw [h] at h'; exact d (Option.some.inj h')
theorem ne_of_none {H : Hp} {a b : Addr} {o : HO} (h : H a = some o) (h' : H b = none) : a ≠ b := by
  intro e; subst e; rw [h] at h'; cases h'

section
variable (P : Program) (w : World)
noncomputable def ObjOk (H : Hp) (h : Heap) (a : Addr) : HO → Prop
  | .lst xs => xs.length ≤ sizeLine ∧ ∃ (its : List Value) (n : Nat), Vals xs its ∧ h.get? a = some { cls := .type "list", data := .seq its.toArray n }
  | .tup xs => xs.length ≤ sizeLine ∧ ∃ its : List Value, Vals xs its ∧ IsTup h a its.toArray
  | .dK kvs => kvs.length ≤ sizeLine ∧ (a == sysModules) = false ∧ ∃ vs, KV kvs vs ∧ h.DictOf (mixKind P w) a vs
  | .dT kvs => kvs.length ≤ sizeLine ∧ (a == sysModules) = false ∧ ∃ xs : List (List Key × Addr × Value),
      Paired (fun (p : List Key × V) (q : List Key × Addr × Value) => p.1 = q.1 ∧ H q.2.1 = some (.tup (p.1.map kV)) ∧ RelV p.2 q.2.2) kvs xs ∧
      ∃ o es ep, h.get? a = some o ∧ o.ExactDict ∧ o.data = .dict es ep ∧ es.toList = xs.map (entryOfKey (tupleKind (mixKind P w))) ∧ (xs.map (·.1)).Nodup
  | .set S n => h.SetOf (intKind P w) a S n
  | .ins C dx fs => H dx = some (.own a) ∧ fs.length ≤ 1000 ∧ dx ≠ a ∧ h.get? a = some (PySem.W.instObj C dx) ∧
      ∃ mA, h.Ns1 dx mA ∧ (∀ f, RelO (fs.lookup f) (mA f)) ∧ PySem.Within mA (fs.map (·.1))
  | .own _ => ∃ o, h.get? a = some o
  | .xd fs => ∃ mA, h.Ns1 a mA ∧ ∀ f, RelO (fs.lookup f) (mA f)
  | .rng lo hi => ∃ t u v, h.get? a = some { cls := .type "range", data := .fields #[.int lo t, .int hi u, .int 1 v] }
  | .frz o u => h.get? a = some o ∧ ObjOk H h a u
  | .tbl ps => h.get? a = some { cls := .none, data := .fields ps.ps } ∧ TriplesOk ps.ps.toList ∧ ∀ p cv, codeAmong p ps.ps.toList = some cv → ∃ c oc u, cv = Value.ref c ∧ H c = some (.frz oc u) ∧ CodeQ oc ps.q
  | .met f x => h.get? a = some (PySem.W.methodObj (.ref f) (.ref x))
  | .ext φ => φ h ∧ (∃ o, h.get? a = some o) ∧ ∀ h1 h2 : Heap, φ h1 → (∀ o, h1.get? a = some o → h2.get? a = some o) → φ h2
/-- the abstract heap is held -/
noncomputable def HOk (H : Hp) (h : Heap) : Prop := ∀ a o, H a = some o → ObjOk P w H h a o
end

section
variable {P : Program} {w : World} {H H' : Hp} {h h' : Heap} {a : Addr} {o : HO}
theorem ObjOk.lt (x : ObjOk P w H h a o) : a < h.objs.size := by
  cases o with
  | lst xs => obtain ⟨_, _, _, _, e⟩ := x; exact Heap.lt_size e
  | tup xs => obtain ⟨_, _, _, p⟩ := x; exact p.lt
  | dK kvs => obtain ⟨_, _, _, _, o, _, _, e, _⟩ := x; exact Heap.lt_size e
  | dT kvs => obtain ⟨_, _, _, _, o, _, _, e, _⟩ := x; exact Heap.lt_size e
  | set S n => obtain ⟨o, _, _, _, e, _⟩ := x; exact Heap.lt_size e
  | ins C dx fs => obtain ⟨_, _, _, e, _⟩ := x; exact Heap.lt_size e
  | own y => obtain ⟨_, e⟩ := x; exact Heap.lt_size e
  | xd fs => obtain ⟨_, ⟨_, _, _, e, _⟩, _⟩ := x; exact Heap.lt_size e
  | rng lo hi => obtain ⟨_, _, _, e⟩ := x; exact Heap.lt_size e
  | frz ob u => obtain ⟨e, _⟩ := x; exact Heap.lt_size e
  | tbl ps => exact Heap.lt_size x.1
  | met f y => exact Heap.lt_size (show h.get? a = some _ from x)
  | ext φ => obtain ⟨_, ⟨_, e⟩, _⟩ := x; exact Heap.lt_size e
theorem Paired.mapP : ∀ {l₁ : List α} {l₂ : List β}, Paired F l₁ l₂ → (∀ a b, F a b → G a b) → Paired G l₁ l₂
  | _, _, .nil, _ => .nil
  | _, _, .cons r t, f => .cons (f _ _ r) (Paired.mapP t f)
/-- what an object's description leans on: its own object, its own dict, the tuples -/
theorem ObjOk.stay (x : ObjOk P w H h a o) (k : ∀ b u, (b = a ∨ H b = some (.own a)) → h.get? b = some u → h'.get? b = some u)
    (ho : ∀ b, H b = some (.own a) → H' b = some (.own a)) (ht : ∀ b xs, H b = some (.tup xs) → H' b = some (.tup xs)) (hz : ∀ b o u, H b = some (.frz o u) → H' b = some (.frz o u) := by intro _ _ _ q; exact q) : ObjOk P w H' h' a o := by
  induction o with
  | lst xs => obtain ⟨z, its, n, r, e⟩ := x; exact ⟨z, its, n, r, k _ _ (.inl rfl) e⟩
  | tup xs => obtain ⟨z, its, r, ob, e, c⟩ := x; exact ⟨z, its, r, ob, k _ _ (.inl rfl) e, c⟩
  | dK kvs => obtain ⟨z, y, vs, r, ob, es, ep, e, c⟩ := x; exact ⟨z, y, vs, r, ob, es, ep, k _ _ (.inl rfl) e, c⟩
  | dT kvs =>
    obtain ⟨z, y, xs, r, ob, es, ep, e, c⟩ := x
    exact ⟨z, y, xs, Paired.mapP r fun p q z => ⟨z.1, ht _ _ z.2.1, z.2.2⟩, ob, es, ep, k _ _ (.inl rfl) e, c⟩
  | set S n => obtain ⟨ob, es, ep, t, e, c⟩ := x; exact ⟨ob, es, ep, t, k _ _ (.inl rfl) e, c⟩
  | ins C dx fs =>
    obtain ⟨d, z, ne, e, mA, ⟨od, es, ep, e2, c⟩, r⟩ := x
    exact ⟨ho _ d, z, ne, k _ _ (.inl rfl) e, mA, ⟨od, es, ep, k _ _ (.inr d) e2, c⟩, r⟩
  | own y => obtain ⟨ob, e⟩ := x; exact ⟨ob, k _ _ (.inl rfl) e⟩
  | xd fs => obtain ⟨mA, ⟨od, es, ep, e, c⟩, r⟩ := x; exact ⟨mA, ⟨od, es, ep, k _ _ (.inl rfl) e, c⟩, r⟩
  | rng lo hi => obtain ⟨t, u, v, e⟩ := x; exact ⟨t, u, v, k _ _ (.inl rfl) e⟩
  | frz ob u ih => obtain ⟨e, q⟩ := x; exact ⟨k _ _ (.inl rfl) e, ih q⟩
  | tbl ps =>
    obtain ⟨e, t, g⟩ := x
    exact ⟨k a _ (.inl rfl) e, t, fun p cv hc => let ⟨c, oc, u, y, z, q⟩ := g p cv hc; ⟨c, oc, u, y, hz _ _ _ z, q⟩⟩
  | met f y =>
    have e : h.get? a = some (PySem.W.methodObj (.ref f) (.ref y)) := x
    show h'.get? a = some (PySem.W.methodObj (.ref f) (.ref y))
    exact k a _ (.inl rfl) e
  | ext φ => obtain ⟨p, ⟨o, e⟩, st⟩ := x; exact ⟨st _ _ p fun o q => k _ _ (.inl rfl) q, ⟨o, k _ _ (.inl rfl) e⟩, st⟩
theorem HOk.lt (x : HOk P w H h) (e : H a = some o) : a < h.objs.size := (x a o e).lt
theorem HOk.fresh (x : HOk P w H h) (e : h.objs.size ≤ a) : H a = none := by
  cases q : H a with
  | none => rfl
  | some u => exact absurd (Nat.lt_of_lt_of_le (x.lt q) e) (Nat.lt_irrefl _)
/-- every object of the heap is kept -/
theorem HOk.kept (x : HOk P w H h) (k : ∀ b u, h.get? b = some u → h'.get? b = some u) : HOk P w H h' := fun a o e =>
  (x a o e).stay (fun b u _ q => k b u q) (fun _ q => q) fun _ _ q => q
/-- a new object is laid and tracked -/
theorem HOk.laid (x : HOk P w H h) (k : ∀ b u, h.get? b = some u → h'.get? b = some u) (hp : h.objs.size ≤ a) (new : ObjOk P w (upd H a o) h' a o) : HOk P w (upd H a o) h' := fun b u e => by
  have hn := x.fresh hp
  by_cases hb : b = a
  · subst hb; rw [upd_same] at e; cases e; exact new
  · rw [upd_ne hb] at e
    exact (x b u e).stay (fun c v _ q => k c v q) (fun c q => by rw [upd_ne (ne_of_none q hn)]; exact q) (fun c xs q => by rw [upd_ne (ne_of_none q hn)]; exact q) fun c _ _ q => by rw [upd_ne (ne_of_none q hn)]; exact q
end

/-- what may be read as u: it is u, or a known u -/
noncomputable def Rd (H : Hp) (a : Addr) (u : HO) : Prop := H a = some u ∨ ∃ o, H a = some (.frz o u)
theorem Rd.ok (r : Rd H a u) (x : HOk P w H h) : ObjOk P w H h a u := by
  rcases r with r | ⟨o, r⟩
  · exact x a u r
  · obtain ⟨_, q⟩ := x a _ r
    exact q
/-- what may be written -/
noncomputable def Mut : Option HO → Prop
  | some (.lst _) => True
  | some (.dK _) => True
  | some (.dT _) => True
  | some (.set _ _) => True
  | some (.ins _ _ _) => True
  | some (.ext _) => True
  | _ => False
section
variable {P : Program} {w : World} {H : Hp} {h h' : Heap} {x e : Addr} {o' : HO}
/-- the object at e is changed: x itself, or the dict of the instance x -/
theorem HOk.write (ok : HOk P w H h) (mu : Mut (H x)) (he : e = x ∨ H e = some (.own x)) (k : ∀ b u, b ≠ e → h.get? b = some u → h'.get? b = some u) (heo : ∃ u, h'.get? e = some u)
    (new : ObjOk P w (upd H x o') h' x o') : HOk P w (upd H x o') h' := fun b u q => by
  have nown : ∀ c y, H c = some (.own y) → c ≠ x := fun c y r z => by subst z; rw [r] at mu; exact mu
  have ntup : ∀ c xs, H c = some (.tup xs) → c ≠ x := fun c xs r z => by subst z; rw [r] at mu; exact mu
  have nfrz : ∀ c o u, H c = some (.frz o u) → c ≠ x := fun c o u r z => by subst z; rw [r] at mu; exact mu
  by_cases hb : b = x
  · subst hb; rw [upd_same] at q; cases q; exact new
  · rw [upd_ne hb] at q
    by_cases hbe : b = e
    · have q' : H b = some (.own x) := by
        rcases he with z | z
        · exact absurd (hbe.trans z) hb
        · rw [hbe]; exact z
      rw [q] at q'; cases q'
      obtain ⟨v, hv⟩ := heo
      exact ⟨v, by rw [hbe]; exact hv⟩
    · refine (ok b u q).stay (fun c v hc r => k c v ?_ r) (fun c r => by rw [upd_ne (nown c b r)]; exact r) (fun c xs r => by rw [upd_ne (ntup c xs r)]; exact r) fun c o u r => by rw [upd_ne (nfrz c o u r)]; exact r
      rcases hc with rfl | hc
      · exact hbe
      · rintro rfl
        rcases he with z | z
        · exact nown c b hc z
        · rw [hc] at z; cases z; exact hb rfl
end

/-! ### kept unless tracked; of the frames at fs (the callers') the slots may change (an exception that passes writes there); of the records at ex (iterators) nothing is said -/
structure Un (fs ex : List Addr) (H H' : Hp) (h h' : Heap) : Prop where
  keep : ∀ b o, h.get? b = some o → H b = none → b ∉ fs → b ∉ ex → h'.get? b = some o
  slot : ∀ b o, h.get? b = some o → H b = none → b ∈ fs → b ∉ ex → ∃ sl, h'.get? b = some { o with slots := sl }
  free : ∀ b o, h.get? b = some o → H b = none → b ∉ ex → H' b = none
  there : ∀ b o, h.get? b = some o → b ∉ ex → ∃ o', h'.get? b = some o'
  tups : ∀ b xs, H b = some (.tup xs) → H' b = some (.tup xs)
  frzs : ∀ b o u, H b = some (.frz o u) → H' b = some (.frz o u)
  tbls : ∀ b ps, H b = some (.tbl ps) → ∃ more : Array Value, H' b = some (.tbl (ps ++ more))
section
variable {fs fs' ex ex' : List Addr} {H H1 H2 : Hp} {h h1 h2 h' : Heap} {a x e : Addr} {o : HO}
theorem Un.any (u : Un fs ex H H1 h h1) (q : h.get? b = some ob) (n : H b = none) (hx : b ∉ ex) : ∃ sl, h1.get? b = some { ob with slots := sl } := by
  by_cases hb : b ∈ fs
  · exact u.slot b ob q n hb hx
  · exact ⟨ob.slots, u.keep b ob q n hb hx⟩
theorem Un.trans (a : Un fs ex H H1 h h1) (b : Un fs ex H1 H2 h1 h2) : Un fs ex H H2 h h2 where
  keep := fun c ob q n hc hx => b.keep c ob (a.keep c ob q n hc hx) (a.free c ob q n hx) hc hx
  slot := fun c ob q n hc hx => by
    obtain ⟨sl, e1⟩ := a.slot c ob q n hc hx
    obtain ⟨sl', e2⟩ := b.slot c _ e1 (a.free c ob q n hx) hc hx
    exact ⟨sl', e2⟩
  free := fun c ob q n hx => by
    obtain ⟨o', e1⟩ := a.there c ob q hx
    exact b.free c o' e1 (a.free c ob q n hx) hx
  there := fun c ob q hx => by
    obtain ⟨o', e1⟩ := a.there c ob q hx
    exact b.there c o' e1 hx
  tups := fun c xs q => b.tups c xs (a.tups c xs q)
  frzs := fun c ob xs q => b.frzs c ob xs (a.frzs c ob xs q)
  tbls := fun c ps q => by
    obtain ⟨m1, e1⟩ := a.tbls c ps q
    obtain ⟨m2, e2⟩ := b.tbls c _ e1
    exact ⟨m1 ++ m2, by rw [e2, TabD.append_assoc]⟩
theorem Un.kept (k : ∀ b u, h.get? b = some u → h'.get? b = some u) : Un fs ex H H h h' :=
  ⟨fun b ob q _ _ _ => k b ob q, fun b ob q _ _ _ => ⟨ob.slots, k b ob q⟩, fun _ _ _ n _ => n, fun b ob q _ => ⟨ob, k b ob q⟩, fun _ _ q => q, fun _ _ _ q => q, fun _ ps q => ⟨#[], by rw [q]; simp⟩⟩
theorem Un.refl : Un fs ex H H h h := Un.kept fun _ _ q => q
theorem Un.laid (k : ∀ b u, h.get? b = some u → h'.get? b = some u) (hp : h.objs.size ≤ a) (hn : H a = none) : Un fs ex H (upd H a o) h h' where
  keep := fun b u q _ _ _ => k b u q
  slot := fun b u q _ _ _ => ⟨u.slots, k b u q⟩
  free := fun b u q n _ => by rw [upd_ne (Nat.ne_of_lt (Nat.lt_of_lt_of_le (Heap.lt_size q) hp))]; exact n
  there := fun b u q _ => ⟨u, k b u q⟩
  tups := fun b xs q => by rw [upd_ne (ne_of_none q hn)]; exact q
  frzs := fun b u xs q => by rw [upd_ne (ne_of_none q hn)]; exact q
  tbls := fun b ps q => ⟨#[], by rw [upd_ne (ne_of_none q hn), q]; simp⟩
theorem Un.write (mu : Mut (H x)) (he : e = x ∨ H e = some (.own x)) (k : ∀ b u, b ≠ e → h.get? b = some u → h'.get? b = some u) (heo : ∃ u, h'.get? e = some u) : Un fs ex H (upd H x o) h h' := by
  have hx : ∀ b, H b = none → b ≠ x := fun b n z => by subst z; rw [n] at mu; exact mu
  have hb : ∀ b, H b = none → b ≠ e := fun b n z => by
    subst z
    rcases he with r | r
    · exact hx b n r
    · rw [n] at r; cases r
  have hm : ∀ b u, H b = some u → ¬ Mut (some u) → b ≠ x := fun b u q nm z => by subst z; rw [q] at mu; exact nm mu
  refine ⟨fun b u q n _ _ => k b u (hb b n) q, fun b u q n _ _ => ⟨u.slots, k b u (hb b n) q⟩, fun b u q n _ => by rw [upd_ne (hx b n)]; exact n, fun b u q _ => ?_,
    fun b xs q => by rw [upd_ne (hm b _ q fun z => z)]; exact q, fun b u xs q => by rw [upd_ne (hm b _ q fun z => z)]; exact q, fun b ps q => ⟨#[], by rw [upd_ne (hm b _ q fun z => z), q]; simp⟩⟩
  by_cases hbe : b = e
  · subst hbe; exact heo
  · exact ⟨u, k b u hbe q⟩
end

/-! ### the heap without what is tracked -/
noncomputable def trk (h : Heap) (H : Hp) : List Addr := (List.range h.objs.size).filter fun a => (H a).isSome
noncomputable def hidT (h : Heap) (H : Hp) : Heap := PySem.W.hideAll h (trk h H)
theorem hidT_size (h : Heap) (H : Hp) : (hidT h H).objs.size = h.objs.size := PySem.W.hideAll_size _ _
theorem hidT_get (e : h.get? b = some o) (n : H b = none) : (hidT h H).get? b = some o :=
  PySem.W.hideAll_get _ e fun hm => by
    have q : (H b).isSome = true := (List.mem_filter.mp hm).2
    rw [n] at q; simp at q
theorem of_hidT (e : (hidT h H).get? b = some o) : h.get? b = some o ∧ H b = none := by
  have e' : h.get? b = some o := PySem.W.of_hideAll (trk h H) e
  refine ⟨e', ?_⟩
  cases q : H b with
  | none => rfl
  | some x =>
    have hm : b ∈ trk h H := List.mem_filter.mpr ⟨List.mem_range.mpr (Heap.lt_size e'), by simp [q]⟩
    have z : (hidT h H).get? b = none := PySem.W.hideAll_none (trk h H) hm
    rw [z] at e; cases e

/-! ### OpenK's ledger, filled with every new object but one -/
noncomputable def allNews (g h : Heap) (L : Addr) : List (Addr × Obj) := (List.range h.objs.size).filterMap fun a => if a = L ∨ (g.get? a).isSome = true then none else (h.get? a).map fun o => (a, o)
noncomputable def rest (g h : Heap) (L d : Addr) : List (Addr × Obj) := (allNews g h L).filter fun p => decide (p.1 ≠ d)
end L2

namespace L2
open PySem PySem.Spec PyProof.Rows

/-- the module of the builtins -/
noncomputable def BltM (mg : Str → Option Value) (h : Heap) : Prop := ∃ bm ob, mg "__builtins__" = some (.ref bm) ∧ bm ≠ builtinsNs ∧ h.get? bm = some ob ∧ ob.cls = .type "module" ∧ ob.dict = some builtinsNs ∧ ob.data = .plain
/-- the module's facts, over the base: the heap at the law's entry without what is tracked there -/
structure Mod (K : PySem.W.Frag) (mg : Str → Option Value) (base : Heap) : Prop where
  kin : K.In base
  glob : base.Ns mainGlobals mg
  blt : ∃ mb, base.Ns builtinsNs mb ∧ ∀ x : Str, x ≠ "__name__" → mb x = bootBuiltins x
  nolimit : base.NoLimit
  bm : BltM mg base

/-- the context: a def's body (or a comprehension's block) running. base: fixed through the whole law; s₀, H₀: the entry; outer: the frames whose slots others may change (a def's callers); stack: all frames that run;
   ex: iterators that were made ahead of the entry and are walked here (a comprehension's); fn: the names whose cells were made at the entry (a def: all; a comprehension's block: its own); calm: not within an except suite; pn: pins that every state bears; xe: what is wanted of an exception that leaves the code -/
structure Cx where
  prog : Program
  w : World
  K : PySem.W.Frag
  mg : Str → Option Value
  base : Heap
  A : Around
  N : List Str
  s₀ : Shared
  H₀ : Hp
  env : Env
  outer : List Env
  stack : List Env
  ex : List Addr
  fn : Str → Bool
  calm : Bool
  pn : List (Addr × Obj)
  xe : Value → Shared → Prop
/-- the callers' frames -/
noncomputable def frs (l : List Env) : List Addr := l.filterMap (·.frame)
noncomputable abbrev Cx.fs (X : Cx) : List Addr := frs X.outer

noncomputable def Vis (sc : Scope) (x : Str) : Prop := sc.names.lookup x = some .local ∨ sc.names.lookup x = some .cell ∨ sc.names.lookup x = some .free
noncomputable def Loc (sc : Scope) (x : Str) : Prop := sc.names.lookup x = some .local ∨ sc.names.lookup x = some .cell
noncomputable def Look (env : Env) (h : Heap) (m : Str → Option Value) (x : Str) (u : Value) : Prop :=
  (env.kindOf x = some .local ∧ m x = some u) ∨ ((env.kindOf x = some .cell ∨ env.kindOf x = some .free) ∧ ∃ c, env.cells.lookup x = some c ∧ h.IsCell c (some u))

/-- return sorted(.., key=lambda ..) -/
noncomputable def lamStmt : Stmt → Bool
  | .Return (some (.Call _ _ [⟨_, .Lambda _ _ _ _, _⟩] _)) _ => true
  | .Return (some (.Tuple [_, .Call _ _ [⟨_, .Lambda _ _ _ _, _⟩] _] _ _)) _ => true
  | _ => false
noncomputable def lamBody : FuncBody → Bool
  | .stmts ss => ss.any lamStmt
  | _ => false
/-- the defs of the written part that make a lambda: code record, its table, the lambda's name -/
noncomputable def lamsIn (K : PySem.W.Frag) : List (Addr × Addr × Str) := K.filterMap fun x => match x.2.data with
  | .func fd => if lamBody fd.body = true then (match fd.code with
      | .ref c => (match K.lookup c with
        | some ⟨_, _, .fields vs, _⟩ => (match (vs[11]? : Option Value) with
          | some (.ref P) => if PySem.W.codeHdIn K c P = true then some (c, P, fd.qualname ++ ".<locals>." ++ "<lambda>") else none
          | _ => none)
        | _ => none)
      | _ => none) else none
  | _ => none
structure Frf (K : PySem.W.Frag) (H : Hp) (fs : List Addr) : Prop where
  f : ∀ b ∈ fs, H b = none
  t : ∀ x ∈ lamsIn K, ∃ ps, H x.2.1 = some (.tbl ⟨x.2.2, ps⟩)
structure Cx.Ok (X : Cx) : Prop where
  mod : Mod X.K X.mg X.base
  kind : X.env.scope.kind = .function
  glob : X.env.globals = mainGlobals
  blt : X.env.builtins = builtinsNs
  above : X.s₀.heap.objs.size ≤ X.env.locals
  inj : ∀ x y c, X.env.cells.lookup x = some c → X.env.cells.lookup y = some c → x = y
  has : ∀ x, (X.env.kindOf x = some .cell ∨ X.env.kindOf x = some .free) → ∃ c, X.env.cells.lookup x = some c
  cab : ∀ x c, X.fn x = true → X.env.cells.lookup x = some c → X.s₀.heap.objs.size ≤ c
  hd : X.calm = true → X.A.handled = none
  frames : X.A.frames = some X.stack
  stk : X.stack = X.outer ∨ (X.stack = X.env :: X.outer ∧ X.env.frame = some X.env.locals)
  exf : ∀ b ∈ X.ex, b ≠ X.env.locals ∧ ∀ x c, X.env.cells.lookup x = some c → c ≠ b
  bs : ∀ b o, X.base.get? b = some o → X.s₀.heap.get? b = some o ∧ X.H₀ b = none
  bsz : X.base.objs.size ≤ X.s₀.heap.objs.size
  noex : ∀ b o, X.base.get? b = some o → b ∉ X.ex
  exfs : ∀ b ∈ X.ex, b ∉ X.fs
  funs : X.s₀.heap.FunFrames X.base X.outer
  frf : Frf X.K X.H₀ X.fs

structure Inv (X : Cx) (pins : List (Addr × Obj)) (σ : List (Option V)) (H : Hp) (s : Shared) : Prop where
  ok : X.Ok
  os : s.os = X.s₀.os
  bare : AllBare s.gens
  base : Un X.fs X.ex X.H₀ H X.s₀.heap s.heap
  loc : ∃ m, s.heap.Ns X.env.locals m ∧ ∀ (i : Nat) (x : Str) (v : V), X.N[i]? = some x → σ[i]? = some (some v) → Vis X.env.scope x → ∃ u, RelV v u ∧ Look X.env s.heap m x u
  cell : ∀ x c, X.env.cells.lookup x = some c → ∃ v, s.heap.IsCell c v
  free : H X.env.locals = none
  freeC : ∀ x c, X.env.cells.lookup x = some c → H c = none
  pin : ∀ p ∈ X.pn ++ pins, s.heap.get? p.1 = some p.2 ∧ H p.1 = none ∧ p.1 ≠ X.env.locals ∧ p.1 ∉ X.fs ∧ ∀ v, p.2.data ≠ .cell v
  hok : HOk X.prog X.w H s.heap
  len : σ.length = X.N.length

section
variable {X : Cx} {pins : List (Addr × Obj)} {σ : List (Option V)} {H H' : Hp} {s : Shared} {h' : Heap}

theorem Cx.Ok.nofr (ok : X.Ok) (e : X.base.get? b = some o) : b ∉ X.fs := fun hb => by
  have := (ok.funs.mem hb).1
  rw [e] at this; cases this
theorem Inv.bs (I : Inv X pins σ H s) : ∀ b o, X.base.get? b = some o → s.heap.get? b = some o ∧ H b = none := fun b o e =>
  ⟨I.base.keep b o (I.ok.bs b o e).1 (I.ok.bs b o e).2 (I.ok.nofr e) (I.ok.noex b o e), I.base.free b o (I.ok.bs b o e).1 (I.ok.bs b o e).2 (I.ok.noex b o e)⟩
theorem Inv.bk (I : Inv X pins σ H s) : ∀ b o, X.base.get? b = some o → s.heap.get? b = some o := fun b o e => (I.bs b o e).1
theorem Inv.mod (I : Inv X pins σ H s) : Mod X.K X.mg X.base := I.ok.mod
theorem Inv.kIn (I : Inv X pins σ H s) : X.K.In s.heap := I.ok.mod.kin.keeps I.bk
/-- the frame over the base: for OpenK's rules (K.In X.base is I.mod.kin) -/
theorem Inv.fr (I : Inv X pins σ H s) : ∃ m, Fr X.base X.env.locals s.heap m :=
  let ⟨m, hn, _⟩ := I.loc
  ⟨m, hn, I.bk, Nat.le_trans I.ok.bsz I.ok.above⟩
theorem Inv.lt (I : Inv X pins σ H s) : X.env.locals < s.heap.objs.size := let ⟨_, hn, _⟩ := I.loc; hn.lt
theorem Inv.sz (I : Inv X pins σ H s) : X.s₀.heap.objs.size ≤ s.heap.objs.size := Nat.le_trans I.ok.above (Nat.le_of_lt I.lt)
theorem Inv.nofs (I : Inv X pins σ H s) {a : Addr} (h : s.heap.objs.size ≤ a) : a ∉ X.fs := fun hb => by
  obtain ⟨_, o, ho, _⟩ := I.ok.funs.mem hb
  exact absurd (Nat.lt_of_lt_of_le (Heap.lt_size ho) (Nat.le_trans I.sz h)) (Nat.lt_irrefl _)
theorem Inv.cne (I : Inv X pins σ H s) : ∀ x c, X.env.cells.lookup x = some c → c ≠ X.env.locals := fun x c e z => by
  obtain ⟨v, o, ho, hd⟩ := I.cell x c e
  obtain ⟨m, ⟨o', es, ep, ho', hd', _⟩, _⟩ := I.loc
  rw [z, ho'] at ho; cases ho; rw [hd'] at hd; cases hd
theorem Inv.funs (I : Inv X pins σ H s) : s.heap.FunFrames X.base X.outer := by
  have all : ∀ (l : List Env), (∀ b ∈ frs l, b ∈ X.fs) → X.s₀.heap.FunFrames X.base l → s.heap.FunFrames X.base l := by
    intro l
    induction l with
    | nil => intro _ _; trivial
    | cons env r ih =>
      intro hs hl
      obtain ⟨hk, ⟨L, o, hf, hn, ho, hd⟩, hr⟩ := hl
      have hL : L ∈ X.fs := hs L (by unfold frs; rw [List.filterMap_cons, hf]; exact List.mem_cons_self)
      obtain ⟨sl, e⟩ := I.base.slot L o ho (I.ok.frf.f L hL) hL fun z => I.ok.exfs L z hL
      exact ⟨hk, ⟨L, _, hf, hn, e, hd⟩, ih (fun b hb => hs b (by unfold frs; rw [List.filterMap_cons, hf]; exact List.mem_cons_of_mem _ hb)) hr⟩
  exact all X.outer (fun _ hb => hb) I.ok.funs

/-- the frames that run, for a call -/
theorem Inv.stack (I : Inv X pins σ H s) : s.heap.FunFrames X.base X.stack := by
  rcases I.ok.stk with e | ⟨e, hf⟩
  · rw [e]; exact I.funs
  · rw [e]
    obtain ⟨m, hn, _⟩ := I.loc
    refine .cons (by rw [I.ok.kind]; decide) hf hn ?_ I.funs
    exact Heap.get?_none_of_le (Nat.le_trans I.ok.bsz I.ok.above)
theorem Inv.stkSub (I : Inv X pins σ H s) : ∀ b ∈ frs X.stack, b ∈ X.env.locals :: X.fs := fun b hb => by
  rcases I.ok.stk with e | ⟨e, hf⟩
  · rw [e] at hb; exact List.mem_cons_of_mem _ hb
  · rw [e] at hb
    unfold frs at hb
    rw [List.filterMap_cons, hf] at hb
    exact hb
theorem Inv.stkFree (I : Inv X pins σ H s) : ∀ b ∈ frs X.stack, H b = none := fun b hb => by
  rcases List.mem_cons.mp (I.stkSub b hb) with e | hb
  · rw [e]; exact I.free
  · obtain ⟨_, o, ho, _⟩ := I.ok.funs.mem hb
    exact I.base.free b o ho (I.ok.frf.f b hb) fun z => I.ok.exfs b z hb

/-- THE STEP: the untracked objects but the frame and the records at ch are kept (the callers' frames up to slots), the frame's map is kept, the new abstract heap is held -/
theorem Inv.step {g' : Array GenState} {t' : Nat} {d' : Drawn} {ch : List Addr} (I : Inv X pins σ H s)
    (hch : ∀ b ∈ ch, (b ∈ X.ex ∨ X.s₀.heap.objs.size ≤ b) ∧ b ≠ X.env.locals ∧ (∀ x c, X.env.cells.lookup x = some c → c ≠ b) ∧ ∀ p ∈ X.pn ++ pins, p.1 ≠ b)
    (keep : ∀ b o, b ≠ X.env.locals → b ∉ X.fs → b ∉ ch → s.heap.get? b = some o → H b = none → h'.get? b = some o)
    (slot : ∀ b o, b ≠ X.env.locals → b ∈ X.fs → b ∉ ch → s.heap.get? b = some o → H b = none → ∃ sl, h'.get? b = some { o with slots := sl }) (free : ∀ b o, b ∉ ch → s.heap.get? b = some o → H b = none → H' b = none)
    (there : ∀ b o, b ∉ ch → s.heap.get? b = some o → ∃ o', h'.get? b = some o')
    (tups : ∀ b xs, H b = some (.tup xs) → H' b = some (.tup xs)) (frzs : ∀ b o u, H b = some (.frz o u) → H' b = some (.frz o u)) (tbls : ∀ b ps, H b = some (.tbl ps) → ∃ more : Array Value, H' b = some (.tbl (ps ++ more)))
    (ns : ∀ m, s.heap.Ns X.env.locals m → h'.Ns X.env.locals m) (hok : HOk X.prog X.w H' h') (hg : AllBare g') :
    Inv X pins σ H' { s with heap := h', gens := g', drawn := d', toks := t' } := by
  have neL : ∀ b o, X.s₀.heap.get? b = some o → b ≠ X.env.locals := fun b o e => Nat.ne_of_lt (Nat.lt_of_lt_of_le (Heap.lt_size e) I.ok.above)
  have neC : ∀ b o, X.s₀.heap.get? b = some o → b ∉ X.ex → b ∉ ch := fun b o e hx hb => by
    rcases (hch b hb).1 with z | z
    · exact hx z
    · exact absurd (Nat.lt_of_lt_of_le (Heap.lt_size e) z) (Nat.lt_irrefl _)
  have cellK : ∀ x c, X.env.cells.lookup x = some c → ∀ v, s.heap.IsCell c v → h'.IsCell c v := fun x c e v ⟨o, ho, hd⟩ => by
    have nch : c ∉ ch := fun z => (hch c z).2.2.1 x c e rfl
    by_cases hc : c ∈ X.fs
    · obtain ⟨sl, q⟩ := slot c o (I.cne x c e) hc nch ho (I.freeC x c e)
      exact ⟨_, q, hd⟩
    · exact ⟨o, keep c o (I.cne x c e) hc nch ho (I.freeC x c e), hd⟩
  refine ⟨I.ok, I.os, hg, ⟨fun b o e n hb hx => ?_, fun b o e n hb hx => ?_, fun b o e n hx => ?_, fun b o e hx => ?_, fun b xs e => tups b xs (I.base.tups b xs e), fun b o xs e => frzs b o xs (I.base.frzs b o xs e), fun b ps e => ?_⟩, ?_, fun x c e => ?_, ?_, fun x c e => ?_, fun p hp => ?_, hok, I.len⟩
  · exact keep b o (neL b o e) hb (neC b o e hx) (I.base.keep b o e n hb hx) (I.base.free b o e n hx)
  · obtain ⟨sl, e1⟩ := I.base.slot b o e n hb hx
    obtain ⟨sl', e2⟩ := slot b _ (neL b o e) hb (neC b o e hx) e1 (I.base.free b o e n hx)
    exact ⟨sl', e2⟩
  · obtain ⟨o', e1⟩ := I.base.there b o e hx
    exact free b o' (neC b o e hx) e1 (I.base.free b o e n hx)
  · obtain ⟨o', e1⟩ := I.base.there b o e hx
    exact there b o' (neC b o e hx) e1
  · obtain ⟨m1, e1⟩ := I.base.tbls b ps e
    obtain ⟨m2, e2⟩ := tbls b _ e1
    exact ⟨m1 ++ m2, by rw [e2, TabD.append_assoc]⟩
  · obtain ⟨m, hn, hl⟩ := I.loc
    refine ⟨m, ns m hn, fun i x v e1 e2 e3 => ?_⟩
    obtain ⟨u, r, l⟩ := hl i x v e1 e2 e3
    refine ⟨u, r, ?_⟩
    rcases l with l | ⟨k, c, e, z⟩
    · exact .inl l
    · exact .inr ⟨k, c, e, cellK x c e _ z⟩
  · obtain ⟨v, z⟩ := I.cell x c e
    exact ⟨v, cellK x c e v z⟩
  · obtain ⟨m, ⟨o, _, _, ho, _⟩, _⟩ := I.loc
    exact free _ o (fun z => (hch _ z).2.1 rfl) ho I.free
  · obtain ⟨v, o, ho, hd⟩ := I.cell x c e
    exact free c o (fun z => (hch c z).2.2.1 x c e rfl) ho (I.freeC x c e)
  · obtain ⟨e, n, ne, nf, d⟩ := I.pin p hp
    have nch : p.1 ∉ ch := fun z => (hch p.1 z).2.2.2 p hp rfl
    exact ⟨keep p.1 p.2 ne nf nch e n, free p.1 p.2 nch e n, ne, nf, d⟩
/-- .. where the frame's own object is kept too -/
theorem Inv.un {t' : Nat} (I : Inv X pins σ H s) (u : Un X.fs [] H H' s.heap h') (hok : HOk X.prog X.w H' h') : Inv X pins σ H' { s with heap := h', toks := t' } := by
  obtain ⟨m, ⟨o, es, ep, ho, r⟩, _⟩ := id I.loc
  obtain ⟨sl, hL⟩ := u.any ho I.free (by simp)
  exact I.step (g' := s.gens) (d' := s.drawn) (ch := []) (fun _ z => nomatch z) (fun b o _ hb _ e n => u.keep b o e n hb (by simp)) (fun b o _ hb _ e n => u.slot b o e n hb (by simp)) (fun b o _ e n => u.free b o e n (by simp)) (fun b o _ e => u.there b o e (by simp)) u.tups u.frzs u.tbls (fun m' hm => by
    obtain ⟨o', es', ep', ho', r'⟩ := hm
    rw [ho] at ho'; cases ho'
    exact ⟨_, es', ep', hL, r'⟩) hok I.bare
/-- behind a call (or a comprehension's block): the slots of this frame may have changed too, the records at ch may have turned -/
theorem Inv.call {g' : Array GenState} {t' : Nat} {d' : Drawn} {ch : List Addr} (I : Inv X pins σ H s) (u : Un (frs X.stack) ch H H' s.heap h') (hok : HOk X.prog X.w H' h') (hg : AllBare g')
    (hch : ∀ b ∈ ch, (b ∈ X.ex ∨ X.s₀.heap.objs.size ≤ b) ∧ b ≠ X.env.locals ∧ (∀ x c, X.env.cells.lookup x = some c → c ≠ b) ∧ ∀ p ∈ X.pn ++ pins, p.1 ≠ b) :
    Inv X pins σ H' { s with heap := h', gens := g', drawn := d', toks := t' } := by
  obtain ⟨m, ⟨o, es, ep, ho, r⟩, _⟩ := id I.loc
  obtain ⟨sl, hL⟩ := u.any ho I.free fun z => (hch _ z).2.1 rfl
  exact I.step (ch := ch) hch (fun b o hL hb hc e n => u.keep b o e n (fun z => (List.mem_cons.mp (I.stkSub b z)).elim hL hb) hc) (fun b o _ _ hc e n => u.any e n hc) (fun b o hc e n => u.free b o e n hc) (fun b o hc e => u.there b o e hc) u.tups u.frzs u.tbls (fun m' hm => by
    obtain ⟨o', es', ep', ho', r'⟩ := hm
    rw [ho] at ho'; cases ho'
    exact ⟨_, es', ep', hL, r'⟩) hok hg
/-- an untracked record of ours (an iterator) has turned -/
theorem Inv.turned {t' : Nat} {it : Addr} (I : Inv X pins σ H s) (k : ∀ b o, b ≠ it → s.heap.get? b = some o → h'.get? b = some o) (hn : H it = none) (hL : it ≠ X.env.locals)
    (h1 : it ∈ X.ex ∨ X.s₀.heap.objs.size ≤ it) (h2 : ∀ x c, X.env.cells.lookup x = some c → c ≠ it) (h3 : ∀ p ∈ X.pn ++ pins, p.1 ≠ it) : Inv X pins σ H { s with heap := h', toks := t' } := by
  have nit : ∀ b u, H b = some u → b ≠ it := fun b u e z => by rw [z, hn] at e; cases e
  refine I.step (g' := s.gens) (d' := s.drawn) (ch := [it]) (fun b hb => ?_) (fun b o _ _ hc e _ => k b o (fun z => hc (by simp [z])) e) (fun b o _ _ hc e _ => ⟨o.slots, k b o (fun z => hc (by simp [z])) e⟩) (fun _ _ _ _ n => n)
    (fun b o hc e => ⟨o, k b o (fun z => hc (by simp [z])) e⟩) (fun _ _ e => e) (fun _ _ _ e => e) (fun b ps e => ⟨#[], by rw [e]; simp⟩) (fun m hm => ?_) (fun b u e => ?_) I.bare
  · have e : b = it := by simpa using hb
    subst e
    exact ⟨h1, hL, h2, h3⟩
  · obtain ⟨o, es, ep, ho, r⟩ := hm
    exact ⟨o, es, ep, k _ o (Ne.symm hL) ho, r⟩
  · refine (I.hok b u e).stay (fun c v hc q => k c v ?_ q) (fun _ q => q) fun _ _ q => q
    rcases hc with z | z
    · rw [z]; exact nit b u e
    · exact nit c _ z
theorem Inv.tok (I : Inv X pins σ H s) (t : Nat) : Inv X pins σ H { s with toks := t } := I.un (h' := s.heap) (t' := t) Un.refl I.hok
/-- all objects kept -/
theorem Inv.kept (I : Inv X pins σ H s) (k : ∀ b u, s.heap.get? b = some u → h'.get? b = some u) : Inv X pins σ H { s with heap := h', toks := t' } := I.un (Un.kept k) (I.hok.kept k)
/-- a new object laid and tracked -/
theorem Inv.laid {a : Addr} {o : HO} {t' : Nat} (I : Inv X pins σ H s) (k : ∀ b u, s.heap.get? b = some u → h'.get? b = some u) (hp : s.heap.objs.size ≤ a) (new : ObjOk X.prog X.w (upd H a o) h' a o) :
    Inv X pins σ (upd H a o) { s with heap := h', toks := t' } := I.un (Un.laid k hp (I.hok.fresh hp)) (I.hok.laid k hp new)
/-- an object written -/
theorem Inv.write (I : Inv X pins σ H s) (mu : Mut (H x)) (he : e = x ∨ H e = some (.own x)) (k : ∀ b u, b ≠ e → s.heap.get? b = some u → h'.get? b = some u) (heo : ∃ u, h'.get? e = some u)
    (new : ObjOk X.prog X.w (upd H x o) h' x o) : Inv X pins σ (upd H x o) { s with heap := h', toks := t' } := I.un (Un.write mu he k heo) (I.hok.write mu he k heo new)
/-- forgetting slots, pins -/
theorem Inv.weak (I : Inv X pins σ H s) (hl : σ'.length = σ.length) (w : ∀ (i : Nat) v, σ'[i]? = some (some v) → σ[i]? = some (some v)) : Inv X pins σ' H s :=
  ⟨I.ok, I.os, I.bare, I.base, let ⟨m, hn, hl'⟩ := I.loc; ⟨m, hn, fun i x v e1 e2 e3 => hl' i x v e1 (w i v e2) e3⟩, I.cell, I.free, I.freeC, I.pin, I.hok, hl.trans I.len⟩
theorem Inv.pins_of (I : Inv X pins σ H s) (h : ∀ p ∈ pins', s.heap.get? p.1 = some p.2 ∧ H p.1 = none ∧ p.1 ≠ X.env.locals ∧ p.1 ∉ X.fs ∧ ∀ v, p.2.data ≠ .cell v) : Inv X pins' σ H s :=
  ⟨I.ok, I.os, I.bare, I.base, I.loc, I.cell, I.free, I.freeC, fun p hp => (List.mem_append.mp hp).elim (fun z => I.pin p (List.mem_append_left _ z)) (h p), I.hok, I.len⟩

theorem nodup_ix {N : List Str} (hN : N.Nodup) {i j : Nat} {x : Str} (a : N[i]? = some x) (b : N[j]? = some x) : i = j := by
  obtain ⟨h1, e1⟩ := List.getElem?_eq_some_iff.mp a
  obtain ⟨h2, e2⟩ := List.getElem?_eq_some_iff.mp b
  exact (List.getElem_inj hN).mp (e1.trans e2.symm)

/-- a name is stored; what changed -/
theorem store_ok2 {M : Model} {A : Around} {E : Value → Shared → Prop} {i : Nat} {x : Str} {v : V} {u : Value} {Q : Unit → Shared → Prop} (I : Inv X pins σ H s) (hN : X.N.Nodup) (hi : X.N[i]? = some x) (hx : Loc X.env.scope x) (r : RelV v u)
    (h : ∀ s', Inv X pins (σ.set i (some v)) H s' → (∃ a, Heap.SameBut a s.heap s'.heap ∧ (a = X.env.locals ∨ X.env.cells.lookup x = some a)) → Q () s') (hf : X.fn x = true ∨ X.env.scope.names.lookup x = some .local := by first | exact .inl rfl | exact .inr rfl | assumption) : wpAny M A (storeName X.env x u) Q E s := by
  obtain ⟨m, hn, hl⟩ := id I.loc
  have hcls : (X.env.scope.kind == .class || (X.env.scope.kind == .module && X.env.locals != X.env.globals)) = false := by rw [I.ok.kind]; rfl
  have hiσ : i < σ.length := by rw [I.len]; exact (List.getElem?_eq_some_iff.mp hi).1
  have cne := I.cne
  have tracked : ∀ {a : Addr} {h' : Heap}, (∃ o, s.heap.get? a = some o ∧ H a = none) → Heap.SameBut a s.heap h' → HOk X.prog X.w H h' := fun {a h'} ha hs b ob e => by
    obtain ⟨_, _, hfree⟩ := ha
    refine (I.hok b ob e).stay (fun c w' hc q => (hs.2 c ?_).trans q) (fun _ q => q) fun _ _ q => q
    rintro rfl
    rcases hc with rfl | hc
    · rw [hfree] at e; cases e
    · rw [hfree] at hc; cases hc
  rcases hx with hk | hk
  · refine wpAny_storeName_local hk hn (fun h' hn' hs => ?_) hcls
    obtain ⟨oL, _, _, hoL, _⟩ := id hn
    refine h _ ⟨I.ok, I.os, I.bare, ⟨fun b o e n hb hx => ?_, fun b o e n hb hx => ?_, I.base.free, fun b o e hx => ?_, I.base.tups, I.base.frzs, I.base.tbls⟩, ⟨_, hn', fun j y v' e1 e2 e3 => ?_⟩, fun y c e => ?_, I.free, I.freeC, fun p hp => ?_, tracked ⟨oL, hoL, I.free⟩ hs, by simpa using I.len⟩ ⟨_, hs, .inl rfl⟩
    · exact (hs.2 b (Nat.ne_of_lt (Nat.lt_of_lt_of_le (Heap.lt_size e) I.ok.above))).trans (I.base.keep b o e n hb hx)
    · obtain ⟨sl, e1⟩ := I.base.slot b o e n hb hx
      exact ⟨sl, (hs.2 b (Nat.ne_of_lt (Nat.lt_of_lt_of_le (Heap.lt_size e) I.ok.above))).trans e1⟩
    · obtain ⟨o', e1⟩ := I.base.there b o e hx
      exact ⟨o', (hs.2 b (Nat.ne_of_lt (Nat.lt_of_lt_of_le (Heap.lt_size e) I.ok.above))).trans e1⟩
    · by_cases hj : j = i
      · subst hj
        rw [hi] at e1; cases e1
        rw [List.getElem?_set_self hiσ] at e2
        cases e2
        exact ⟨u, r, .inl ⟨hk, by simp⟩⟩
      · rw [List.getElem?_set_ne (Ne.symm hj)] at e2
        obtain ⟨u', r', q⟩ := hl j y v' e1 e2 e3
        refine ⟨u', r', ?_⟩
        rcases q with ⟨k, e⟩ | ⟨k, c, e, z⟩
        · refine .inl ⟨k, ?_⟩
          have : y ≠ x := fun e => hj (nodup_ix hN e1 (e ▸ hi))
          simp [this, e]
        · exact .inr ⟨k, c, e, z.sameBut hs (cne y c e)⟩
    · obtain ⟨w', z⟩ := I.cell y c e
      exact ⟨w', z.sameBut hs (cne y c e)⟩
    · obtain ⟨e, n, ne, nf, d⟩ := I.pin p hp
      exact ⟨(hs.2 p.1 ne).trans e, n, ne, nf, d⟩
  · have hfn : X.fn x = true := by
      rcases hf with z | z
      · exact z
      · rw [z] at hk; cases hk
    obtain ⟨c, hc⟩ := I.ok.has x (.inl hk)
    obtain ⟨w', z⟩ := I.cell x c hc
    refine wpAny_storeName_cell I.ok.kind hk hc z (fun h' hc' hs => ?_)
    obtain ⟨oc, hoc, hocd⟩ := id z
    refine h { s with heap := h' } ⟨I.ok, I.os, I.bare, ⟨fun b o e n hb hx => ?_, fun b o e n hb hx => ?_, I.base.free, fun b o e hx => ?_, I.base.tups, I.base.frzs, I.base.tbls⟩, ⟨m, hn.sameBut hs (Ne.symm (cne x c hc)), fun j y v' e1 e2 e3 => ?_⟩, fun y c' e => ?_, I.free, I.freeC, fun p hp => ?_, tracked ⟨oc, hoc, I.freeC x c hc⟩ hs, by simpa using I.len⟩ ⟨c, hs, .inr hc⟩
    · exact (hs.2 b (Nat.ne_of_lt (Nat.lt_of_lt_of_le (Heap.lt_size e) (I.ok.cab x c hfn hc)))).trans (I.base.keep b o e n hb hx)
    · obtain ⟨sl, e1⟩ := I.base.slot b o e n hb hx
      exact ⟨sl, (hs.2 b (Nat.ne_of_lt (Nat.lt_of_lt_of_le (Heap.lt_size e) (I.ok.cab x c hfn hc)))).trans e1⟩
    · obtain ⟨o', e1⟩ := I.base.there b o e hx
      exact ⟨o', (hs.2 b (Nat.ne_of_lt (Nat.lt_of_lt_of_le (Heap.lt_size e) (I.ok.cab x c hfn hc)))).trans e1⟩
    · by_cases hj : j = i
      · subst hj
        rw [hi] at e1; cases e1
        rw [List.getElem?_set_self hiσ] at e2
        cases e2
        exact ⟨u, r, .inr ⟨.inl hk, c, hc, hc'⟩⟩
      · rw [List.getElem?_set_ne (Ne.symm hj)] at e2
        obtain ⟨u', r', q⟩ := hl j y v' e1 e2 e3
        refine ⟨u', r', ?_⟩
        rcases q with q | ⟨k, c', e, z'⟩
        · exact .inl q
        · refine .inr ⟨k, c', e, z'.sameBut hs ?_⟩
          rintro rfl
          exact hj (nodup_ix hN e1 (I.ok.inj _ _ _ e hc ▸ hi))
    · by_cases hcc : c' = c
      · subst hcc; exact ⟨_, hc'⟩
      · obtain ⟨w2, z2⟩ := I.cell y c' e
        exact ⟨w2, z2.sameBut hs hcc⟩
    · obtain ⟨e, n, ne, nf, d⟩ := I.pin p hp
      refine ⟨(hs.2 p.1 ?_).trans e, n, ne, nf, d⟩
      intro q
      rw [q, hoc] at e
      have q' : oc = p.2 := Option.some.inj e
      exact d w' (by rw [← q']; exact hocd)
theorem store_ok (I : Inv X pins σ H s) (hN : X.N.Nodup) (hi : X.N[i]? = some x) (hx : Loc X.env.scope x) (r : RelV v u)
    (h : ∀ s', Inv X pins (σ.set i (some v)) H s' → Q () s') (hf : X.fn x = true ∨ X.env.scope.names.lookup x = some .local := by first | exact .inl rfl | exact .inr rfl | assumption) : wpAny M A (storeName X.env x u) Q E s :=
  store_ok2 I hN hi hx r (fun s' I' _ => h s' I') hf
/-- behind a call or a block, the state as it is -/
theorem Inv.call' (I : Inv X pins σ H s) (ho : s'.os = s.os) (u : Un (frs X.stack) ch H H' s.heap s'.heap) (hok : HOk X.prog X.w H' s'.heap) (hg : AllBare s'.gens)
    (hch : ∀ b ∈ ch, (b ∈ X.ex ∨ X.s₀.heap.objs.size ≤ b) ∧ b ≠ X.env.locals ∧ (∀ x c, X.env.cells.lookup x = some c → c ≠ b) ∧ ∀ p ∈ X.pn ++ pins, p.1 ≠ b) : Inv X pins σ H' s' := by
  obtain ⟨h', g', d', t', o'⟩ := s'
  have e : o' = s.os := ho
  subst e
  exact I.call (g' := g') (t' := t') (d' := d') u hok hg hch
end

/-! ### the judgements -/
/-- an exception: its class, its own dict's address (where it has one), the abstract heap behind it -/
noncomputable abbrev XK := Value → Option Addr → Hp → Prop
noncomputable abbrev St := List (Option V)
noncomputable abbrev VK := V → Hp → Prop
/-- an expression's reading; a test's; an argument list's -/
noncomputable abbrev TE := St → Hp → VK → Prop
noncomputable abbrev TT := St → Hp → (Bool → Hp → Prop) → Prop
noncomputable abbrev TA := St → Hp → (List V → Hp → Prop) → Prop
/-- what is wanted behind a statement -/
structure Ends where
  nx : St → Hp → Prop
  rt : VK
  bk : St → Hp → Prop := fun _ _ => False
  ct : St → Hp → Prop := fun _ _ => False
noncomputable abbrev TS := Ends → St → Hp → Prop

noncomputable def EP (X : Cx) (pins : List (Addr × Obj)) (σ : St) (Q : VK) (u : Value) (s' : Shared) : Prop := ∃ v H', Inv X pins σ H' s' ∧ RelV v u ∧ Q v H'
noncomputable def TP (X : Cx) (pins : List (Addr × Obj)) (σ : St) (Q : Bool → Hp → Prop) (b : Bool) (s' : Shared) : Prop := ∃ H', Inv X pins σ H' s' ∧ Q b H'
noncomputable def AP (X : Cx) (pins : List (Addr × Obj)) (σ : St) (Q : List V → Hp → Prop) (us : List Value) (s' : Shared) : Prop := ∃ vs H', Inv X pins σ H' s' ∧ Vals vs us ∧ Q vs H'
noncomputable def SP (X : Cx) (pins : List (Addr × Obj)) (D : Ends) (f : Flow) (s' : Shared) : Prop :=
  match f with
  | .next => ∃ σ' H', Inv X pins σ' H' s' ∧ D.nx σ' H'
  | .brk => ∃ σ' H', Inv X pins σ' H' s' ∧ D.bk σ' H'
  | .cont => ∃ σ' H', Inv X pins σ' H' s' ∧ D.ct σ' H'
  | .ret u => ∃ v σ' H', Inv X pins σ' H' s' ∧ RelV v u ∧ D.rt v H'

noncomputable def PE (X : Cx) (e : Expr) (t : TE) : Prop :=
  ∀ (pins : List (Addr × Obj)) (s : Shared) (σ : St) (H : Hp) (Q : VK), Inv X pins σ H s → t σ H Q → wpAny (model X.prog X.w) X.A (eval e X.env) (EP X pins σ Q) X.xe s
noncomputable def PT (X : Cx) (e : Expr) (t : TT) : Prop :=
  ∀ (pins : List (Addr × Obj)) (s : Shared) (σ : St) (H : Hp) (Q : Bool → Hp → Prop), Inv X pins σ H s → t σ H Q → wpAny (model X.prog X.w) X.A (isTrue e X.env (eval e X.env)) (TP X pins σ Q) X.xe s
/-- a test whatever its 'whole' is (and, or) -/
noncomputable def PW (X : Cx) (e : Expr) (t : TT) : Prop :=
  ∀ (whole : Sem Value) (pins : List (Addr × Obj)) (s : Shared) (σ : St) (H : Hp) (Q : Bool → Hp → Prop), Inv X pins σ H s → t σ H Q → wpAny (model X.prog X.w) X.A (isTrue e X.env whole) (TP X pins σ Q) X.xe s
theorem PW.pt (h : PW X e t) : PT X e t := h _
/-- an argument list (no star), from the left -/
noncomputable def PA (X : Cx) (es : List Expr) (t : TA) : Prop :=
  ∀ (pos : Pos) (pins : List (Addr × Obj)) (s : Shared) (σ : St) (H : Hp) (Q : List V → Hp → Prop), Inv X pins σ H s → t σ H Q → wpAny (model X.prog X.w) X.A (spliced (backTo pos (starEach es X.env))) (AP X pins σ Q) X.xe s
noncomputable def PS (X : Cx) (st : Stmt) (t : TS) : Prop :=
  ∀ (pins : List (Addr × Obj)) (s : Shared) (σ : St) (H : Hp) (D : Ends), Inv X pins σ H s → t D σ H → wpAny (model X.prog X.w) X.A (exec st X.env) (SP X pins D) X.xe s
noncomputable def PSs (X : Cx) (st : List Stmt) (t : TS) : Prop :=
  ∀ (pins : List (Addr × Obj)) (s : Shared) (σ : St) (H : Hp) (D : Ends), Inv X pins σ H s → t D σ H → wpAny (model X.prog X.w) X.A (execs st X.env) (SP X pins D) X.xe s
/-- weaken the end -/
theorem thn {α : Type} {t : Sem α} {Q Q' : α → Shared → Prop} {M : Model} {A : Around} {E : Value → Shared → Prop} {s : Shared} (h : wpAny M A t Q E s) (hQ : ∀ a s, Q a s → Q' a s) : wpAny M A t Q' E s := wpAny_mono h hQ fun _ _ x => x
end L2

namespace L2
open PySem PySem.Spec PyProof.Rows
section
variable {X : Cx}

/-! ### names and constants -/
noncomputable def tVar (i : Nat) : TE := fun σ H Q => ∃ v, σ[i]? = some (some v) ∧ Q v H
noncomputable def tC (v : V) : TE := fun _ H Q => Q v H
theorem pe_var (hN : X.N[i]? = some x) (hv : Vis X.env.scope x) (hd : (x == ("__debug__" : Str)) = false := by decide) (hcd : (x == ("__classdict__" : Str)) = false := by decide) : PE X (.Name x pos) (tVar i) := by
  intro pins s σ H Q I h
  obtain ⟨v, e, h⟩ := h
  obtain ⟨m, hn, hl⟩ := I.loc
  obtain ⟨u, r, l⟩ := hl i x v hN e hv
  have fin : EP X pins σ Q u s := ⟨v, H, I, r, h⟩
  rcases l with ⟨hk, hm⟩ | ⟨hk, c, hc, hcell⟩
  · exact wpAny_Name (wpAny_loadName_local I.ok.kind hk hn hm fin) hd
  · rcases hk with hk | hk
    · exact wpAny_Name (wpAny_loadName_cell I.ok.kind hk hc hcell fin) hd
    · exact wpAny_Name (wpAny_loadName_free I.ok.kind hk hc hcell fin hcd) hd
theorem pe_int : PE X (.Constant (.int i) j pos) (tC (.int i)) := fun _ _ _ H _ I h => wpAny_Constant_int ⟨.int i, H, I.tok _, ⟨_, rfl⟩, h⟩
theorem pe_bl : PE X (.Constant (.bool b) j pos) (tC (.bl b)) := fun _ _ _ H _ I h => Constant_bool ⟨.bl b, H, I, rfl, h⟩
theorem pe_non : PE X (.Constant .none j pos) (tC .non) := fun _ _ _ H _ I h => Constant_none ⟨.non, H, I, rfl, h⟩
theorem pe_str : PE X (.Constant (.str x) j pos) (tC (.str x)) := fun _ _ _ H _ I h => Calls.Constant_str ⟨.str x, H, I.tok _, ⟨_, rfl⟩, h⟩

/-- a global name of the def -/
noncomputable def Gl (X : Cx) (x : Str) : Prop := X.env.kindOf x = some .globalImplicit
theorem ld_glob (I : Inv X pins σ H s) (hg : Gl X x) (hm : X.mg x = some u) (h : Q u s)
    (hd : (x == ("__debug__" : Str)) = false := by decide) : wpAny (model X.prog X.w) X.A (eval (.Name x pos) X.env) Q E s :=
  Calls.Name_function_global I.ok.kind hg (Calls.loadGlobal_global (by rw [I.ok.glob]; exact I.mod.glob.keeps I.bk) hm h) hd
theorem ld_blt (I : Inv X pins σ H s) (hg : Gl X x) (hm : X.mg x = none) (hv : bootBuiltins x = some u) (h : Q u s)
    (hn : x ≠ "__name__" := by decide) (hd : (x == ("__debug__" : Str)) = false := by decide) : wpAny (model X.prog X.w) X.A (eval (.Name x pos) X.env) Q E s := by
  obtain ⟨mb, h1, h2⟩ := I.mod.blt
  exact Calls.Name_function_global I.ok.kind hg (Calls.loadGlobal_builtin (by rw [I.ok.glob]; exact I.mod.glob.keeps I.bk) hm (by rw [I.ok.blt]; exact h1.keeps I.bk) ((h2 x hn).trans hv) h) hd
/-- a module's constant, a class, a function, as a value -/
theorem pe_glob (hg : Gl X x) (hm : X.mg x = some u) (r : RelV v u) (hd : (x == ("__debug__" : Str)) = false := by decide) : PE X (.Name x pos) (tC v) :=
  fun _ _ _ H _ I h => ld_glob I hg hm ⟨v, H, I, r, h⟩ hd
theorem pe_bltn (hg : Gl X x) (hm : X.mg x = none) (hv : bootBuiltins x = some u) (r : RelV v u) (hn : x ≠ "__name__" := by decide) (hd : (x == ("__debug__" : Str)) = false := by decide) : PE X (.Name x pos) (tC v) :=
  fun _ _ _ H _ I h => ld_blt I hg hm hv ⟨v, H, I, r, h⟩ hn hd

/-! ### arithmetic -/
variable {a b : Expr} {ta tb : TE} {pos : Pos}
/-! ### comparisons -/
/-- a comparison as a value, as a test -/
noncomputable def tB (t : TE) : TT := fun σ H Q => t σ H fun x H1 => ∃ c, x = .bl c ∧ Q c H1
/-- an expression whose value is a bool, as a test -/
theorem pt_val (h : PE X e t) (he : ∀ whole, isTrue e X.env whole = (do let v ← whole; standAt e.pos; holding [v] (truthy v)) := by intro _; rfl) : PT X e (tB t) := by
  intro pins s σ H Q I hw
  refine isTrue_plain (thn (h pins s σ H _ I hw) fun v s1 ⟨x, H1, I1, r1, q1⟩ => ?_) (he _)
  obtain ⟨d, rfl, q⟩ := q1
  cases r1
  exact wpAny_truthy_bool ⟨H1, I1, q⟩

/-! ### and, or, not -/
variable {tA tB' : TT} {rest : List Expr}
noncomputable def tAnd (t u : TT) : TT := fun σ H Q => t σ H fun c H1 => if c = true then u σ H1 Q else Q false H1
noncomputable def tOr (t u : TT) : TT := fun σ H Q => t σ H fun c H1 => if c = true then Q true H1 else u σ H1 Q
noncomputable def tNot (t : TT) : TT := fun σ H Q => t σ H fun c H1 => Q (!c) H1
theorem pw_and1 (ha : PT X a tA) : PW X (.BoolOp .And [a] pos) tA := by
  intro wh pins s σ H Q I h
  refine isTrue_and (thn (ha pins s σ H Q I h) fun c s1 e => ?_)
  cases c with
  | true => exact isTrue_and_nil e
  | false => exact e
theorem pw_or1 (ha : PT X a tA) : PW X (.BoolOp .Or [a] pos) tA := by
  intro wh pins s σ H Q I h
  refine isTrue_or (thn (ha pins s σ H Q I h) fun c s1 e => ?_)
  cases c with
  | false => exact isTrue_or_nil e
  | true => exact e
theorem pw_and (ha : PT X a tA) (hb : PW X (.BoolOp .And (b :: rest) pos) tB') : PW X (.BoolOp .And (a :: b :: rest) pos) (tAnd tA tB') := by
  intro wh pins s σ H Q I h
  refine isTrue_and (thn (ha pins s σ H _ I h) fun c s1 ⟨H1, I1, q1⟩ => ?_)
  cases c with
  | true => exact hb wh pins s1 σ H1 Q I1 q1
  | false => exact ⟨H1, I1, q1⟩
theorem pw_or (ha : PT X a tA) (hb : PW X (.BoolOp .Or (b :: rest) pos) tB') : PW X (.BoolOp .Or (a :: b :: rest) pos) (tOr tA tB') := by
  intro wh pins s σ H Q I h
  refine isTrue_or (thn (ha pins s σ H _ I h) fun c s1 ⟨H1, I1, q1⟩ => ?_)
  cases c with
  | true => exact ⟨H1, I1, q1⟩
  | false => exact hb wh pins s1 σ H1 Q I1 q1
theorem pt_not (ha : PT X a tA) : PT X (.UnaryOp .Not a pos) (tNot tA) := by
  intro pins s σ H Q I h
  exact isTrue_not (ha pins s σ H (fun c H1 => Q (!c) H1) I h)
/-- .. as values (bools) -/
noncomputable def tAndV (ta tb : TE) : TE := fun σ H Q => ta σ H fun x H1 => ∃ c, x = .bl c ∧ if c = true then tb σ H1 Q else Q (.bl false) H1
noncomputable def tNotV (ta : TE) : TE := fun σ H Q => ta σ H fun x H1 => ∃ c, x = .bl c ∧ Q (.bl (!c)) H1
theorem pe_one (h : PE X a t) : PE X (.BoolOp op [a] pos) t := fun pins s σ H Q I hw => BoolOp_one (h pins s σ H Q I hw)
theorem pe_and (ha : PE X a ta) (hb : PE X (.BoolOp .And (b :: rest) pos) tb) : PE X (.BoolOp .And (a :: b :: rest) pos) (tAndV ta tb) := by
  intro pins s σ H Q I h
  refine BoolOp_and (thn (ha pins s σ H _ I h) fun v s1 ⟨x, H1, I1, r1, q1⟩ => ?_)
  obtain ⟨c, rfl, q1⟩ := q1
  cases r1
  refine wpAny_truthy_bool ?_
  cases c with
  | true => exact hb pins s1 σ H1 Q I1 q1
  | false => exact ⟨.bl false, H1, I1, rfl, q1⟩
theorem pe_not (ha : PE X a ta) : PE X (.UnaryOp .Not a pos) (tNotV ta) := by
  intro pins s σ H Q I h
  refine UnaryOp_ (thn (ha pins s σ H _ I h) fun v s1 ⟨x, H1, I1, r1, q1⟩ => ?_)
  obtain ⟨c, rfl, q1⟩ := q1
  cases r1
  exact not_of (wpAny_truthy_bool ⟨.bl (!c), H1, I1, rfl, q1⟩)
/-- a if t else b -/
noncomputable def tIf (t : TT) (ta tb : TE) : TE := fun σ H Q => t σ H fun c H1 => if c = true then ta σ H1 Q else tb σ H1 Q
theorem pe_ifExp (hc : PT X c tA) (ha : PE X a ta) (hb : PE X b tb) : PE X (.IfExp c a b pos) (tIf tA ta tb) := by
  intro pins s σ H Q I h
  refine wpAny_IfExp (thn (hc pins s σ H _ I h) fun d s1 ⟨H1, I1, q1⟩ => ?_)
  cases d with
  | true => exact ha pins s1 σ H1 Q I1 q1
  | false => exact hb pins s1 σ H1 Q I1 q1
end
end L2

namespace L2
open PySem PySem.Spec PyProof.Rows

/-! ### a list, a tuple that is read: tracked, frozen, or an object of the module -/
noncomputable def SqL (K : PySem.W.Frag) (H : Hp) (a : Addr) (xs : List V) : Prop :=
  Rd H a (.lst xs) ∨
    ∃ (o : Obj) (its : Array Value) (n : Nat), K.lookup a = some o ∧ o.cls = .type "list" ∧ o.dict = none ∧ o.data = .seq its n ∧ its.size ≤ sizeLine ∧ Vals xs its.toList
noncomputable def SqT (K : PySem.W.Frag) (H : Hp) (a : Addr) (xs : List V) : Prop :=
  Rd H a (.tup xs) ∨
    ∃ (o : Obj) (its : Array Value) (n : Nat), K.lookup a = some o ∧ o.cls = .type "tuple" ∧ o.data = .seq its n ∧ its.size ≤ sizeLine ∧ Vals xs its.toList
noncomputable def absV : Value → Option V
  | .none => some .non
  | .bool b => some (.bl b)
  | .int i _ => some (.int i)
  | .str x _ => some (.str x)
  | .bytes b _ => some (.byt b)
  | .float b _ => some (.flt b)
  | .ref a => some (.ref a)
  | .type n => some (.ty n)
  | _ => none
theorem RelV.abs (r : RelV x u) : absV u = some x := by
  cases x with
  | non => cases r; rfl
  | bl _ => cases r; rfl
  | int _ => obtain ⟨t, rfl⟩ := r; rfl
  | str _ => obtain ⟨t, rfl⟩ := r; rfl
  | byt _ => obtain ⟨t, rfl⟩ := r; rfl
  | flt _ => obtain ⟨t, rfl⟩ := r; rfl
  | ref _ => cases r; rfl
  | ty _ => cases r; rfl
theorem RelV.inj (r : RelV x u) (q : RelV y u) : x = y := Option.some.inj (r.abs.symm.trans q.abs)
theorem Vals.inj : ∀ {xs ys : List V} {us : List Value}, Vals xs us → Vals ys us → xs = ys
  | _, _, _, .nil, .nil => rfl
  | _, _, _, .cons r t, .cons r' t' => by rw [r.inj r', Vals.inj t t']
section
variable {X : Cx} {pins : List (Addr × Obj)} {σ : St} {H : Hp} {s : Shared} {a : Addr} {xs ys : List V}
theorem SqL.of {K : PySem.W.Frag} (h : H a = some (.lst xs)) : SqL K H a xs := .inl (.inl h)
theorem SqT.of {K : PySem.W.Frag} (h : H a = some (.tup xs)) : SqT K H a xs := .inl (.inl h)
theorem Inv.list (I : Inv X pins σ H s) (h : SqL X.K H a xs) : ∃ its : List Value, Vals xs its ∧ PlainL s.heap a its.toArray ∧ xs.length ≤ sizeLine := by
  rcases h with h | ⟨o, its, n, hk, hc, hd, hs, hz, r⟩
  · obtain ⟨z, its, n, r, e⟩ := h.ok I.hok
    exact ⟨its, r, ⟨_, n, e, rfl, rfl, rfl⟩, z⟩
  · refine ⟨its.toList, r, ⟨o, n, I.kIn a o hk, hc, hd, by simpa using hs⟩, ?_⟩
    have e := r.length
    simp only [Array.length_toList] at e
    omega
theorem Inv.tuple (I : Inv X pins σ H s) (h : SqT X.K H a xs) : ∃ its : List Value, Vals xs its ∧ IsTup s.heap a its.toArray ∧ xs.length ≤ sizeLine := by
  rcases h with h | ⟨o, its, n, hk, hc, hs, hz, r⟩
  · obtain ⟨z, its, r, p⟩ := h.ok I.hok
    exact ⟨its, r, p, z⟩
  · refine ⟨its.toList, r, ⟨o, I.kIn a o hk, hc, n, by simpa using hs⟩, ?_⟩
    have e := r.length
    simp only [Array.length_toList] at e
    omega
theorem Inv.list_inj (I : Inv X pins σ H s) (h : SqL X.K H a xs) (h' : SqL X.K H a ys) : xs = ys := by
  obtain ⟨its, r, ⟨o, n, e, _, _, d⟩, _⟩ := I.list h
  obtain ⟨its', r', ⟨o', n', e', _, _, d'⟩, _⟩ := I.list h'
  rw [e] at e'; cases e'
  rw [d] at d'
  injection d' with d1 _
  have : its = its' := by simpa using congrArg Array.toList d1
  subst this
  exact r.inj r'
end

/-! ### another wish about exceptions -/
noncomputable abbrev Cx.wish (X : Cx) (E : Value → Shared → Prop) : Cx := { X with xe := E }
/-- no exception leaves -/
noncomputable abbrev Cx.nox (X : Cx) : Cx := X.wish fun _ _ => False
theorem Cx.Ok.wish {X : Cx} (ok : X.Ok) (E : Value → Shared → Prop) : (X.wish E).Ok :=
  ⟨ok.mod, ok.kind, ok.glob, ok.blt, ok.above, ok.inj, ok.has, ok.cab, ok.hd, ok.frames, ok.stk, ok.exf, ok.bs, ok.bsz, ok.noex, ok.exfs, ok.funs, ok.frf⟩
theorem Cx.Ok.unwish {X : Cx} {E : Value → Shared → Prop} (ok : (X.wish E).Ok) : X.Ok :=
  ⟨ok.mod, ok.kind, ok.glob, ok.blt, ok.above, ok.inj, ok.has, ok.cab, ok.hd, ok.frames, ok.stk, ok.exf, ok.bs, ok.bsz, ok.noex, ok.exfs, ok.funs, ok.frf⟩
section
variable {X : Cx} {pins : List (Addr × Obj)} {σ : St} {H : Hp} {s : Shared} {E : Value → Shared → Prop}
theorem Inv.wish (I : Inv X pins σ H s) (E : Value → Shared → Prop) : Inv (X.wish E) pins σ H s := ⟨I.ok.wish E, I.os, I.bare, I.base, I.loc, I.cell, I.free, I.freeC, I.pin, I.hok, I.len⟩
theorem Inv.unwish (I : Inv (X.wish E) pins σ H s) : Inv X pins σ H s := ⟨I.ok.unwish, I.os, I.bare, I.base, I.loc, I.cell, I.free, I.freeC, I.pin, I.hok, I.len⟩
theorem SP.unwish (h : SP (X.wish E) pins D f s') : SP X pins D f s' := by
  cases f with
  | next => obtain ⟨σ', H', I, q⟩ := h; exact ⟨σ', H', I.unwish, q⟩
  | brk => obtain ⟨σ', H', I, q⟩ := h; exact ⟨σ', H', I.unwish, q⟩
  | cont => obtain ⟨σ', H', I, q⟩ := h; exact ⟨σ', H', I.unwish, q⟩
  | ret u => obtain ⟨v, σ', H', I, r, q⟩ := h; exact ⟨v, σ', H', I.unwish, r, q⟩
theorem PSs.nox {st : List Stmt} {t : TS} (h : PSs X.nox st t) : PSs X st t := fun pins s σ H D I hw =>
  wpAny_mono (h pins s σ H D (I.wish _) hw) (fun _ _ q => q.unwish) fun _ _ z => False.elim z
end

/-! ### blocks and small statements -/
section
variable {X : Cx} {st : Stmt} {rest : List Stmt} {t u : TS} {e : Expr} {te : TE} {pos : Pos}
noncomputable def tNext : TS := fun D σ H => D.nx σ H
noncomputable def tSeq (t u : TS) : TS := fun D σ H => t { D with nx := u D } σ H
theorem pss_nil : PSs X [] tNext := fun _ _ σ H _ I h => wpAny_execs_nil ⟨σ, H, I, h⟩
theorem pss_cons (h1 : PS X st t) (h2 : PSs X rest u) : PSs X (st :: rest) (tSeq t u) := by
  intro pins s σ H D I h
  refine wpAny_execs_cons (thn (h1 pins s σ H { D with nx := u D } I h) fun f s1 q => ?_)
  cases f with
  | next =>
    obtain ⟨σ', H', I', q⟩ := q
    exact h2 pins s1 σ' H' D I' q
  | ret v => exact q
  | brk => exact q
  | cont => exact q
theorem pss_one (h1 : PS X st t) : PSs X [st] t := by
  intro pins s σ H D I h
  refine wpAny_execs_cons (thn (h1 pins s σ H D I h) fun f s1 q => ?_)
  cases f with
  | next => exact wpAny_execs_nil q
  | ret v => exact q
  | brk => exact q
  | cont => exact q
/-- in a def's body nothing is shown -/
theorem Inv.quiet (I : Inv X pins σ H s) : interactive X.env = false := by simp [interactive, I.ok.kind]
/-- an expression whose value is dropped -/
noncomputable def tDrop (te : TE) : TS := fun D σ H => te σ H fun _ H1 => D.nx σ H1
theorem ps_expr (he : PE X e te) (hs : swapsWith e none pos.line X.env = pure false := by rfl) : PS X (.Expr e pos) (tDrop te) := by
  intro pins s σ H D I h
  exact wpAny_Expr_any (thn (he pins s σ H _ I h) fun v s1 ⟨x, H1, I1, r1, q1⟩ => ⟨σ, H1, I1, q1⟩) I.quiet hs
noncomputable def tRet (te : TE) : TS := fun D σ H => te σ H D.rt
theorem ps_ret (he : PE X e te) : PS X (.Return (some e) pos) (tRet te) := by
  intro pins s σ H D I h
  exact wpAny_Return_some (thn (he pins s σ H _ I h) fun v s1 ⟨x, H1, I1, r1, q1⟩ => ⟨x, σ, H1, I1, r1, q1⟩)
noncomputable def tIfS (c : TT) (t u : TS) : TS := fun D σ H => c σ H fun b H1 => if b = true then t D σ H1 else u D σ H1
theorem ps_if (hc : PT X c tc) (ha : PSs X a t) (hb : PSs X b u) : PS X (.If c a b pos) (tIfS tc t u) := by
  intro pins s σ H D I h
  refine wpAny_If (thn (hc pins s σ H _ I h) fun d s1 ⟨H1, I1, q1⟩ => ?_)
  cases d with
  | true => exact ha pins s1 σ H1 D I1 q1
  | false => exact hb pins s1 σ H1 D I1 q1
/-- code that the proof never comes to -/
noncomputable def tNever : TS := fun _ _ _ => False
theorem ps_never : PS X st tNever := fun _ _ _ _ _ _ h => h.elim
end

/-! ### targets -/
noncomputable abbrev TG := V → St → Hp → (St → Hp → Prop) → Prop
noncomputable abbrev TGs := List V → St → Hp → (St → Hp → Prop) → Prop
noncomputable def PG (X : Cx) (target : Expr) (t : TG) : Prop :=
  ∀ (pins : List (Addr × Obj)) (s : Shared) (σ : St) (H : Hp) (v : V) (u : Value) (Q : St → Hp → Prop), Inv X pins σ H s → RelV v u → t v σ H Q →
    wpAny (model X.prog X.w) X.A (assign target X.env u) (fun _ s' => ∃ σ' H', Inv X pins σ' H' s' ∧ Q σ' H') X.xe s
/-- several targets, one after another -/
noncomputable def PGs (X : Cx) (ts : List Expr) (t : TGs) : Prop :=
  ∀ (pins : List (Addr × Obj)) (s : Shared) (σ : St) (H : Hp) (vs : List V) (us : List Value) (Q : St → Hp → Prop), Inv X pins σ H s → Vals vs us → t vs σ H Q →
    wpAny (model X.prog X.w) X.A (assignInOrder ((assignEach ts X.env).map (·.2)) us) (fun _ s' => ∃ σ' H', Inv X pins σ' H' s' ∧ Q σ' H') X.xe s
/-- o[i] = v, by values -/
noncomputable abbrev TSet := V → V → V → Hp → (Hp → Prop) → Prop
noncomputable def PSet (X : Cx) (t : TSet) : Prop :=
  ∀ (pins : List (Addr × Obj)) (s : Shared) (σ : St) (H : Hp) (o i v : V) (ov iv u : Value) (Q : Hp → Prop), Inv X pins σ H s → RelV o ov → RelV i iv → RelV v u → t o i v H Q →
    wpAny (model X.prog X.w) X.A (setItem ov iv u) (fun _ s' => ∃ H', Inv X pins σ H' s' ∧ Q H') X.xe s
/-- a op= b, by values -/
noncomputable abbrev TIp := V → V → Hp → VK → Prop
noncomputable def PIp (X : Cx) (op : Operator) (t : TIp) : Prop :=
  ∀ (pins : List (Addr × Obj)) (s : Shared) (σ : St) (H : Hp) (x y : V) (v u : Value) (Q : VK), Inv X pins σ H s → RelV x v → RelV y u → t x y H Q →
    wpAny (model X.prog X.w) X.A (inplaceOp op v u) (EP X pins σ Q) X.xe s
section
variable {X : Cx} {pos : Pos}
noncomputable def gName (i : Nat) : TG := fun v σ H Q => Q (σ.set i (some v)) H
theorem pg_name (hN : X.N.Nodup) (hi : X.N[i]? = some x) (hx : Loc X.env.scope x) (hf : X.fn x = true ∨ X.env.scope.names.lookup x = some .local := by first | exact .inl rfl | exact .inr rfl | assumption) : PG X (.Name x pos) (gName i) := by
  intro pins s σ H v u Q I r h
  exact wpAny_assign_Name (store_ok I hN hi hx r (fun s' I' => ⟨_, H, I', h⟩) hf)
noncomputable def gNil : TGs := fun vs σ H Q => vs = [] ∧ Q σ H
noncomputable def gCons (t : TG) (u : TGs) : TGs := fun vs σ H Q => ∃ v r, vs = v :: r ∧ t v σ H fun σ' H' => u r σ' H' Q
theorem pgs_nil : PGs X [] gNil := by
  intro pins s σ H vs us Q I r h
  obtain ⟨e, h⟩ := h
  subst e
  cases r
  exact assignInOrder_nil ⟨σ, H, I, h⟩
theorem pgs_cons (h1 : PG X e t) (h2 : PGs X es u)
    (hs : (assignEach (e :: es) X.env).map (·.2) = assign e X.env :: (assignEach es X.env).map (·.2) := by rfl) : PGs X (e :: es) (gCons t u) := by
  intro pins s σ H vs us Q I r h
  obtain ⟨v, vr, e1, h⟩ := h
  subst e1
  cases r with
  | cons r rr =>
    rw [hs]
    refine assignInOrder_cons (thn (h1 pins s σ H _ _ _ I r h) fun _ s1 ⟨σ1, H1, I1, q1⟩ => ?_)
    exact h2 pins s1 σ1 H1 _ _ Q I1 rr q1
/-- (a, b, ..) = a tuple of that length -/
noncomputable def gTup (K : PySem.W.Frag) (n : Nat) (t : TGs) : TG := fun v σ H Q => ∃ a xs, v = .ref a ∧ SqT K H a xs ∧ xs.length = n ∧ t xs σ H Q
theorem pg_tup (hc : X.calm = true) (h : PGs X es t)
    (hn : (assignEach es X.env).length = n := by rfl) (hst : (assignEach es X.env).findIdx? (·.1) = none := by rfl) : PG X (.Tuple es k pos) (gTup X.K n t) := by
  intro pins s σ H v u Q I r hw
  obtain ⟨a, xs, e1, hq, hl, hw⟩ := hw
  subst e1
  cases r
  obtain ⟨its, rv, ht, hz⟩ := I.tuple hq
  refine assign_Tuple_tuple (I.ok.hd hc) ht (by simp [hn, ← hl, rv.length]) hst fun h' hx => ?_
  have I1 : Inv X pins σ H { s with heap := h' } := I.kept (t' := s.toks) fun b o e => hx b o (Nat.ne_of_lt (Heap.lt_size e)) e
  exact h pins _ σ H xs _ Q I1 (by simpa using rv) hw
/-- target = value -/
noncomputable def tAsg (te : TE) (g : TG) : TS := fun D σ H => te σ H fun x H1 => g x σ H1 D.nx
theorem ps_asg (he : PE X e te) (hg : PG X tg g) (hs : swapsWithSole [tg] e pos.line X.env = pure false := by rfl) (hw : swappedStores [tg] e X.env = pure none := by rfl)
    (h1 : (assignEach [tg] X.env).map (·.2) = [assign tg X.env] := by rfl) : PS X (.Assign [tg] e pos) (tAsg te g) := by
  intro pins s σ H D I h
  refine wpAny_Assign_stores (thn (he pins s σ H _ I h) fun v s1 ⟨x, H1, I1, r1, q1⟩ => ?_) hs hw
  rw [h1]
  exact thn (hg pins s1 σ H1 x v _ I1 r1 q1) fun _ s2 q => q
/-- name = value -/
theorem ps_set (hN : X.N.Nodup) (hi : X.N[i]? = some x) (hx : Loc X.env.scope x) (he : PE X e te) (hs : swapsWith e (some (.Name x pos')) pos.line X.env = pure false := by rfl) (hf : X.fn x = true ∨ X.env.scope.names.lookup x = some .local := by first | exact .inl rfl | exact .inr rfl | assumption) :
    PS X (.Assign [.Name x pos'] e pos) (tAsg te (gName i)) := by
  intro pins s σ H D I h
  refine wpAny_Assign_Name (thn (he pins s σ H _ I h) fun v s1 ⟨y, H1, I1, r1, q1⟩ => ?_) hs
  exact store_ok I1 hN hi hx r1 (fun s2 I2 => ⟨_, H1, I2, q1⟩) hf
/-- name op= e -/
noncomputable def tAug (i : Nat) (te : TE) (ti : TIp) : TS := fun D σ H => ∃ x, σ[i]? = some (some x) ∧ te σ H fun y H1 => ti x y H1 fun z H2 => D.nx (σ.set i (some z)) H2
theorem ps_aug (hN : X.N.Nodup) (hi : X.N[i]? = some x) (hx : Loc X.env.scope x) (he : PE X e te) (ho : PIp X op ti) (hf : X.fn x = true ∨ X.env.scope.names.lookup x = some .local := by first | exact .inl rfl | exact .inr rfl | assumption) :
    PS X (.AugAssign (.Name x pos') op e pos) (tAug i te ti) := by
  intro pins s σ H D I h
  obtain ⟨v, e1, h⟩ := h
  obtain ⟨m, hn, hl⟩ := I.loc
  have vis : Vis X.env.scope x := by rcases hx with k | k; exact .inl k; exact .inr (.inl k)
  obtain ⟨u, r, l⟩ := hl i x v hi e1 vis
  refine wpAny_AugAssign_Name ?_
  have go : wpAny (model X.prog X.w) X.A (eval e X.env) (fun w s₂ => wpAny (model X.prog X.w) X.A (inplaceOp op u w) (fun r s₃ => wpAny (model X.prog X.w) X.A (storeName X.env x r) (fun _ => SP X pins D .next) X.xe s₃) X.xe s₂) X.xe s := by
    refine thn (he pins s σ H _ I h) fun w s1 ⟨y, H1, I1, r1, q1⟩ => ?_
    refine thn (ho pins s1 σ H1 v y u w _ I1 r r1 q1) fun z s2 ⟨zv, H2, I2, r2, q2⟩ => ?_
    exact store_ok I2 hN hi hx r2 (fun s3 I3 => ⟨_, H2, I3, q2⟩) hf
  rcases l with ⟨hk, hm⟩ | ⟨hk, c, hc, hcell⟩
  · exact wpAny_loadName_local I.ok.kind hk hn hm go
  · rcases hk with hk | hk
    · exact wpAny_loadName_cell I.ok.kind hk hc hcell go
    · rcases hx with k | k
      · have : X.env.scope.names.lookup x = some .free := hk
        rw [k] at this; cases this
      · have : X.env.scope.names.lookup x = some .free := hk
        rw [k] at this; cases this
/-- o[i] op= e -/
noncomputable def tAugS (to ti te : TE) (tget : V → V → Hp → VK → Prop) (tip : TIp) (tset : TSet) : TS := fun D σ H => to σ H fun o H1 => ti σ H1 fun i H2 => tget o i H2 fun x H3 => te σ H3 fun y H4 => tip x y H4 fun z H5 => tset o i z H5 fun H6 => D.nx σ H6
/-- o[i], by values -/
noncomputable def PGet (X : Cx) (t : V → V → Hp → VK → Prop) : Prop :=
  ∀ (pins : List (Addr × Obj)) (s : Shared) (σ : St) (H : Hp) (o i : V) (ov iv : Value) (Q : VK), Inv X pins σ H s → RelV o ov → RelV i iv → t o i H Q →
    wpAny (model X.prog X.w) X.A (getItem ov iv) (EP X pins σ Q) X.xe s
theorem ps_augS (ho : PE X o to) (hi : PE X i ti) (hg : PGet X tget) (he : PE X e te) (hp : PIp X op tip) (hs : PSet X tset)
    (ha : ∀ ov iv new, augStore i ov iv new = (do holding [new, ov, iv] (setItem ov iv new); release [new, ov, iv] []; pure .next) := by intros; rfl) : PS X (.AugAssign (.Subscript o i tpos) op e pos) (tAugS to ti te tget tip tset) := by
  intro pins s σ H D I h
  refine wpAny_AugAssign_SubscriptAny (thn (ho pins s σ H _ I h) fun ov s1 ⟨x1, H1, I1, r1, q1⟩ => ?_) ha
  refine thn (hi pins s1 σ H1 _ I1 q1) fun iv s2 ⟨x2, H2, I2, r2, q2⟩ => ?_
  refine thn (hg pins s2 σ H2 x1 x2 ov iv _ I2 r1 r2 q2) fun old s3 ⟨x3, H3, I3, r3, q3⟩ => ?_
  refine thn (he pins s3 σ H3 _ I3 q3) fun v s4 ⟨x4, H4, I4, r4, q4⟩ => ?_
  refine thn (hp pins s4 σ H4 x3 x4 old v _ I4 r3 r4 q4) fun new s5 ⟨x5, H5, I5, r5, q5⟩ => ?_
  exact thn (hs pins s5 σ H5 x1 x2 x5 ov iv new _ I5 r1 r2 r5 q5) fun _ s6 ⟨H6, I6, q6⟩ => ⟨σ, H6, I6, q6⟩
/-- ints -/
noncomputable def ipI (f : Int → Int → Int) : TIp := fun x y H Q => ∃ i j, x = .int i ∧ y = .int j ∧ Q (.int (f i j)) H
theorem ip_add : PIp X .Add (ipI fun i j => i + j) := by
  intro pins s σ H x y v u Q I r1 r2 h
  obtain ⟨i, j, e1, e2, q⟩ := h
  subst e1; subst e2
  obtain ⟨t, rfl⟩ := r1
  obtain ⟨t', rfl⟩ := r2
  exact iadd_int ⟨.int _, H, I.tok _, ⟨_, rfl⟩, q⟩
end

/-! ### while -/
section
variable {X : Cx} {pos : Pos}
/-- the invariant W with its measure -/
noncomputable def tWhile (c : TT) (tb : TS) : TS := fun D σ H => ∃ W : Nat → St → Hp → Prop, (∃ m, W m σ H) ∧ ∀ m σ H, W m σ H →
  c σ H fun b H1 => if b = true then ∃ N : St → Hp → Prop, (∀ σ' H', N σ' H' → ∃ m', m' < m ∧ W m' σ' H') ∧ tb { D with nx := N, ct := N, bk := D.nx } σ H1 else D.nx σ H1
theorem ps_while (hp : PassesOwn (model X.prog X.w) X.A X.env X.xe) (hc : PT X c tc) (hb : PSs X body tb) : PS X (.While c body [] pos) (tWhile tc tb) := by
  intro pins s σ H D I h
  obtain ⟨W, ⟨m0, w0⟩, turn⟩ := h
  refine wpAny_While (codeAny_whileLoop (fun n s' => ∃ σ' H', Inv X pins σ' H' s' ∧ W n σ' H') ?_ m0 ⟨σ, H, I, w0⟩)
  rintro n s1 ⟨σ1, H1, I1, w1⟩
  refine wpAny_passesOwn hp (thn (hc pins s1 σ1 H1 _ I1 (turn n σ1 H1 w1)) fun b s2 ⟨H2, I2, q2⟩ => ?_)
  cases b with
  | true =>
    obtain ⟨N, hN, q2⟩ := q2
    rw [if_pos rfl]
    refine wpAny_passesOwn hp (thn (hb pins s2 σ1 H2 _ I2 q2) fun f s3 q3 => ?_)
    cases f with
    | next =>
      obtain ⟨σ3, H3, I3, n3⟩ := q3
      obtain ⟨m', hm, w3⟩ := hN σ3 H3 n3
      exact ⟨m', hm, σ3, H3, I3, w3⟩
    | cont =>
      obtain ⟨σ3, H3, I3, n3⟩ := q3
      obtain ⟨m', hm, w3⟩ := hN σ3 H3 n3
      exact ⟨m', hm, σ3, H3, I3, w3⟩
    | brk => exact q3
    | ret v => exact q3
  | false =>
    rw [if_neg Bool.false_ne_true]
    exact wpAny_execs_nil ⟨σ1, H2, I2, q2⟩
end

/-! ### what a loop or a comprehension walks -/
/-- at turn i: it yields x (the heap may grow), or it stops -/
structure It where
  go : Nat → Hp → Prop
  yld : Nat → Hp → V → Hp → Prop
  stop : Nat → Hp → Prop
/-- the iterator's own objects may turn: they are not the frame's, not pinned, younger than the entry (or a comprehension's own) -/
noncomputable def FpOk (X : Cx) (pins : List (Addr × Obj)) (H : Hp) (b : Addr) : Prop :=
  H b = none ∧ b ≠ X.env.locals ∧ b ∉ X.fs ∧ (b ∈ X.ex ∨ X.s₀.heap.objs.size ≤ b) ∧ (∀ x c, X.env.cells.lookup x = some c → c ≠ b) ∧ ∀ p ∈ X.pn ++ pins, p.1 ≠ b
theorem Inv.fpOk {X : Cx} {pins : List (Addr × Obj)} {σ : St} {H H' : Hp} {s : Shared} {b : Addr} (I : Inv X pins σ H s) (hb : s.heap.objs.size ≤ b) (hn : H' b = none) : FpOk X pins H' b := by
  refine ⟨hn, Nat.ne_of_gt (Nat.lt_of_lt_of_le I.lt hb), I.nofs hb, .inr (Nat.le_trans I.sz hb), fun x c e z => ?_, fun p hp z => ?_⟩
  · obtain ⟨v, q⟩ := I.cell x c e
    exact absurd (Nat.lt_of_lt_of_le q.lt (by rw [z]; exact hb)) (Nat.lt_irrefl _)
  · exact absurd (Nat.lt_of_lt_of_le (Heap.lt_size (I.pin p hp).1) (by rw [z]; exact hb)) (Nat.lt_irrefl _)
structure Turn (P : Program) (w : World) (K : PySem.W.Frag) (tg : Expr) (J : It) (fp : List Addr) (it : Addr) (tn : Nat → Heap → Prop) : Prop where
  mem : it ∈ fp
  obj : ∀ i h, tn i h → ∀ b ∈ fp, ∃ o, h.get? b = some o ∧ ∀ v, o.data ≠ .cell v
  keep : ∀ i h h', tn i h → (∀ b ∈ fp, ∀ o, h.get? b = some o → h'.get? b = some o) → tn i h'
  item : ∀ (X : Cx), X.prog = P → X.w = w → X.K = K → X.calm = true → ∀ (i : Nat) (pins : List (Addr × Obj)) (s : Shared) (σ : St) (H : Hp) (E : Value → Shared → Prop), Inv X pins σ H s → (∀ b ∈ fp, FpOk X pins H b) → tn i s.heap → J.go i H →
    wpAny (model P w) X.A (pyNext (.ref it)) (fun r s1 => ∃ u, r = some u ∧
      wpAny (model P w) X.A (letOwnedTupleGo tg (.ref it) u) (fun _ s2 => ∃ x H', Inv X pins σ H' s2 ∧ RelV x u ∧ J.yld i H x H' ∧ tn (i + 1) s2.heap ∧ ∀ b ∈ fp, H' b = none) E s1) E s
  done : ∀ (X : Cx), X.prog = P → X.w = w → X.K = K → X.calm = true → ∀ (i : Nat) (pins : List (Addr × Obj)) (s : Shared) (σ : St) (H : Hp) (E : Value → Shared → Prop), Inv X pins σ H s → (∀ b ∈ fp, FpOk X pins H b) → tn i s.heap → J.stop i H →
    wpAny (model P w) X.A (pyNext (.ref it)) (fun r s1 => r = none ∧ Inv X pins σ H s1) E s
  self : ∀ (A : Around) (i : Nat) (s : Shared) (Q : Value → Shared → Prop) (E : Value → Shared → Prop), tn i s.heap → Q (.ref it) s → wpAny (model P w) A (pyIter (.ref it)) Q E s
noncomputable abbrev TI := St → Hp → (It → Hp → Prop) → Prop
/-- an iterator has come -/
noncomputable def PIE (X : Cx) (pins : List (Addr × Obj)) (σ : St) (tg : Expr) (R : It → Hp → Prop) (itv : Value) (s2 : Shared) : Prop :=
  ∃ (it : Addr) (fp : List Addr) (tn : Nat → Heap → Prop) (J : It) (H' : Hp), itv = .ref it ∧ Inv X pins σ H' s2 ∧ Turn X.prog X.w X.K tg J fp it tn ∧ tn 0 s2.heap ∧ (∀ b ∈ fp, FpOk X pins H' b) ∧ R J H'
noncomputable def PI (X : Cx) (tg iter : Expr) (wi : TI) : Prop :=
  ∀ (pins : List (Addr × Obj)) (s : Shared) (σ : St) (H : Hp) (R : It → Hp → Prop), Inv X pins σ H s → wi σ H R →
    wpAny (model X.prog X.w) X.A (eval iter X.env) (fun v s1 => wpAny (model X.prog X.w) X.A (pyIter v) (PIE X pins σ tg R) X.xe s1) X.xe s

/-- the step ahead of the store is nothing for an iterator that keeps no tuple -/
theorem go_of (ho : s.heap.get? it = some o) (hc : o.cls = .type n) (hd : o.data = .fields vs)
    (hn : ["enumerate", "zip", "dict_itemiterator", "dict_reverseitemiterator", "odict_iterator", "itertools.zip_longest", "itertools.pairwise"].contains n = false) (hQ : Q () s) : wpAny M A (letOwnedTupleGo tg (.ref it) u) Q E s := by
  unfold letOwnedTupleGo
  cases tg <;> first
    | exact wpAny_pure hQ
    | (cases u <;> first
        | exact wpAny_pure hQ
        | (refine wpAny_bind (wpAny_load ho ?_)
           rw [hc, hd]
           show wpAny M A (if (["enumerate", "zip", "dict_itemiterator", "dict_reverseitemiterator", "odict_iterator", "itertools.zip_longest", "itertools.pairwise"].contains n && vs[0]? == some (rawInt _)) = true then _ else _) Q E s
           rw [if_neg (by intro h; rw [hn, Bool.false_and] at h; cases h)]
           exact wpAny_pure hQ))

/-- the list at a, as it stands at each turn (a loop may append to it) -/
noncomputable def Itl (K : PySem.W.Frag) (a : Addr) : It :=
  ⟨fun i H => ∃ xs x, SqL K H a xs ∧ xs[i]? = some x, fun i H x H' => H' = H ∧ ∀ xs, SqL K H a xs → xs[i]? = some x, fun i H => ∃ xs, SqL K H a xs ∧ xs.length ≤ i⟩
/-- lo, lo + 1, .. (n of them) -/
noncomputable def Itr (lo : Int) (n : Nat) : It := ⟨fun i _ => i < n, fun i H x H' => H' = H ∧ x = .int (lo + i), fun i _ => n ≤ i⟩
theorem turn_list {P : Program} {w : World} {K : PySem.W.Frag} {tg : Expr} (a it : Addr) : Turn P w K tg (Itl K a) [it] it (fun i h => h.IsListIter it a i) where
  mem := by simp
  obj := fun i h st b hb => by
    have e : b = it := by simpa using hb
    subst e
    obtain ⟨o, e, c, d⟩ := st
    exact ⟨o, e, fun v z => by rw [d] at z; cases z⟩
  keep := fun i h h' st k => st.at fun o e => k it (by simp) o e
  item := by
    intro X hP hw hK hc i pins s σ H E I hf st hg
    subst hP hw hK
    obtain ⟨xs, x, hq, hx⟩ := hg
    obtain ⟨its, rv, p, hz⟩ := I.list hq
    obtain ⟨u, hu, ru⟩ := rv.get hx
    obtain ⟨f0, f1, f2, f3, f4, f5⟩ := hf it (by simp)
    refine wpAny_pyNext_list_item st p.isList (x := u) (by simpa using hu) fun h' st' sb => ?_
    have I1 : Inv X pins σ H { s with heap := h' } := I.turned (t' := s.toks) (fun b o hb e => (sb.2 b hb).trans e) f0 f1 f3 f4 f5
    obtain ⟨o, e, c, d⟩ := id st'
    exact ⟨u, rfl, go_of (s := { s with heap := h' }) e c d (by decide) ⟨x, H, I1, ru, ⟨rfl, fun ys hy => by rw [I.list_inj hy hq]; exact hx⟩, st', fun b hb => (hf b hb).1⟩⟩
  done := by
    intro X hP hw hK hc i pins s σ H E I hf st hg
    subst hP hw hK
    obtain ⟨xs, hq, hx⟩ := hg
    obtain ⟨its, rv, p, hz⟩ := I.list hq
    obtain ⟨f0, f1, f2, f3, f4, f5⟩ := hf it (by simp)
    have hl := rv.length
    exact wpAny_pyNext_list_end (I.ok.hd hc) st p.isList (by simp; omega) fun h' eb => ⟨rfl, I.turned (t' := s.toks) (fun b o hb e => eb b o hb e) f0 f1 f3 f4 f5⟩
  self := fun _ _ _ _ _ st h => wpAny_pyIter_listiter st h
theorem turn_range {P : Program} {w : World} {K : PySem.W.Frag} {tg : Expr} (it : Addr) (lo : Int) (n : Nat) : Turn P w K tg (Itr lo n) [it] it (fun i h => IsRangeIter h it (lo + (i : Nat) * 1) ((n : Int) - (i : Nat)) 1) where
  mem := by simp
  obj := fun i h st b hb => by
    have e : b = it := by simpa using hb
    subst e
    exact ⟨_, st, fun v z => by
      have z' : Data.fields _ = Data.cell v := z
      cases z'⟩
  keep := fun i h h' st k => k it (by simp) _ st
  item := by
    intro X hP hw hK hc i pins s σ H E I hf st hg
    subst hP hw hK
    obtain ⟨f0, f1, f2, f3, f4, f5⟩ := hf it (by simp)
    have W := Walks.range (prog := X.prog) (w := X.w) (I.ok.hd hc) it lo 1 n
    refine W.item i s _ _ hg st fun v h' tk hv st' kk => ?_
    obtain ⟨t, rfl⟩ := hv
    have I1 : Inv X pins σ H { s with heap := h', toks := tk } := I.turned (fun b o hb e => kk b o (by simpa using hb) e) f0 f1 f3 f4 f5
    refine ⟨_, rfl, go_of (s := { s with heap := h', toks := tk }) (n := "range_iterator") st' rfl rfl (by decide) ⟨.int (lo + i), H, I1, ⟨t, ?_⟩, ⟨rfl, rfl⟩, st', fun b hb => (hf b hb).1⟩⟩
    rw [Int.mul_one]
  done := by
    intro X hP hw hK hc i pins s σ H E I hf st hg
    subst hP hw hK
    obtain ⟨f0, f1, f2, f3, f4, f5⟩ := hf it (by simp)
    exact wpAny_pyNext_range_end (I.ok.hd hc) st (by have : n ≤ i := hg; omega) fun h' eb => ⟨rfl, I.turned (t' := s.toks) (fun b o hb e => eb b o hb e) f0 f1 f3 f4 f5⟩
  self := fun _ _ _ _ _ st h => wpAny_pyIter_rangeiter st h
end L2

namespace L2
open PySem PySem.Spec PyProof.Rows
section
variable {X : Cx} {tg : Expr}
noncomputable def iList (K : PySem.W.Frag) (tl : TE) : TI := fun σ H R => tl σ H fun x H1 => ∃ a, x = .ref a ∧ (∃ xs, SqL K H1 a xs) ∧ R (Itl K a) H1
theorem pi_list {l : Expr} {tl : TE} (hl : PE X l tl) : PI X tg l (iList X.K tl) := by
  intro pins s σ H R I h
  refine thn (hl pins s σ H _ I h) fun v s1 ⟨x, H1, I1, r1, q1⟩ => ?_
  obtain ⟨a, e, ⟨xs, hq⟩, q⟩ := q1
  subst e
  cases r1
  obtain ⟨its, rv, p, hz⟩ := I1.list hq
  refine wpAny_pyIter_list p.isList ?_
  refine ⟨s1.heap.objs.size, [s1.heap.objs.size], _, _, H1, rfl, I1.kept (t' := s1.toks) fun b o e => Heap.get?_push_of_some _ e, turn_list a _, ⟨_, Heap.get?_push_size _ rfl, rfl, rfl⟩, fun b hb => ?_, q⟩
  have e : b = s1.heap.objs.size := by simpa using hb
  subst e
  exact I1.fpOk (Nat.le_refl _) (I1.hok.fresh (Nat.le_refl _))
/-- a range object just made, walked -/
theorem range_it {pins : List (Addr × Obj)} {σ : St} {H : Hp} {s : Shared} {R : It → Hp → Prop} {E : Value → Shared → Prop} {lo hi : Int} {t u v : Tok} {tk : Nat} (I : Inv X pins σ H s) (h1 : -(2 ^ 62) ≤ lo) (h2 : lo < 2 ^ 62) (h3 : -(2 ^ 62) ≤ hi) (h4 : hi < 2 ^ 62)
    (q : R (Itr lo (hi - lo).toNat) H) : wpAny (model X.prog X.w) X.A (pyIter (.ref s.heap.objs.size)) (PIE X pins σ tg R) E { s with heap := s.heap.push { cls := .type "range", data := .fields #[.int lo t, .int hi u, .int 1 v] }, toks := tk } := by
  refine wpAny_pyIter_range (IsRange.new ..) (small_one h1 h2 h3 h4) ?_
  have I1 : Inv X pins σ H { s with heap := s.heap.push { cls := .type "range", data := .fields #[.int lo t, .int hi u, .int 1 v] }, toks := tk } := I.kept fun b o e => Heap.get?_push_of_some _ e
  refine ⟨(s.heap.push { cls := .type "range", data := .fields #[.int lo t, .int hi u, .int 1 v] }).objs.size, [(s.heap.push { cls := .type "range", data := .fields #[.int lo t, .int hi u, .int 1 v] }).objs.size], _, _, H, rfl,
    I1.kept (t' := tk) fun b o e => Heap.get?_push_of_some _ e, turn_range _ lo (hi - lo).toNat, ?_, fun b hb => ?_, q⟩
  · have e1 : lo + ((0 : Nat) : Int) * 1 = lo := by simp
    have e2 : (((hi - lo).toNat : Nat) : Int) - ((0 : Nat) : Int) = Builtin.Range.rangeSize lo hi 1 := by rw [rangeSize_one]; split <;> omega
    show IsRangeIter _ _ (lo + ((0 : Nat) : Int) * 1) ((((hi - lo).toNat : Nat) : Int) - ((0 : Nat) : Int)) 1
    rw [e1, e2]
    exact Heap.get?_push_size _ rfl
  · have e : b = (s.heap.push { cls := .type "range", data := .fields #[.int lo t, .int hi u, .int 1 v] }).objs.size := by simpa using hb
    subst e
    exact I1.fpOk (Nat.le_refl _) (I1.hok.fresh (Nat.le_refl _))
noncomputable def iRng2 (ta : TA) : TI := fun σ H R => ta σ H fun vs H1 => ∃ i j : Int, vs = [.int i, .int j] ∧ (-(2 ^ 62) ≤ i ∧ i < 2 ^ 62 ∧ -(2 ^ 62) ≤ j ∧ j < 2 ^ 62) ∧ R (Itr i (j - i).toNat) H1
theorem pi_range2 (hg : Gl X "range") (hm : X.mg "range" = none) (ha : PA X [a, b] ta) (hs : starEach [a, b] X.env = [(false, eval a X.env), (false, eval b X.env)] := by rfl) (hs2 : starEach [b] X.env = [(false, eval b X.env)] := by rfl) :
    PI X tg (.Call (.Name "range" p) [a, b] [] pos) (iRng2 ta) := by
  intro pins s σ H R I h
  refine Call_ (ld_blt I hg hm boot_range (PyProof.Rows.callWith_type1 (thn (ha pos pins s σ H _ I h) fun us s1 ⟨vs, H1, I1, r1, q1⟩ => ?_) (by rw [hs, hs2]) (by rw [hs2]; rfl)))
  obtain ⟨i, j, e, ⟨q1, q2, q3, q4⟩, q⟩ := q1
  subst e
  cases r1 with
  | cons r rr =>
    cases rr with
    | cons r' rr =>
      cases rr
      obtain ⟨t, rfl⟩ := r
      obtain ⟨t', rfl⟩ := r'
      exact call_range_2 (range_it I1 q1 q2 q3 q4 q)

/-! ### for -/
/-- W: the invariant by the turn and a measure; N: what the body is to reach -/
noncomputable def tFor (wi : TI) (g : TG) (tb : TS) : TS := fun D σ H => wi σ H fun J H1 => ∃ W : Nat → Nat → St → Hp → Prop, (∃ m, W 0 m σ H1) ∧ ∀ i m σ H, W i m σ H →
  (J.stop i H ∧ D.nx σ H) ∨ (J.go i H ∧ ∃ N : St → Hp → Prop, (∀ σ' H', N σ' H' → ∃ m', m' < m ∧ W (i + 1) m' σ' H') ∧ ∀ x H', J.yld i H x H' → g x σ H' fun σ2 H2 => tb { D with nx := N, ct := N, bk := D.nx } σ2 H2)
/-- the records at fp as they stand -/
noncomputable def pinsAt (fp : List Addr) (h : Heap) : List (Addr × Obj) := fp.filterMap fun b => (h.get? b).map fun o => (b, o)
theorem mem_pinsAt (hb : b ∈ fp) (e : h.get? b = some o) : (b, o) ∈ pinsAt fp h := List.mem_filterMap.mpr ⟨b, hb, by rw [e]; rfl⟩
theorem of_pinsAt (hp : p ∈ pinsAt fp h) : p.1 ∈ fp ∧ h.get? p.1 = some p.2 := by
  obtain ⟨b, hb, e⟩ := List.mem_filterMap.mp hp
  cases q : h.get? b with
  | none => rw [q] at e; cases e
  | some o =>
    rw [q] at e
    have e' : (b, o) = p := Option.some.inj e
    subst e'
    exact ⟨hb, q⟩
theorem Inv.pinned (I : Inv X pins σ H s) (hf : ∀ b ∈ fp, FpOk X pins H b) (ho : ∀ b ∈ fp, ∃ o, s.heap.get? b = some o ∧ ∀ v, o.data ≠ .cell v) : Inv X (pins ++ pinsAt fp s.heap) σ H s :=
  I.pins_of fun p hp => (List.mem_append.mp hp).elim (fun z => I.pin p (List.mem_append_right _ z)) fun z => by
    obtain ⟨hb, e⟩ := of_pinsAt z
    obtain ⟨f0, f1, f2, _⟩ := hf p.1 hb
    obtain ⟨o, e', d⟩ := ho p.1 hb
    rw [e] at e'; cases e'
    exact ⟨e, f0, f1, f2, d⟩
theorem Inv.unpinned (I : Inv X (pins ++ pl) σ H s) : Inv X pins σ H s := I.pins_of fun p hp => I.pin p (List.mem_append_right _ (List.mem_append_left _ hp))
theorem ps_for (hp : PassesOwn (model X.prog X.w) X.A X.env X.xe) (hc : X.calm = true) (hi : PI X tg iter wi) (hg : PG X tg g) (hb : PSs X body tb)
    (hs : ∀ x, foldedSetIterable iter X.env x = pure x := by intro _; rfl) : PS X (.For tg iter body [] pos) (tFor wi g tb) := by
  intro pins s σ H D I h
  refine wpAny_For (thn (hi pins s σ H _ I h) fun v s1 h1 => thn h1 fun itv s2 h2 => ?_) hs
  obtain ⟨it, fp, tn, J, H2, e, I2, T, st2, f2, W, ⟨m0, w0⟩, turn⟩ := h2
  subst e
  -- what stays true of the iterator's objects through the loop
  have stat : ∀ {H' : Hp}, (∀ b ∈ fp, H' b = none) → ∀ b ∈ fp, FpOk X pins H' b := fun hn b hb => ⟨hn b hb, (f2 b hb).2⟩
  refine codeAny_forLoop_any (fun n s' => ∃ i σ' H', Inv X pins σ' H' s' ∧ tn i s'.heap ∧ (∀ b ∈ fp, H' b = none) ∧ W i n σ' H') ?_ m0 ⟨0, σ, H2, I2, st2, fun b hb => (f2 b hb).1, w0⟩
  rintro n s3 ⟨i, σ3, H3, I3, st3, fr3, w3⟩
  rcases turn i n σ3 H3 w3 with ⟨stop, qn⟩ | ⟨go, N, hN, step⟩
  · refine wpAny_passesOwn hp (thn (T.done X rfl rfl rfl hc i pins s3 σ3 H3 X.xe I3 (stat fr3) st3 stop) fun r s4 ⟨hr, I4⟩ => ?_)
    subst hr
    exact wpAny_execs_nil ⟨σ3, H3, I4, qn⟩
  · refine wpAny_passesOwn hp (thn (T.item X rfl rfl rfl hc i pins s3 σ3 H3 X.xe I3 (stat fr3) st3 go) fun r s4 ⟨u, hr, h4⟩ => ?_)
    subst hr
    refine wpAny_passesOwn hp (thn h4 fun _ s5 ⟨x, H5, I5, r5, y5, st5, fr5⟩ => ?_)
    have I5' := I5.pinned (stat fr5) (T.obj _ _ st5)
    refine wpAny_passesOwn hp (thn (hg _ s5 σ3 H5 x u _ I5' r5 (step x H5 y5)) fun _ s6 ⟨σ6, H6, I6, q6⟩ => ?_)
    refine wpAny_passesOwn hp (thn (hb _ s6 σ6 H6 _ I6 q6) fun f s7 q7 => ?_)
    have again : ∀ {σ7 : St} {H7 : Hp}, Inv X (pins ++ pinsAt fp s5.heap) σ7 H7 s7 → N σ7 H7 → ∃ m, m < n ∧ ∃ i σ' H', Inv X pins σ' H' s7 ∧ tn i s7.heap ∧ (∀ b ∈ fp, H' b = none) ∧ W i m σ' H' := fun {σ7 H7} I7 n7 => by
      obtain ⟨m', hm, w7⟩ := hN σ7 H7 n7
      refine ⟨m', hm, i + 1, σ7, H7, I7.unpinned, T.keep _ _ _ st5 fun b hb o e => (I7.pin (b, o) (List.mem_append_right _ (List.mem_append_right _ (mem_pinsAt hb e)))).1, fun b hb => ?_, w7⟩
      obtain ⟨o, e, d⟩ := T.obj _ _ st5 b hb
      exact (I7.pin (b, o) (List.mem_append_right _ (List.mem_append_right _ (mem_pinsAt hb e)))).2.1
    cases f with
    | next => obtain ⟨σ7, H7, I7, n7⟩ := q7; exact again I7 n7
    | cont => obtain ⟨σ7, H7, I7, n7⟩ := q7; exact again I7 n7
    | brk => obtain ⟨σ7, H7, I7, q7⟩ := q7; exact ⟨σ7, H7, I7.unpinned, q7⟩
    | ret v => obtain ⟨x7, σ7, H7, I7, r7, q7⟩ := q7; exact ⟨x7, σ7, H7, I7.unpinned, r7, q7⟩
end

/-! ### the forms one uses -/
/-- over a list that the body leaves as it is -/
theorem for_list {K : PySem.W.Frag} {a : Addr} {xs : List V} {g : TG} {tb : TS} {D : Ends} {σ : St} {H : Hp} (Pv : Nat → St → Hp → Prop) (h0 : Pv 0 σ H) (hl : ∀ i σ H, i ≤ xs.length → Pv i σ H → SqL K H a xs)
    (hs : ∀ i x σ H, xs[i]? = some x → Pv i σ H → g x σ H fun σ2 H2 => tb { D with nx := Pv (i + 1), ct := Pv (i + 1), bk := D.nx } σ2 H2) (hd : ∀ σ H, Pv xs.length σ H → D.nx σ H) :
    ∃ W : Nat → Nat → St → Hp → Prop, (∃ m, W 0 m σ H) ∧ ∀ i m σ H, W i m σ H →
      ((Itl K a).stop i H ∧ D.nx σ H) ∨ ((Itl K a).go i H ∧ ∃ N : St → Hp → Prop, (∀ σ' H', N σ' H' → ∃ m', m' < m ∧ W (i + 1) m' σ' H') ∧ ∀ x H', (Itl K a).yld i H x H' → g x σ H' fun σ2 H2 => tb { D with nx := N, ct := N, bk := D.nx } σ2 H2) := by
  refine ⟨fun i m σ H => m = xs.length - i ∧ i ≤ xs.length ∧ Pv i σ H, ⟨xs.length, by simp, Nat.zero_le _, h0⟩, ?_⟩
  rintro i m σ H ⟨rfl, hi, p⟩
  have q := hl i σ H hi p
  by_cases hlt : i < xs.length
  · refine .inr ⟨⟨xs, xs[i], q, by simp [hlt]⟩, Pv (i + 1), fun σ' H' p' => ⟨xs.length - (i + 1), by omega, rfl, hlt, p'⟩, fun x H' y => ?_⟩
    obtain ⟨e, y⟩ := y
    subst e
    exact hs i x σ _ (y xs q) p
  · have e : i = xs.length := by omega
    subst e
    exact .inl ⟨⟨xs, q, Nat.le_refl _⟩, hd σ H p⟩
end L2

namespace L2
open PySem PySem.Spec PyProof.Rows

noncomputable abbrev R2 := V → V → Hp → VK → Prop
/-- a two-place operation on values: f is binaryOp op, inplaceOp op or compareOp op -/
noncomputable def OpR (X : Cx) (f : Value → Value → Sem Value) (r : R2) : Prop :=
  ∀ (pins : List (Addr × Obj)) (s : Shared) (σ : St) (H : Hp) (x y : V) (v u : Value) (Q : VK), Inv X pins σ H s → RelV x v → RelV y u → r x y H Q →
    wpAny (model X.prog X.w) X.A (f v u) (EP X pins σ Q) X.xe s
/-- a one-place operation -/
noncomputable def UnR (X : Cx) (f : Value → Sem Value) (r : V → Hp → VK → Prop) : Prop :=
  ∀ (pins : List (Addr × Obj)) (s : Shared) (σ : St) (H : Hp) (x : V) (v : Value) (Q : VK), Inv X pins σ H s → RelV x v → r x H Q →
    wpAny (model X.prog X.w) X.A (f v) (EP X pins σ Q) X.xe s
/-- a call of a value that is known (a builtin, a type) with values -/
noncomputable def CallR (X : Cx) (f : Value) (r : List V → Hp → VK → Prop) : Prop :=
  ∀ (pins : List (Addr × Obj)) (s : Shared) (σ : St) (H : Hp) (xs : List V) (us : List Value) (Q : VK), Inv X pins σ H s → Vals xs us → r xs H Q →
    wpAny (model X.prog X.w) X.A (call f us) (EP X pins σ Q) X.xe s
/-- a value's truth -/
noncomputable def TruR (X : Cx) (r : V → Hp → (Bool → Hp → Prop) → Prop) : Prop :=
  ∀ (pins : List (Addr × Obj)) (s : Shared) (σ : St) (H : Hp) (x : V) (v : Value) (Q : Bool → Hp → Prop), Inv X pins σ H s → RelV x v → r x H Q →
    wpAny (model X.prog X.w) X.A (truthy v) (TP X pins σ Q) X.xe s

noncomputable def tOp (r : R2) (ta tb : TE) : TE := fun σ H Q => ta σ H fun x H1 => tb σ H1 fun y H2 => r x y H2 Q
noncomputable def tUn (r : V → Hp → VK → Prop) (ta : TE) : TE := fun σ H Q => ta σ H fun x H1 => r x H1 Q
/-- ints in, under C, and a value out -/
noncomputable def rI (C : Int → Int → Prop) (g : Int → Int → V) : R2 := fun x y H Q => ∃ i j, x = .int i ∧ y = .int j ∧ C i j ∧ Q (g i j) H
noncomputable def rI0 (g : Int → Int → V) : R2 := fun x y H Q => ∃ i j, x = .int i ∧ y = .int j ∧ Q (g i j) H
noncomputable def rU (g : Int → V) : V → Hp → VK → Prop := fun x H Q => ∃ i, x = .int i ∧ Q (g i) H

section
variable {X : Cx} {a b c : Expr} {ta tb tc : TE} {pos : Pos}

theorem binT (ha : PE X a ta) (hb : PE X b tb) {pins : List (Addr × Obj)} {R : V → V → Hp → Prop} (I : Inv X pins σ H s)
    (h : ta σ H fun x H1 => tb σ H1 fun y H2 => R x y H2) {Q : Value → Shared → Prop} {f : Value → Value → Sem Value}
    (hf : ∀ v u s2 x y H2, Inv X pins σ H2 s2 → RelV x v → RelV y u → R x y H2 → wpAny (model X.prog X.w) X.A (f v u) Q X.xe s2) :
    wpAny (model X.prog X.w) X.A (eval a X.env) (fun v s₁ => wpAny (model X.prog X.w) X.A (eval b X.env) (fun u s₂ => wpAny (model X.prog X.w) X.A (f v u) Q X.xe s₂) X.xe s₁) X.xe s := by
  refine thn (ha pins s σ H _ I h) fun v s1 ⟨x, H1, I1, r1, q1⟩ => ?_
  refine thn (hb pins s1 σ H1 _ I1 q1) fun u s2 ⟨y, H2, I2, r2, q2⟩ => ?_
  exact hf v u s2 x y H2 I2 r1 r2 q2

theorem pe_op {op : Operator} {r : R2} (ho : OpR X (binaryOp op) r) (ha : PE X a ta) (hb : PE X b tb) : PE X (.BinOp a op b pos) (tOp r ta tb) := by
  intro pins s σ H Q I h
  exact wpAny_BinOp (binT ha hb I h fun v u s2 x y H2 I2 rx ry q => ho pins s2 σ H2 x y v u Q I2 rx ry q)
theorem pe_un (ho : UnR X (unaryOp op) r) (ha : PE X a ta) : PE X (.UnaryOp op a pos) (tUn r ta) := by
  intro pins s σ H Q I h
  exact UnaryOp_ (thn (ha pins s σ H _ I h) fun v s1 ⟨x, H1, I1, r1, q1⟩ => ho pins s1 σ H1 x v Q I1 r1 q1)
/-! ### ints -/
theorem opI {f : Value → Value → Sem Value} {C : Int → Int → Prop} {g : Int → Int → Int}
    (rule : ∀ (i j : Int) (t u : Tok) (s : Shared) (Q : Value → Shared → Prop) (E : Value → Shared → Prop), C i j → Q (.int (g i j) s.toks) { s with toks := s.toks + 1 } → wpAny (model X.prog X.w) X.A (f (.int i t) (.int j u)) Q E s) :
    OpR X f (rI C fun i j => .int (g i j)) := by
  intro pins s σ H x y v u Q I rx ry h
  obtain ⟨i, j, rfl, rfl, hc, q⟩ := h
  obtain ⟨t, rfl⟩ := rx
  obtain ⟨t', rfl⟩ := ry
  exact rule i j t t' s _ _ hc ⟨.int (g i j), H, I.tok _, ⟨_, rfl⟩, q⟩
theorem opI0 {f : Value → Value → Sem Value} {g : Int → Int → Int}
    (rule : ∀ (i j : Int) (t u : Tok) (s : Shared) (Q : Value → Shared → Prop) (E : Value → Shared → Prop), Q (.int (g i j) s.toks) { s with toks := s.toks + 1 } → wpAny (model X.prog X.w) X.A (f (.int i t) (.int j u)) Q E s) :
    OpR X f (rI0 fun i j => .int (g i j)) := by
  intro pins s σ H x y v u Q I rx ry h
  obtain ⟨i, j, rfl, rfl, q⟩ := h
  obtain ⟨t, rfl⟩ := rx
  obtain ⟨t', rfl⟩ := ry
  exact rule i j t t' s _ _ ⟨.int (g i j), H, I.tok _, ⟨_, rfl⟩, q⟩
theorem opB0 {f : Value → Value → Sem Value} {g : Int → Int → Bool}
    (rule : ∀ (i j : Int) (t u : Tok) (s : Shared) (Q : Value → Shared → Prop) (E : Value → Shared → Prop), Q (.bool (g i j)) s → wpAny (model X.prog X.w) X.A (f (.int i t) (.int j u)) Q E s) :
    OpR X f (rI0 fun i j => .bl (g i j)) := by
  intro pins s σ H x y v u Q I rx ry h
  obtain ⟨i, j, rfl, rfl, q⟩ := h
  obtain ⟨t, rfl⟩ := rx
  obtain ⟨t', rfl⟩ := ry
  exact rule i j t t' s _ _ ⟨.bl (g i j), H, I, rfl, q⟩

noncomputable def CPow (i j : Int) : Prop := 0 ≤ j ∧ j ≤ 1000000 ∧ i.natAbs < 2 ^ 64
noncomputable def CMul (i j : Int) : Prop := (-(2 ^ 64) < i ∧ i < 2 ^ 64) ∨ (-(2 ^ 64) < j ∧ j < 2 ^ 64)
theorem CMul.ok (h : CMul i j) : IntMulOk i j := by
  rcases h with ⟨h1, h2⟩ | ⟨h1, h2⟩
  · exact .of_left (intBits_le_64 h1 h2)
  · exact .of_right (intBits_le_64 h1 h2)
theorem op_add : OpR X (binaryOp .Add) (rI0 fun i j => .int (i + j)) := opI0 fun _ _ _ _ _ _ _ q => add_int q
theorem op_sub : OpR X (binaryOp .Sub) (rI0 fun i j => .int (i - j)) := opI0 fun _ _ _ _ _ _ _ q => sub_int q
/-- % by a positive divisor of any size -/
theorem op_mod : OpR X (binaryOp .Mod) (rI (fun _ j => 0 < j) fun i j => .int (i % j)) := opI fun i j _ _ _ _ _ hc q => by
  have h1 : (0 : Int) < j := hc
  exact mod_int' (by omega) (by rw [Int.fmod_eq_emod_of_nonneg i (by omega)]; exact q)
theorem op_pow : OpR X (binaryOp .Pow) (rI CPow fun i j => .int (i ^ j.toNat)) := opI fun _ _ _ _ _ _ _ hc q => pow_int_small hc.1 hc.2.1 hc.2.2 q
theorem unI {f : Value → Sem Value} {g : Int → Int}
    (rule : ∀ (i : Int) (t : Tok) (s : Shared) (Q : Value → Shared → Prop) (E : Value → Shared → Prop), Q (.int (g i) s.toks) { s with toks := s.toks + 1 } → wpAny (model X.prog X.w) X.A (f (.int i t)) Q E s) :
    UnR X f (rU fun i => .int (g i)) := by
  intro pins s σ H x v Q I rx h
  obtain ⟨i, rfl, q⟩ := h
  obtain ⟨t, rfl⟩ := rx
  exact rule i t s _ _ ⟨.int (g i), H, I.tok _, ⟨_, rfl⟩, q⟩
theorem un_neg : UnR X (unaryOp .USub) (rU fun i => .int (-i)) := unI fun _ _ _ _ _ q => neg_int q
/-! ### bools among ints: n += (a < b) -/
end

/-! ### comparisons -/
/-- the scalars that == tells apart as data does -/
noncomputable def scal : V → V → Bool
  | .non, .non => true | .non, .int _ => true | .int _, .non => true | .non, .bl _ => true | .bl _, .non => true | .non, .str _ => true | .str _, .non => true
  | .int _, .int _ => true | .bl _, .bl _ => true | .str _, .str _ => true | .byt _, .byt _ => true
  | .int _, .str _ => true | .str _, .int _ => true | .bl _, .str _ => true | .str _, .bl _ => true
  | _, _ => false
noncomputable def rEq : R2 := fun x y H Q => scal x y = true ∧ Q (.bl (decide (x = y))) H
noncomputable def rNe : R2 := fun x y H Q => scal x y = true ∧ Q (.bl (!decide (x = y))) H

theorem dec_int : decide (V.int i = V.int j) = (i == j) := by
  rw [Bool.eq_iff_iff]
  simp
theorem dec_bl : decide (V.bl i = V.bl j) = (i == j) := by
  rw [Bool.eq_iff_iff]
  simp
theorem dec_str : decide (V.str i = V.str j) = (i == j) := by
  rw [Bool.eq_iff_iff]
  simp
theorem dec_byt : decide (V.byt i = V.byt j) = (i.toList == j.toList) := by
  rw [Bool.eq_iff_iff]
  cases i
  cases j
  simp

section
variable {X : Cx} {a b c : Expr} {ta tb tc : TE} {pos : Pos}
theorem fin_bl (I : Inv X pins σ H s) (q : Q (.bl k) H) (e : k = k') : EP X pins σ Q (.bool k') s := by
  subst e
  exact ⟨.bl k, H, I, rfl, q⟩
theorem op_eq : OpR X (compareOp .Eq) rEq := by
  intro pins s σ H x y v u Q I rx ry h
  obtain ⟨hs, q⟩ := h
  cases x with
  | non =>
    cases rx
    cases y with
    | non => cases ry; exact PySem.EqNone.eq_none_none (fin_bl I q (by simp))
    | bl j => cases ry; exact PySem.EqNone.eq_none_bool (fin_bl I q (by simp))
    | int j => obtain ⟨t', rfl⟩ := ry; exact PySem.EqNone.eq_none_int (fin_bl I q (by simp))
    | str j => obtain ⟨t', rfl⟩ := ry; exact PySem.EqNone.eq_none_str (fin_bl I q (by simp))
    | _ => exact absurd (show false = true from hs) Bool.false_ne_true
  | bl i =>
    cases rx
    cases y with
    | non => cases ry; exact PySem.EqNone.eq_bool_none (fin_bl I q (by simp))
    | bl j => cases ry; exact eq_bool (fin_bl I q dec_bl)
    | str j => obtain ⟨t', rfl⟩ := ry; exact PySem.EqMixed.eq_bool_str (fin_bl I q (by simp))
    | _ => exact absurd (show false = true from hs) Bool.false_ne_true
  | int i =>
    obtain ⟨t, rfl⟩ := rx
    cases y with
    | non => cases ry; exact PySem.EqNone.eq_int_none (fin_bl I q (by simp))
    | int j => obtain ⟨t', rfl⟩ := ry; exact eq_int (fin_bl I q dec_int)
    | str j => obtain ⟨t', rfl⟩ := ry; exact PySem.EqMixed.eq_int_str (fin_bl I q (by simp))
    | _ => exact absurd (show false = true from hs) Bool.false_ne_true
  | str i =>
    obtain ⟨t, rfl⟩ := rx
    cases y with
    | non => cases ry; exact PySem.EqNone.eq_str_none (fin_bl I q (by simp))
    | bl j => cases ry; exact PySem.EqMixed.eq_str_bool (fin_bl I q (by simp))
    | int j => obtain ⟨t', rfl⟩ := ry; exact PySem.EqMixed.eq_str_int (fin_bl I q (by simp))
    | str j => obtain ⟨t', rfl⟩ := ry; exact eq_str (fin_bl I q dec_str)
    | _ => exact absurd (show false = true from hs) Bool.false_ne_true
  | byt i =>
    obtain ⟨t, rfl⟩ := rx
    cases y with
    | byt j => obtain ⟨t', rfl⟩ := ry; exact PySem.W.eq_bytes (fin_bl I q dec_byt)
    | _ => exact absurd (show false = true from hs) Bool.false_ne_true
  | _ => cases y <;> exact absurd (show false = true from hs) Bool.false_ne_true
theorem op_ne : OpR X (compareOp .NotEq) rNe := by
  intro pins s σ H x y v u Q I rx ry h
  obtain ⟨hs, q⟩ := h
  cases x with
  | non =>
    cases rx
    cases y with
    | non => cases ry; exact PySem.EqNone.ne_none_none (fin_bl I q (by simp))
    | bl j => cases ry; exact PySem.EqNone.ne_none_bool (fin_bl I q (by simp))
    | int j => obtain ⟨t', rfl⟩ := ry; exact PySem.EqNone.ne_none_int (fin_bl I q (by simp))
    | str j => obtain ⟨t', rfl⟩ := ry; exact PySem.EqNone.ne_none_str (fin_bl I q (by simp))
    | _ => exact absurd (show false = true from hs) Bool.false_ne_true
  | bl i =>
    cases rx
    cases y with
    | non => cases ry; exact PySem.EqNone.ne_bool_none (fin_bl I q (by simp))
    | bl j => cases ry; exact ne_bool (fin_bl I q (congrArg not dec_bl))
    | str j => obtain ⟨t', rfl⟩ := ry; exact PySem.EqMixed.ne_bool_str (fin_bl I q (by simp))
    | _ => exact absurd (show false = true from hs) Bool.false_ne_true
  | int i =>
    obtain ⟨t, rfl⟩ := rx
    cases y with
    | non => cases ry; exact PySem.EqNone.ne_int_none (fin_bl I q (by simp))
    | int j => obtain ⟨t', rfl⟩ := ry; exact ne_int (fin_bl I q (congrArg not dec_int))
    | str j => obtain ⟨t', rfl⟩ := ry; exact PySem.EqMixed.ne_int_str (fin_bl I q (by simp))
    | _ => exact absurd (show false = true from hs) Bool.false_ne_true
  | str i =>
    obtain ⟨t, rfl⟩ := rx
    cases y with
    | non => cases ry; exact PySem.EqNone.ne_str_none (fin_bl I q (by simp))
    | bl j => cases ry; exact PySem.EqMixed.ne_str_bool (fin_bl I q (by simp))
    | int j => obtain ⟨t', rfl⟩ := ry; exact PySem.EqMixed.ne_str_int (fin_bl I q (by simp))
    | str j => obtain ⟨t', rfl⟩ := ry; exact ne_str (fin_bl I q (congrArg not dec_str))
    | _ => exact absurd (show false = true from hs) Bool.false_ne_true
  | byt i =>
    obtain ⟨t, rfl⟩ := rx
    cases y with
    | byt j => obtain ⟨t', rfl⟩ := ry; exact PySem.W.ne_bytes (fin_bl I q (congrArg not dec_byt))
    | _ => exact absurd (show false = true from hs) Bool.false_ne_true
  | _ => cases y <;> exact absurd (show false = true from hs) Bool.false_ne_true

theorem op_lt : OpR X (compareOp .Lt) (rI0 fun i j => .bl (decide (i < j))) := opB0 fun _ _ _ _ _ _ _ q => lt_int q
theorem op_le : OpR X (compareOp .LtE) (rI0 fun i j => .bl (decide (i ≤ j))) := opB0 fun _ _ _ _ _ _ _ q => le_int q
theorem op_gt : OpR X (compareOp .Gt) (rI0 fun i j => .bl (decide (j < i))) := opB0 fun _ _ _ _ _ _ _ q => gt_int q
/-- the one string within the other -/
theorem op_in_str : OpR X (compareOp .In) (fun x y H Q => ∃ i j, x = .str i ∧ y = .str j ∧ Q (.bl (!(Builtin.Str.occurrences j i 0 j.length 1).isEmpty)) H) := by
  intro pins s σ H x y v u Q I rx ry h
  obtain ⟨i, j, rfl, rfl, q⟩ := h
  obtain ⟨t, rfl⟩ := rx
  obtain ⟨t', rfl⟩ := ry
  exact in_str (fin_bl I q rfl)

theorem nomark (b : Expr) (h : op ≠ .In := by decide) (h2 : op ≠ .NotIn := by decide) : behindInMarks op b = false := by
  have e1 : (op == CmpOp.In) = false := by cases op <;> first | rfl | exact absurd rfl h
  have e2 : (op == CmpOp.NotIn) = false := by cases op <;> first | rfl | exact absurd rfl h2
  cases b <;> simp [behindInMarks, e1, e2]
/-- a comparison as a value; hm: nomark b, or (for in, not in) by with_unfolding_all rfl -/
theorem pe_cmpR {op : CmpOp} {r : R2} (ho : OpR X (compareOp op) r) (ha : PE X a ta) (hb : PE X b tb) (hm : behindInMarks op b = false) : PE X (.Compare a [op] [b] pos) (tOp r ta tb) := by
  intro pins s σ H Q I h
  exact wpAny_Compare1 (binT ha hb I h fun v u s2 x y H2 I2 rx ry q => ho pins s2 σ H2 x y v u Q I2 rx ry q) hm
/-- a reading of a value as a test -/
noncomputable def tTest (t : TE) : TT := fun σ H Q => t σ H fun x H' => ∃ k, x = .bl k ∧ Q k H'
theorem pt_cmpR (ho : OpR X (compareOp op) r) (ha : PE X a ta) (hb : PE X b tb) (hm : behindInMarks op b = false) : PT X (.Compare a [op] [b] pos) (tTest (tOp r ta tb)) := by
  intro pins s σ H Q I h
  refine wpAny_isTrue_Compare1 (thn (ha pins s σ H _ I h) fun v s1 ⟨x, H1, I1, r1, q1⟩ => thn (hb pins s1 σ H1 _ I1 q1) fun u s2 ⟨y, H2, I2, r2, q2⟩ =>
    thn (ho pins s2 σ H2 x y v u _ I2 r1 r2 q2) fun c s3 ⟨z, H3, I3, r3, k, e, q3⟩ => ?_) hm
  subst e
  cases r3
  exact wpAny_truthy_bool ⟨H3, I3, q3⟩
/-- a op1 b op2 c -/
noncomputable def tChain (r r' : R2) (ta tb tc : TE) : TE := fun σ H Q => ta σ H fun x H1 => tb σ H1 fun y H2 => r x y H2 fun z H3 => ∃ k, z = .bl k ∧
  (if k = true then tc σ H3 fun w' H4 => r' y w' H4 Q else Q (.bl false) H3)
theorem pe_chain (ho : OpR X (compareOp op) r) (ho' : OpR X (compareOp op') r') (ha : PE X a ta) (hb : PE X b tb) (hc : PE X c tc)
    (hm : lastMarks [op, op'] [b, c] = false := by with_unfolding_all rfl) : PE X (.Compare a [op, op'] [b, c] pos) (tChain r r' ta tb tc) := by
  intro pins s σ H Q I h
  refine Compare_chain (thn (ha pins s σ H _ I h) fun v s1 ⟨x, H1, I1, r1, q1⟩ => chain_link (thn (hb pins s1 σ H1 _ I1 q1) fun u s2 ⟨y, H2, I2, r2, q2⟩ =>
    thn (ho pins s2 σ H2 x y v u _ I2 r1 r2 q2) fun d s3 ⟨z, H3, I3, r3, k, e, q3⟩ => ?_)) hm
  subst e
  cases r3
  refine wpAny_truthy_bool ?_
  cases k with
  | false => exact ite_ff ⟨.bl false, H3, I3, rfl, q3⟩
  | true => exact ite_tt (chain_last (thn (hc pins s3 σ H3 _ I3 q3) fun w' s4 ⟨z', H4, I4, r4, q4⟩ => ho' pins s4 σ H4 y z' u w' Q I4 r2 r4 q4))
/-! ### truth -/
/-- a value's truth by the abstract heap -/
noncomputable def TruV (K : PySem.W.Frag) (x : V) (H : Hp) (k : Bool) : Prop :=
  match x with
  | .non => k = false
  | .bl b => k = b
  | .int i => k = (i != 0)
  | .str y => y.length ≤ sizeLine ∧ k = ((y.length : Int) != 0)
  | .byt y => y.size ≤ sizeLine ∧ k = ((y.size : Int) != 0)
  | .ref p => (∃ xs, SqL K H p xs ∧ k = !xs.isEmpty) ∨ (∃ xs, SqT K H p xs ∧ k = !xs.isEmpty) ∨ ∃ kvs, H p = some (.dK kvs) ∧ k = !kvs.isEmpty
  | _ => False
theorem isEmpty_kv {κ : Type} {kvs : List (κ × V)} {vs : List (κ × Value)} (r : KV kvs vs) : (!vs.isEmpty) = !kvs.isEmpty := by
  cases r <;> rfl
theorem isEmpty_of (r : Vals xs its) : (!its.toArray.isEmpty) = !xs.isEmpty := by
  cases r <;> simp
theorem line63 : (sizeLine : Nat) < 2 ^ 63 := by rw [sizeLine_eq]; decide
theorem tru_ok : TruR X (fun x H Q => ∃ k, TruV X.K x H k ∧ Q k H) := by
  intro pins s σ H x v Q I rx h
  obtain ⟨k, e, q⟩ := h
  have hl := line63
  have hs : sizeLine = 16777216 := sizeLine_eq
  cases x with
  | non =>
    cases rx
    have e' : k = false := e
    subst e'
    exact truthy_none ⟨H, I, q⟩
  | bl b =>
    cases rx
    have e' : k = b := e
    subst e'
    exact wpAny_truthy_bool ⟨H, I, q⟩
  | int i =>
    obtain ⟨t, rfl⟩ := rx
    have e' : k = (i != 0) := e
    subst e'
    exact PySem.P.truthy_int ⟨H, I, q⟩
  | str y =>
    obtain ⟨t, rfl⟩ := rx
    obtain ⟨hy, e'⟩ : y.length ≤ sizeLine ∧ k = ((y.length : Int) != 0) := e
    subst e'
    exact PySem.P.truthy_str (by omega) ⟨H, I.tok _, q⟩
  | byt y =>
    obtain ⟨t, rfl⟩ := rx
    obtain ⟨hy, e'⟩ : y.size ≤ sizeLine ∧ k = ((y.size : Int) != 0) := e
    subst e'
    exact PySem.W.truthy_bytes (by omega) ⟨H, I.tok _, q⟩
  | ref p =>
    cases rx
    have e' : (∃ xs, SqL X.K H p xs ∧ k = !xs.isEmpty) ∨ (∃ xs, SqT X.K H p xs ∧ k = !xs.isEmpty) ∨ ∃ kvs, H p = some (.dK kvs) ∧ k = !kvs.isEmpty := e
    rcases e' with ⟨xs, hx, e'⟩ | ⟨xs, hx, e'⟩ | ⟨kvs, hx, e'⟩
    · subst e'
      obtain ⟨its, r, pl, hz⟩ := I.list hx
      have hlen := r.length
      exact wpAny_truthy_list pl.isList (by simp only [List.size_toArray]; omega) ⟨H, I.tok _, by rw [isEmpty_of r]; exact q⟩
    · subst e'
      obtain ⟨its, r, pl, hz⟩ := I.tuple hx
      have hlen := r.length
      exact truthy_tuple pl (by simp only [List.size_toArray]; omega) ⟨H, I.tok _, by rw [isEmpty_of r]; exact q⟩
    · subst e'
      obtain ⟨hz, hS, vs, r, m⟩ : kvs.length ≤ sizeLine ∧ (p == sysModules) = false ∧ ∃ vs, KV kvs vs ∧ s.heap.DictOf (mixKind X.prog X.w) p vs := I.hok p _ hx
      have hlen : kvs.length = vs.length := Paired.length r
      exact wpAny_truthy_dict hS m (by omega) ⟨H, I.tok _, by rw [isEmpty_kv r]; exact q⟩
  | _ => exact (show False from e).elim
/-- any expression whose test is its value's truth (a name, a call, a subscript, a field ..: he by fun _ => rfl) -/
theorem pt_truth (ha : PE X a ta) (he : ∀ whole, isTrue a X.env whole = (do let v ← whole; standAt a.pos; holding [v] (truthy v))) :
    PT X a (fun σ H Q => ta σ H fun x H' => ∃ k, TruV X.K x H' k ∧ Q k H') := by
  intro pins s σ H Q I h
  exact isTrue_plain (thn (ha pins s σ H _ I h) fun v s1 ⟨x, H1, I1, r1, q1⟩ => tru_ok pins s1 σ H1 x v Q I1 r1 q1) (he _)

/-! ### strs and bytes -/
theorem op_add_str : OpR X (binaryOp .Add) (fun x y H Q => ∃ i j, x = .str i ∧ y = .str j ∧ i.length + j.length ≤ sizeLine ∧ Q (.str (i ++ j)) H) := by
  intro pins s σ H x y v u Q I rx ry h
  obtain ⟨i, j, rfl, rfl, hz, q⟩ := h
  obtain ⟨t, rfl⟩ := rx
  obtain ⟨t', rfl⟩ := ry
  exact add_str (fun t' tk => ⟨.str (i ++ j), H, I.tok _, ⟨_, rfl⟩, q⟩) hz
theorem iop_add_str : OpR X (inplaceOp .Add) (fun x y H Q => ∃ i j, x = .str i ∧ y = .str j ∧ i.length + j.length ≤ sizeLine ∧ Q (.str (i ++ j)) H) := by
  intro pins s σ H x y v u Q I rx ry h
  obtain ⟨i, j, rfl, rfl, hz, q⟩ := h
  obtain ⟨t, rfl⟩ := rx
  obtain ⟨t', rfl⟩ := ry
  exact iadd_str (fun t' tk => ⟨.str (i ++ j), H, I.tok _, ⟨_, rfl⟩, q⟩) hz
/-! ### scalar builtins, by CallR -/
theorem vals1 (r : Vals [x] us) : ∃ u, us = [u] ∧ RelV x u := by
  cases r with
  | cons r1 r2 => cases r2; exact ⟨_, rfl, r1⟩
theorem vals2 (r : Vals [x, y] us) : ∃ u w', us = [u, w'] ∧ RelV x u ∧ RelV y w' := by
  cases r with
  | cons r1 r2 =>
    cases r2 with
    | cons r3 r4 => cases r4; exact ⟨_, _, rfl, r1, r3⟩
theorem call_abs : CallR X (.builtin "abs") (fun xs H Q => ∃ i, xs = [.int i] ∧ Q (.int (if i < 0 then -i else i)) H) := by
  intro pins s σ H xs us Q I r h
  obtain ⟨i, rfl, q⟩ := h
  obtain ⟨u, rfl, t, rfl⟩ := vals1 r
  exact call_abs_int fun u tk => ⟨.int (if i < 0 then -i else i), H, I.tok _, ⟨_, rfl⟩, q⟩
theorem call_min2 (hc : X.calm = true) : CallR X (.builtin "min") (fun xs H Q => ∃ i j, xs = [.int i, .int j] ∧ Q (.int (if j < i then j else i)) H) := by
  intro pins s σ H xs us Q I r h
  obtain ⟨i, j, rfl, q⟩ := h
  obtain ⟨u, w', rfl, ⟨t, rfl⟩, ⟨t', rfl⟩⟩ := vals2 r
  refine min_two_ints (I.ok.hd hc) fun h' tk k => ⟨_, H, I.kept k, ?_, q⟩
  by_cases hj : j < i
  · rw [if_pos hj, if_pos hj]; exact ⟨_, rfl⟩
  · rw [if_neg hj, if_neg hj]; exact ⟨_, rfl⟩
theorem call_int1 : CallR X (.type "int") (fun xs H Q => (∃ i, xs = [.int i] ∧ Q (.int i) H) ∨ ∃ k, xs = [.bl k] ∧ Q (.int (if k then 1 else 0)) H) := by
  intro pins s σ H xs us Q I r h
  rcases h with ⟨i, rfl, q⟩ | ⟨k, rfl, q⟩
  · obtain ⟨u, rfl, t, rfl⟩ := vals1 r
    exact call_int_int ⟨.int i, H, I, ⟨_, rfl⟩, q⟩
  · obtain ⟨u, rfl, r1⟩ := vals1 r
    cases r1
    exact call_int_bool ⟨.int (if k then 1 else 0), H, I.tok _, ⟨_, rfl⟩, q⟩
theorem call_str_int : CallR X (.type "str") (fun xs H Q => ∃ i, xs = [.int i] ∧ i.natAbs.log2 < 1920 ∧ Q (.str (toString i)) H) := by
  intro pins s σ H xs us Q I r h
  obtain ⟨i, rfl, hz, q⟩ := h
  obtain ⟨u, rfl, t, rfl⟩ := vals1 r
  exact PySem.P.str_of_int hz ⟨.str _, H, I.tok _, ⟨_, rfl⟩, q⟩
end
end L2

namespace L2
open PySem PySem.Spec PyProof.Rows

/-! ### an instance, its attributes a map -/
structure ObjM (h : Heap) (x dx C : Addr) (mA : Str → Option Value) : Prop where
  obj : h.get? x = some (PySem.W.instObj C dx)
  ns : h.Ns1 dx mA
  ne : dx ≠ x

theorem lookIn_ns {h : Heap} {dx : Addr} {mA : Str → Option Value} (n : h.Ns1 dx mA) : ∃ od, h.get? dx = some od ∧ ∀ name, PySem.W.lookIn name od = some (mA name) := by
  obtain ⟨o, es, ep, ho, hd, hk, _, hm⟩ := n
  refine ⟨o, ho, fun name => ?_⟩
  have e := hm name
  unfold nsFind findBy at e
  rw [← Array.find?_toList] at e
  unfold PySem.W.lookIn
  rw [hd]
  dsimp only
  split
  · rename_i y q
    rw [q] at e
    exact congrArg some e
  · rename_i q
    rw [q] at e
    have a : es.toList.any (·.refKey) = false := by
      rw [List.any_eq_false]
      intro y hy
      obtain ⟨z, t, hkey⟩ := hk y (Array.mem_toList_iff.mp hy)
      simp [DictEntry.refKey, hkey]
    have a' : ¬ es.toList.any (·.refKey) = true := by rw [a]; exact Bool.false_ne_true
    rw [if_neg a']
    exact congrArg some e

theorem ObjM.look (I : ObjM h x dx C mA) : ∃ od, PySem.W.InstAt h x (PySem.W.instObj C dx) C (some od) ∧ ∀ name, PySem.W.lookIn name od = some (mA name) :=
  let ⟨od, ho, hl⟩ := lookIn_ns I.ns
  ⟨od, ⟨I.obj, rfl, rfl, ho⟩, hl⟩

section
variable {prog : Program} {w : World} {A : Around} {E : Value → Shared → Prop} {s : Shared} {K : PySem.W.Frag} {x dx C f : Addr} {mA : Str → Option Value} {name : Str} {v : Value}

theorem get_map (X : K.In s.heap) (I : ObjM s.heap x dx C mA) (hg : PySem.W.plainGet K C name = true) (hh : PySem.W.hasDictIn K C = true)
    (ha : PySem.W.findIn K (.ref C) name = some none) (hv : mA name = some v) (hv' : PySem.W.handedIn v = true) (h : Q v { s with toks := s.toks + 1 }) :
    wpAny (model prog w) A (getAttr (.ref x) name expr) Q E s := by
  obtain ⟨od, J, hl⟩ := I.look
  exact PySem.W.get_value X J (PySem.W.plainGet_of hg).1 (PySem.W.findObj_own hh ha rfl (by rw [hl, hv])) hv' h

theorem get_meth (X : K.In s.heap) (I : ObjM s.heap x dx C mA) (hg : PySem.W.plainGet K C name = true)
    (hf : PySem.W.findIn K (.ref C) name = some (some (.ref f))) (ht : PySem.W.isFn K (.ref f) = true) (hv : mA name = none) (h : Q (.ref f, [.ref x]) s) :
    wpAny (model prog w) A (getMethod (.ref x) name pl) Q E s := by
  obtain ⟨od, J, hl⟩ := I.look
  exact PySem.W.method_fn X J (PySem.W.plainGet_of hg).1 (PySem.W.plainGet_of hg).2 hf (beq_iff_eq.mp ht) (by show (PySem.W.lookIn name od).map (·.isSome) = some false; rw [hl, hv]; rfl) h

theorem set_map (X : K.In s.heap) (I : ObjM s.heap x dx C mA)
    (hs : PySem.W.findIn K (.ref C) "__setattr__" = some (some (.builtin "object.__setattr__"))) (hp : PySem.W.plainOver K C = true) (ht : PySem.W.takerIn K C name = some none) (hh : PySem.W.hasDictIn K C = true)
    (hw : PySem.Within mA ns) (hsz : ns.length ≤ sizeLine)
    (h : ∀ h', ObjM h' x dx C (fun y => if y = name then some v else mA y) → Heap.SameBut dx s.heap h' → Q () { s with heap := h', toks := s.toks + 2 }) :
    wpAny (model prog w) A (setAttr (.ref x) name v) Q E s := by
  obtain ⟨od, J, hl⟩ := I.look
  refine PySem.W.set_plain X J hs (PySem.W.osa_open (s := { s with toks := s.toks + 1 }) (r := none) X J hp ht fun b => ?_)
  obtain ⟨cd, hc, hd'⟩ := PySem.W.any_some hh
  have hx : s.heap.get? x = some ⟨.ref C, some dx, .plain, #[]⟩ := I.obj
  refine wpAny_bind (wpAny_pure (wpAny_bind (wpAny_bind (wpAny_loadPart hx (wpAny_bind (PySem.W.Looks.here (s := { s with toks := s.toks + 1 }) (PySem.W.looks_clsIn X hc) ?_))))))
  rw [hd']
  refine wpAny_pure (a := some dx) (wpAny_bind (wpAny_pure (wpAny_bind ?_)))
  refine wpAny_nsSet1 (s := { s with toks := s.toks + 1 }) I.ns fun h' hn2 hs2 => ?_
  obtain ⟨oD, esD, epD, hoD, hdD, hcD⟩ := hn2.count (PySem.Within.cons name v hw)
  refine wpAny_bind (wpAny_lookBehind hoD (by rw [hdD]; exact pastItsLine_dict (Nat.le_trans hcD (by rw [List.length_cons]; omega))) ?_)
  exact wpAny_pure (h _ ⟨(hs2.2 _ (Ne.symm I.ne)).trans I.obj, hn2, I.ne⟩ hs2)

/-- C(..): the dict at the heap's end, the instance behind it; then its __init__ -/
theorem make_map (X : K.In s.heap) (hm : PySem.W.makesIn K C = true)
    (hi : PySem.W.findIn K (.ref C) "__init__" = some (some (.ref f))) (hf : PySem.W.typeIn K (.ref f) = some (.type "function"))
    (h : codeAny (model prog w) (A.under (.builtin "type.__call__" ⟨.ref C :: vs, kw⟩)) (.call (.ref f) ⟨.ref (s.heap.objs.size + 1) :: vs, kw⟩) (PySem.W.InitBack (s.heap.objs.size + 1) R)
      { s with heap := (s.heap.push PySem.W.emptyDict).push (PySem.W.instObj C s.heap.objs.size) }) :
    codeAny (model prog w) A (.call (.ref C) ⟨vs, kw⟩) R s := by
  obtain ⟨hh, g, d, t, os⟩ := s
  exact PySem.W.make_core (PySem.W.makes_of X hm) (PySem.W.looks_findIn X hi) (fun self => PySem.W.bind_fn X self hf) (.inl rfl) h
end

/-! ### the attributes as a list of pairs -/
noncomputable def putF (f : Str) (v : V) : List (Str × V) → List (Str × V)
  | [] => [(f, v)]
  | (g, x) :: r => if g = f then (g, v) :: r else (g, x) :: putF f v r
theorem lookup_putF (f g : Str) (v : V) : ∀ fs : List (Str × V), (putF f v fs).lookup g = if g = f then some v else fs.lookup g
  | [] => by
    show List.lookup g [(f, v)] = _
    by_cases h : g = f
    · have hb : (g == f) = true := beq_iff_eq.mpr h
      simp only [List.lookup, hb, if_pos h]
    · have hb : (g == f) = false := beq_eq_false_iff_ne.mpr h
      simp only [List.lookup, hb, if_neg h]
  | (k, x) :: r => by
    have ih := lookup_putF f g v r
    rw [show putF f v ((k, x) :: r) = (if k = f then (k, v) :: r else (k, x) :: putF f v r) from rfl]
    by_cases hk : k = f
    · rw [if_pos hk]
      by_cases h : g = k
      · have hb : (g == k) = true := beq_iff_eq.mpr h
        simp only [List.lookup, hb, if_pos (h.trans hk)]
      · have hb : (g == k) = false := beq_eq_false_iff_ne.mpr h
        simp only [List.lookup, hb, if_neg (fun e : g = f => h (e.trans hk.symm))]
    · rw [if_neg hk]
      by_cases h : g = k
      · have hb : (g == k) = true := beq_iff_eq.mpr h
        simp only [List.lookup, hb, if_neg (fun e : g = f => hk (h.symm.trans e))]
      · have hb : (g == k) = false := beq_eq_false_iff_ne.mpr h
        simp only [List.lookup, hb]
        exact ih
theorem keys_putF (f : Str) (v : V) : ∀ fs : List (Str × V), f ∈ (putF f v fs).map (·.1) ∧ ∀ g, g ∈ fs.map (·.1) → g ∈ (putF f v fs).map (·.1)
  | [] => ⟨by simp [putF], fun g h => by simp at h⟩
  | (k, x) :: r => by
    obtain ⟨i1, i2⟩ := keys_putF f v r
    rw [show putF f v ((k, x) :: r) = (if k = f then (k, v) :: r else (k, x) :: putF f v r) from rfl]
    by_cases hk : k = f
    · rw [if_pos hk]
      subst hk
      exact ⟨by simp, fun g h => by simpa using h⟩
    · rw [if_neg hk]
      refine ⟨?_, fun g h => ?_⟩
      · rw [List.map_cons]
        exact List.mem_cons_of_mem _ i1
      · rw [List.map_cons] at h ⊢
        rcases List.mem_cons.mp h with e | e
        · exact List.mem_cons.mpr (.inl e)
        · exact List.mem_cons_of_mem _ (i2 g e)
theorem length_putF (f : Str) (v : V) : ∀ fs : List (Str × V), (putF f v fs).length ≤ fs.length + 1
  | [] => by simp [putF]
  | (k, x) :: r => by
    have ih := length_putF f v r
    rw [show putF f v ((k, x) :: r) = (if k = f then (k, v) :: r else (k, x) :: putF f v r) from rfl]
    by_cases hk : k = f
    · rw [if_pos hk, List.length_cons, List.length_cons]; omega
    · rw [if_neg hk, List.length_cons, List.length_cons]; omega

theorem RelO.some_of (r : RelO (some v) o) : ∃ u, o = some u ∧ RelV v u := by
  cases o with
  | none => exact (show False from r).elim
  | some u => exact ⟨u, rfl, r⟩
theorem RelO.none_of (r : RelO none o) : o = none := by
  cases o with
  | none => rfl
  | some u => exact (show False from r).elim
theorem handed_of (r : RelV v u) : PySem.W.handedIn u = true := by
  cases v with
  | non => cases (show u = Value.none from r); rfl
  | bl b => cases (show u = Value.bool b from r); rfl
  | int i => obtain ⟨t, e⟩ := (show ∃ t, u = Value.int i t from r); cases e; rfl
  | str x => obtain ⟨t, e⟩ := (show ∃ t, u = Value.str x t from r); cases e; rfl
  | byt b => obtain ⟨t, e⟩ := (show ∃ t, u = Value.bytes b t from r); cases e; rfl
  | flt b => obtain ⟨t, e⟩ := (show ∃ t, u = Value.float b t from r); cases e; rfl
  | ref a => cases (show u = Value.ref a from r); rfl
  | ty n => cases (show u = Value.type n from r); rfl

section
variable {P : Program} {w : World} {H H' : Hp} {h h' : Heap} {a C dx : Addr} {fs fs' : List (Str × V)}
theorem ins_get (hok : HOk P w H h) (e : H a = some (.ins C dx fs)) : ∃ mA, ObjM h a dx C mA ∧ (∀ f, RelO (fs.lookup f) (mA f)) ∧ PySem.Within mA (fs.map (·.1)) ∧ fs.length ≤ 1000 ∧ H dx = some (.own a) := by
  obtain ⟨d, z, ne, ob, mA, n, r, q⟩ := (show ObjOk P w H h a (.ins C dx fs) from hok a _ e)
  exact ⟨mA, ⟨ob, n, ne⟩, r, q, z, d⟩
end

/-! ### what of the text a class must have -/
structure Cls (K : PySem.W.Frag) (C : Addr) : Prop where
  pg : PySem.W.plainGet K C Str.empty = true
  hd : PySem.W.hasDictIn K C = true
  po : PySem.W.plainOver K C = true
  sa : PySem.W.findIn K (.ref C) "__setattr__" = some (some (.builtin "object.__setattr__"))
theorem Cls.get {K : PySem.W.Frag} {C : Addr} (c : Cls K C) (f : Str) : PySem.W.plainGet K C f = true := c.pg
/-- no class of it has the name -/
noncomputable def NoAttr (K : PySem.W.Frag) (C : Addr) (f : Str) : Prop := PySem.W.findIn K (.ref C) f = some none
theorem NoAttr.taker {K : PySem.W.Frag} {C : Addr} {f : Str} (n : NoAttr K C f) : PySem.W.takerIn K C f = some none := by
  unfold PySem.W.takerIn
  rw [show PySem.W.findIn K (.ref C) f = some none from n]
  rfl
/-- a method: a plain def of the class or of one above it -/
structure Meth (K : PySem.W.Frag) (C : Addr) (m : Str) (f : Addr) : Prop where
  at_ : PySem.W.findIn K (.ref C) m = some (some (.ref f))
  fn : PySem.W.isFn K (.ref f) = true
  kp : PySem.W.keepIn K (.ref f) = true

section
variable {X : Cx} {pins : List (Addr × Obj)} {σ : St} {H : Hp} {s : Shared} {a C dx : Addr} {fs : List (Str × V)} {f : Str} {v : V} {A : Around} {E : Value → Shared → Prop}

theorem getattr_ok (I : Inv X pins σ H s) (e : H a = some (.ins C dx fs)) (c : Cls X.K C) (n : NoAttr X.K C f) (l : fs.lookup f = some v)
    (h : ∀ u s', Inv X pins σ H s' → RelV v u → Q u s') : wpAny (model X.prog X.w) A (getAttr (.ref a) f b) Q E s := by
  obtain ⟨mA, O, r, _, _, _⟩ := ins_get I.hok e
  obtain ⟨u, hu, ru⟩ := RelO.some_of (v := v) (o := mA f) (by rw [← l]; exact r f)
  exact get_map I.kIn O (c.get f) c.hd n hu (handed_of ru) (h u _ (I.tok _) ru)

theorem getmeth_ok (I : Inv X pins σ H s) (e : H a = some (.ins C dx fs)) (c : Cls X.K C) (k : Meth X.K C m g) (l : fs.lookup m = none)
    (h : Q (.ref g, [.ref a]) s) : wpAny (model X.prog X.w) A (getMethod (.ref a) m pl) Q E s := by
  obtain ⟨mA, O, r, _, _, _⟩ := ins_get I.hok e
  have hn : mA m = none := RelO.none_of (by rw [← l]; exact r m)
  exact get_meth I.kIn O (c.get m) k.at_ k.fn hn h

theorem setattr_ok (I : Inv X pins σ H s) (e : H a = some (.ins C dx fs)) (c : Cls X.K C) (n : NoAttr X.K C f) (hl : fs.length < 1000) (ry : RelV y u)
    (h : ∀ s', Inv X pins σ (upd H a (.ins C dx (putF f y fs))) s' → Q () s') : wpAny (model X.prog X.w) A (setAttr (.ref a) f u) Q E s := by
  obtain ⟨mA, O, r, wi, _, ho⟩ := ins_get I.hok e
  have hz : (fs.map (·.1)).length ≤ sizeLine := by rw [List.length_map, sizeLine_eq]; omega
  refine set_map I.kIn O c.sa c.po n.taker c.hd wi hz fun h' O' sb => h _ ?_
  have hd : ∃ o, h'.get? dx = some o := let ⟨o, _, _, e', _⟩ := O'.ns; ⟨o, e'⟩
  refine I.write (x := a) (e := dx) (by rw [e]; exact True.intro) (.inr ho) (fun b q hb z => (sb.2 b hb).trans z) hd ?_
  refine ⟨by rw [upd_ne O.ne]; exact ho, ?_, O.ne, O'.obj, _, O'.ns, fun g => ?_, fun g hg => ?_⟩
  · have := length_putF f y fs; omega
  · show RelO ((putF f y fs).lookup g) (if g = f then some u else mA g)
    rw [lookup_putF]
    by_cases q : g = f
    · rw [if_pos q, if_pos q]; exact ry
    · rw [if_neg q, if_neg q]; exact r g
  · by_cases q : g = f
    · rw [q]; exact (keys_putF f y fs).1
    · refine (keys_putF f y fs).2 g (wi g fun z => hg ?_)
      show (if g = f then some u else mA g) = none
      rw [if_neg q]; exact z

/-- a new instance, tracked, without attributes -/
theorem Inv.made (I : Inv X pins σ H s) : Inv X pins σ (upd (upd H s.heap.objs.size (.own (s.heap.objs.size + 1))) (s.heap.objs.size + 1) (.ins C s.heap.objs.size []))
    { s with heap := (s.heap.push PySem.W.emptyDict).push (PySem.W.instObj C s.heap.objs.size) } := by
  have e1 : (s.heap.push PySem.W.emptyDict).get? s.heap.objs.size = some PySem.W.emptyDict := Heap.get?_push_size s.heap rfl
  have e2 : ((s.heap.push PySem.W.emptyDict).push (PySem.W.instObj C s.heap.objs.size)).get? (s.heap.objs.size + 1) = some (PySem.W.instObj C s.heap.objs.size) := by
    have := Heap.get?_push_size (s.heap.push PySem.W.emptyDict) (o := PySem.W.instObj C s.heap.objs.size) rfl
    rwa [Heap.size_push] at this
  have e3 : (s.heap.push PySem.W.emptyDict).Ns s.heap.objs.size (fun _ => none) := ⟨PySem.W.emptyDict, #[], _, e1, rfl, (fun e he => absurd he (by simp)), fun _ => rfl⟩
  have I1 := I.laid (a := s.heap.objs.size) (o := .own (s.heap.objs.size + 1)) (h' := s.heap.push PySem.W.emptyDict) (t' := s.toks) (fun b u q => Heap.get?_push_of_some _ q) (Nat.le_refl _) ⟨_, e1⟩
  refine I1.laid (a := s.heap.objs.size + 1) (o := .ins C s.heap.objs.size []) (t' := s.toks) (fun b u q => Heap.get?_push_of_some _ q) (Nat.le_of_eq (Heap.size_push _ _)) ?_
  have ne : s.heap.objs.size ≠ s.heap.objs.size + 1 := Nat.ne_of_lt (Nat.lt_succ_self _)
  refine ⟨by rw [upd_ne ne, upd_same], Nat.zero_le _, ne, e2, fun _ => none, (Heap.Ns1.of_empty e3).at fun o q => Heap.get?_push_of_some _ q, fun _ => True.intro, fun y hy => absurd rfl hy⟩

/-- e.f where nothing but the object is asked: through attributeBase (super) and the last hold -/
theorem attr_of (hb : attributeBase e f env (eval e env) = eval e env)
    (h : wpAny (model prog w) A (eval e env) (fun o s₁ => wpAny (model prog w) A (getAttr o f true) Q E s₁) E s) : wpAny (model prog w) A (eval (.Attribute e f pos) env) Q E s :=
  Attribute_any_ h (by rw [arm_eval_Attribute, hb])
end

/-! ### readings and rules -/
/-- e.f, an attribute of the instance -/
noncomputable def tFld (K : PySem.W.Frag) (ta : TE) (f : Str) : TE := fun σ H Q => ta σ H fun x H1 => ∃ a C dx fs v, x = .ref a ∧ H1 a = some (.ins C dx fs) ∧ Cls K C ∧ NoAttr K C f ∧ fs.lookup f = some v ∧ Q v H1
/-- e.f = value -/
noncomputable def sFld (K : PySem.W.Frag) (ta tv : TE) (f : Str) : TS := fun D σ H => tv σ H fun y H1 => ta σ H1 fun x H2 => ∃ a C dx fs, x = .ref a ∧ H2 a = some (.ins C dx fs) ∧ Cls K C ∧ NoAttr K C f ∧ fs.length < 1000 ∧
  D.nx σ (upd H2 a (.ins C dx (putF f y fs)))
/-- an augmented operator on two values -/
noncomputable def InOp (X : Cx) (op : Operator) (rd : V → V → Hp → VK → Prop) : Prop :=
  ∀ (pins : List (Addr × Obj)) (s : Shared) (σ : St) (H : Hp) (x y : V) (u v : Value) (Q : VK), Inv X pins σ H s → RelV x u → RelV y v → rd x y H Q → wpAny (model X.prog X.w) X.A (inplaceOp op u v) (EP X pins σ Q) X.xe s
/-- e.f op= value -/
noncomputable def sFldAug (K : PySem.W.Frag) (ta tv : TE) (rd : V → V → Hp → VK → Prop) (f : Str) : TS := fun D σ H => ta σ H fun x H1 => ∃ a C dx fs v, x = .ref a ∧ H1 a = some (.ins C dx fs) ∧ Cls K C ∧ NoAttr K C f ∧ fs.lookup f = some v ∧
  tv σ H1 fun y H2 => rd v y H2 fun z H3 => ∃ dx' fs', H3 a = some (.ins C dx' fs') ∧ fs'.length < 1000 ∧ D.nx σ (upd H3 a (.ins C dx' (putF f z fs')))

section
variable {X : Cx} {o e value : Expr} {f : Str} {pos pos' tpos : Pos} {ta tv : TE}
theorem pe_fld (he : PE X e ta) (hb : attributeBase e f X.env (eval e X.env) = eval e X.env) : PE X (.Attribute e f pos) (tFld X.K ta f) := by
  intro pins s σ H Q I h
  refine attr_of hb (thn (he pins s σ H _ I h) fun u s1 ⟨x, H1, I1, rx, a, C, dx, fs, v, ex, ea, c, n, l, q⟩ => ?_)
  subst ex
  obtain rfl : u = Value.ref a := rx
  exact getattr_ok I1 ea c n l fun u' s2 I2 ru => ⟨v, H1, I2, ru, q⟩
theorem ps_fld (ha : PE X o ta) (hv : PE X value tv) (hs : swapsWith value (some (.Attribute o f pos')) pos.line X.env = pure false) : PS X (.Assign [.Attribute o f pos'] value pos) (sFld X.K ta tv f) := by
  intro pins s σ H D I h
  refine plainObj_wpAny_Assign_Attribute (thn (hv pins s σ H _ I h) fun u s1 ⟨y, H1, I1, ry, q⟩ => thn (ha pins s1 σ H1 _ I1 q) fun ov s2 ⟨x, H2, I2, rx, a, C, dx, fs, ex, ea, c, n, l, q2⟩ => ?_) hs
  subst ex
  obtain rfl : ov = Value.ref a := rx
  exact setattr_ok I2 ea c n l ry fun s3 I3 => ⟨σ, _, I3, q2⟩
theorem ps_fldaug (ha : PE X o ta) (hv : PE X value tv) (hop : InOp X op rd) : PS X (.AugAssign (.Attribute o f tpos) op value pos) (sFldAug X.K ta tv rd f) := by
  intro pins s σ H D I h
  refine wpAny_AugAssign_AttributeAny (thn (ha pins s σ H _ I h) fun ov s1 ⟨x, H1, I1, rx, a, C, dx, fs, v, ex, ea, c, n, l, q⟩ => ?_)
  subst ex
  obtain rfl : ov = Value.ref a := rx
  refine getattr_ok I1 ea c n l fun u s2 I2 ru => thn (hv pins s2 σ H1 _ I2 q) fun w3 s3 ⟨y, H2, I3, ry, q3⟩ => thn (hop pins s3 σ H2 v y u w3 _ I3 ru ry q3) fun w4 s4 ⟨z, H3, I4, rz, dx', fs', ea', l', q4⟩ => ?_
  exact setattr_ok I4 ea' c n l' rz fun s5 I5 => ⟨σ, _, I5, q4⟩
noncomputable def rAdd : V → V → Hp → VK → Prop := fun x y H Q => ∃ i j, x = .int i ∧ y = .int j ∧ Q (.int (i + j)) H
theorem in_add : InOp X .Add rAdd := by
  rintro pins s σ H x y u v Q I rx ry ⟨i, j, rfl, rfl, q⟩
  obtain ⟨t, rfl⟩ := (show ∃ t, u = Value.int i t from rx)
  obtain ⟨t', rfl⟩ := (show ∃ t', v = Value.int j t' from ry)
  exact PyProof.Rows.iadd_int ⟨.int (i + j), H, I.tok _, ⟨_, rfl⟩, q⟩
end

/-! ### isinstance -/
section
variable {X : Cx} {pins : List (Addr × Obj)} {σ : St} {H : Hp} {s : Shared} {A : Around} {E : Value → Shared → Prop} {Q : Value → Shared → Prop} {c : Value} {b : Bool}
/-- the type of a value, as the fragment's deciders take it; for an instance its class -/
inductive TyOf (K : PySem.W.Frag) (H : Hp) : V → Value → Prop where
  | non : TyOf K H .non (.type "NoneType")
  | bl (x : Bool) : TyOf K H (.bl x) (.type "bool")
  | int (i : Int) : TyOf K H (.int i) (.type "int")
  | str (x : Str) : TyOf K H (.str x) (.type "str")
  | flt (x : UInt64) : TyOf K H (.flt x) (.type "float")
  | lst {a : Addr} {xs : List V} (e : H a = some (.lst xs)) : TyOf K H (.ref a) (.type "list")
  | frz {a : Addr} {o : Obj} {xs : List V} (e : H a = some (.frz o (.lst xs))) : TyOf K H (.ref a) (.type "list")
  | tup {a : Addr} {xs : List V} (e : H a = some (.tup xs)) : TyOf K H (.ref a) (.type "tuple")
  | dK {a : Addr} {kvs : List (Key × V)} (e : H a = some (.dK kvs)) : TyOf K H (.ref a) (.type "dict")
  | dT {a : Addr} {kvs : List (List Key × V)} (e : H a = some (.dT kvs)) : TyOf K H (.ref a) (.type "dict")
  | ins {a C dx : Addr} {fs : List (Str × V)} (e : H a = some (.ins C dx fs)) (cl : Cls K C) (ha : PySem.W.findIn K (.ref C) "__class__" = some (some (.builtin "object.__class__")))
      (hn : PySem.W.specialIn K (.builtin "object.__class__") "__get__" = some (some (.builtin "getset_descriptor.__get__"))) (htk : PySem.W.takesIn K (.builtin "object.__class__") = some true)
      (hm : PySem.W.mroIn K C (.type "object") = some true) : TyOf K H (.ref a) (.ref C)
/-- isinstance(x, c) for one class c, a built-in or an own one: kitOne's answer -/
theorem isinst_ok (I : Inv X pins σ H s) (rx : RelV x u) (ty : TyOf X.K H x t) (e : PySem.W.kitOne X.K t c = some b) (h : ∀ tk, Q (.bool b) { s with toks := tk }) :
    wpAny (model X.prog X.w) A (call (.builtin "isinstance") [u, c]) Q E s := by
  cases ty with
  | non => cases (show u = Value.none from rx); exact PySem.W.kia_one PySem.W.kitx_none I.kIn True.intro e (fun z => nomatch z) h
  | bl y => cases (show u = Value.bool y from rx); exact PySem.W.kia_one PySem.W.kitx_bool I.kIn True.intro e (fun z => nomatch z) h
  | int i => obtain ⟨t, q⟩ := (show ∃ t, u = Value.int i t from rx); cases q; exact PySem.W.kia_one PySem.W.kitx_int I.kIn True.intro e (fun z => nomatch z) h
  | str y => obtain ⟨t, q⟩ := (show ∃ t, u = Value.str y t from rx); cases q; exact PySem.W.kia_one PySem.W.kitx_str I.kIn True.intro e (fun z => nomatch z) h
  | flt y => obtain ⟨t, q⟩ := (show ∃ t, u = Value.float y t from rx); cases q; exact PySem.W.kia_one PySem.W.kitx_float I.kIn True.intro e (fun z => nomatch z) h
  | @lst a xs ea =>
    cases (show u = Value.ref a from rx)
    obtain ⟨_, _, n, _, h1⟩ := (show ObjOk X.prog X.w H s.heap a (.lst xs) from I.hok a _ ea)
    exact PySem.W.kia_one PySem.W.kitx_list I.kIn ⟨_, h1, rfl⟩ e (fun z => nomatch z) h
  | @frz a ob xs ea =>
    cases (show u = Value.ref a from rx)
    obtain ⟨_, _, _, n, _, h1⟩ := (show ObjOk X.prog X.w H s.heap a (.frz ob (.lst xs)) from I.hok a _ ea)
    exact PySem.W.kia_one PySem.W.kitx_list I.kIn ⟨_, h1, rfl⟩ e (fun z => nomatch z) h
  | @tup a xs ea =>
    cases (show u = Value.ref a from rx)
    obtain ⟨_, _, _, p⟩ := (show ObjOk X.prog X.w H s.heap a (.tup xs) from I.hok a _ ea)
    obtain ⟨o, h1, h2, _⟩ := p
    exact PySem.W.kia_one PySem.W.kitx_tuple I.kIn ⟨o, h1, h2⟩ e (fun z => nomatch z) h
  | @dK a kvs ea =>
    cases (show u = Value.ref a from rx)
    obtain ⟨_, _, vs, _, p⟩ := (show ObjOk X.prog X.w H s.heap a (.dK kvs) from I.hok a _ ea)
    obtain ⟨o, es, ep, h1, h2, _⟩ := p
    exact PySem.W.kia_one PySem.W.kitx_dict I.kIn ⟨o, h1, h2.1⟩ e (fun z => nomatch z) h
  | @dT a kvs ea =>
    cases (show u = Value.ref a from rx)
    obtain ⟨_, _, xs, _, o, es, ep, h1, h2, _⟩ := (show ObjOk X.prog X.w H s.heap a (.dT kvs) from I.hok a _ ea)
    exact PySem.W.kia_one PySem.W.kitx_dict I.kIn ⟨o, h1, h2.1⟩ e (fun z => nomatch z) h
  | @ins a C dx fs ea cl ha hn htk hm =>
    cases (show u = Value.ref a from rx)
    obtain ⟨mA, O, _⟩ := ins_get I.hok ea
    obtain ⟨od, J, _⟩ := O.look
    exact PySem.W.kia_one (PySem.W.kitx_own (cl.get _) cl.hd ha hn htk hm) I.kIn J e (fun z => nomatch z) h
end
end L2

namespace L2
open PySem PySem.Spec PyProof.Rows

/-! ### room -/
structure Room (k : Nat) (A : Around) : Prop where
  hd : A.handled = none
  dp : A.depth + 3 * k + 5 < recursionLimit
  un : A.units + 16 * k + 200 < cLine
theorem Room.mono (r : Room k A) (h : j ≤ k) : Room j A := ⟨r.hd, by have := r.dp; omega, by have := r.un; omega⟩
theorem Room.deeper (r : Room (k + 1) A) (env : Env) : Room k (A.deeper env) :=
  ⟨r.hd, by have := r.dp; show A.depth + 1 + 3 * k + 5 < _; omega, by have := r.un; show A.units + 3 + 16 * k + 200 < _; omega⟩
theorem make_depth {A : Around} {C : Addr} {us : List Value} {kw : List (Str × Value)} : (A.under (.builtin "type.__call__" ⟨.ref C :: us, kw⟩)).depth = A.depth + 1 := by
  first | rfl | simp [Around.under, Code.weight, Code.isCreation, Code.isGuard, Code.isCaller, Code.frames, Code.isFrame, guardIds]
theorem make_units {A : Around} {C : Addr} {us : List Value} {kw : List (Str × Value)} : (A.under (.builtin "type.__call__" ⟨.ref C :: us, kw⟩)).units = A.units + 1 := by
  first | rfl | simp [Around.under, Code.cUnits, Code.frames, Code.isFrame]
theorem Room.make (r : Room (k + 1) A) (C : Addr) (us : List Value) (kw : List (Str × Value)) : Room k (A.under (.builtin "type.__call__" ⟨.ref C :: us, kw⟩)) :=
  ⟨r.hd, by have := r.dp; rw [make_depth]; omega, by have := r.un; rw [make_units]; omega⟩
theorem Room.depth (r : Room k A) : A.depth < recursionLimit := by have := r.dp; omega
theorem Room.units (r : Room k A) : A.units + 64 < cLine := by have := r.un; omega
/-! ### argument lists and displays -/
noncomputable def tNil : TA := fun _ H Q => Q [] H
noncomputable def tCons (ta : TE) (tr : TA) : TA := fun σ H Q => ta σ H fun x H1 => tr σ H1 fun xs H2 => Q (x :: xs) H2
section
variable {X : Cx} {e : Expr} {es : List Expr} {te : TE} {t : TA} {pos : Pos}
theorem pa_nil : PA X [] tNil := fun _ _ _ _ H Q I h => Calls.spliced_nil ⟨[], H, I, .nil, h⟩
theorem pa_cons (ha : PE X e te) (hr : PA X es t) (hs : starEach (e :: es) X.env = (false, eval e X.env) :: starEach es X.env := by rfl) : PA X (e :: es) (tCons te t) := by
  intro pos pins s σ H Q I h
  rw [hs]
  show wpAny _ _ (spliced ((false, eval e X.env) :: backTo pos (starEach es X.env))) _ _ s
  refine Calls.spliced_cons (thn (ha pins s σ H _ I h) fun u s1 ⟨x, H1, I1, r1, q1⟩ => ?_)
  exact thn (hr pos pins s1 σ H1 _ I1 q1) fun us s2 ⟨xs, H2, I2, r2, q2⟩ => ⟨x :: xs, H2, I2, .cons r1 r2, q2⟩

/-- a tuple, a list of written items -/
noncomputable def tTup (t : TA) : TE := fun σ H Q => t σ H fun xs H1 => xs.length ≤ sizeLine ∧ ∀ p, H1 p = none → Q (.ref p) (upd H1 p (.tup xs))
noncomputable def tLst (t : TA) : TE := fun σ H Q => t σ H fun xs H1 => xs.length ≤ sizeLine ∧ ∀ p, H1 p = none → Q (.ref p) (upd H1 p (.lst xs))
theorem pe_tup (h : PA X es t) : PE X (.Tuple es x1 pos) (tTup t) := by
  intro pins s σ H Q I hq
  refine wpAny_Tuple_spliced (thn (h pos pins s σ H _ I hq) fun us s1 ⟨xs, H1, I1, r, z, q⟩ => ⟨by rw [← r.length]; exact z, ?_⟩)
  have hf : H1 s1.heap.objs.size = none := I1.hok.fresh (Nat.le_refl _)
  refine ⟨.ref s1.heap.objs.size, upd H1 s1.heap.objs.size (.tup xs), I1.laid (t' := s1.toks) (fun b u e => Heap.get?_push_of_some _ e) (Nat.le_refl _) ?_, rfl, q _ hf⟩
  exact ⟨z, us, r, ⟨_, Heap.get?_push_size _ rfl, rfl, _, rfl⟩⟩
theorem pe_lst (h : PA X es t) : PE X (.List es pos) (tLst t) := by
  intro pins s σ H Q I hq
  refine wpAny_List_spliced (thn (h pos pins s σ H _ I hq) fun us s1 ⟨xs, H1, I1, r, z, q⟩ => ⟨by rw [← r.length]; exact z, ?_⟩)
  have hf : H1 s1.heap.objs.size = none := I1.hok.fresh (Nat.le_refl _)
  refine ⟨.ref s1.heap.objs.size, upd H1 s1.heap.objs.size (.lst xs), I1.laid (t' := s1.toks) (fun b u e => Heap.get?_push_of_some _ e) (Nat.le_refl _) ?_, rfl, q _ hf⟩
  exact ⟨z, us, 0, r, Heap.get?_push_size _ rfl⟩
end

/-! ### what a def promises -/
/-- a def's promise: the bound arguments in the parameters' order, the heap, the wanted end, the wanted exception -/
noncomputable abbrev Sp := List V → Hp → VK → XK → Prop
/-- how an exception lies behind a call (file 08 gives it): the callers' frames, abstract heap and state ahead of the call, the wish, the exception, the state -/
noncomputable abbrev CXT := List Env → Hp → Shared → XK → Value → Shared → Prop

/-- the state at a call -/
structure Env0 (P : Program) (w : World) (K : PySem.W.Frag) (mg : Str → Option Value) (base : Heap) (A : Around) (outer : List Env) (s : Shared) (H : Hp) : Prop where
  frames : A.frames = some outer
  mod : Mod K mg base
  bs : ∀ b o, base.get? b = some o → s.heap.get? b = some o ∧ H b = none
  bsz : base.objs.size ≤ s.heap.objs.size
  funs : s.heap.FunFrames base outer
  frf : Frf K H (frs outer)
  hok : HOk P w H s.heap
  bare : AllBare s.gens
/-- a call's end -/
noncomputable def CE (outer : List Env) (P : Program) (w : World) (H : Hp) (s : Shared) (Q : VK) (u : Value) (s' : Shared) : Prop :=
  ∃ v H', s'.os = s.os ∧ AllBare s'.gens ∧ Un (frs outer) [] H H' s.heap s'.heap ∧ HOk P w H' s'.heap ∧ RelV v u ∧ Q v H'
noncomputable def CR (CX : CXT) (outer : List Env) (P : Program) (w : World) (H : Hp) (s : Shared) (Q : VK) (E : XK) (r : Result) (s' : Shared) : Prop :=
  match r with
  | .ok (.ret u) => CE outer P w H s Q u s'
  | .ok _ => False
  | .error e => CX outer H s E e s'
structure FnOk (P : Program) (w : World) (K : PySem.W.Frag) (mg : Str → Option Value) (base : Heap) (CX : CXT) (k : Nat) (f : Addr) (fd : FuncData) (ps : List Str) (sp : Sp) : Prop where
  len : ∀ vs H Q E, sp vs H Q E → vs.length = ps.length
  run : ∀ (A : Around) (outer : List Env) (s : Shared) (H : Hp) (args : Args) (us : List Value) (vs : List V) (Q : VK) (E : XK), Room k A → Env0 P w K mg base A outer s H → BindsTo s fd args (ps.zip us) → Vals vs us → sp vs H Q E →
    codeAny (model P w) A (.call (.ref f) args) (CR CX outer P w H s Q E) s
theorem FnOk.mono {P : Program} {w : World} {K : PySem.W.Frag} {mg : Str → Option Value} {base : Heap} {CX : CXT} {j k : Nat} {f : Addr} {fd : FuncData} {ps : List Str} {sp : Sp} (F : FnOk P w K mg base CX j f fd ps sp) (h : j ≤ k) :
    FnOk P w K mg base CX k f fd ps sp := ⟨F.len, fun A outer s H args us vs Q E hr => F.run A outer s H args us vs Q E (hr.mono h)⟩
/-- a weaker promise -/
theorem FnOk.imp {P : Program} {w : World} {K : PySem.W.Frag} {mg : Str → Option Value} {base : Heap} {CX : CXT} {k : Nat} {f : Addr} {fd : FuncData} {ps : List Str} {sp sp' : Sp} (F : FnOk P w K mg base CX k f fd ps sp)
    (h : ∀ vs H Q E, sp' vs H Q E → sp vs H Q E) : FnOk P w K mg base CX k f fd ps sp' :=
  ⟨fun vs H Q E q => F.len vs H Q E (h _ _ _ _ q), fun A outer s H args us vs Q E hr he hb hv hs => F.run A outer s H args us vs Q E hr he hb hv (h _ _ _ _ hs)⟩

theorem Env0.make {P : Program} {w : World} {K : PySem.W.Frag} {mg : Str → Option Value} {base : Heap} {A : Around} {outer : List Env} {s : Shared} {H : Hp} (e : Env0 P w K mg base A outer s H) (C : Addr) (us : List Value) (kw : List (Str × Value)) :
    Env0 P w K mg base (A.under (.builtin "type.__call__" ⟨.ref C :: us, kw⟩)) outer s H := ⟨by first | exact e.frames | (simpa [Around.under, Code.envs, Code.isFrame, pushEnvs] using e.frames), e.mod, e.bs, e.bsz, e.funs, e.frf, e.hok, e.bare⟩
section
variable {X : Cx} {pins : List (Addr × Obj)} {σ : St} {H : Hp} {s s' : Shared}
/-- from a body: what a callee wants -/
theorem Inv.env0 (I : Inv X pins σ H s) : Env0 X.prog X.w X.K X.mg X.base X.A X.stack s H :=
  ⟨I.ok.frames, I.ok.mod, I.bs, Nat.le_trans I.ok.bsz I.sz, I.stack, ⟨I.stkFree, fun x h => let ⟨ps, e⟩ := I.ok.frf.t x h; let ⟨more, e'⟩ := I.base.tbls x.2.1 _ e; ⟨ps ++ more, e'⟩⟩, I.hok, I.bare⟩
/-- behind a call -/
theorem Inv.after (I : Inv X pins σ H s) (h : CE X.stack X.prog X.w H s Q u s') : EP X pins σ Q u s' := by
  obtain ⟨v, H', os, bare, un, hok, r, q⟩ := h
  obtain ⟨hh, g, d, t, os'⟩ := s'
  obtain rfl : os' = s.os := os
  exact ⟨v, H', I.call (h' := hh) (g' := g) (d' := d) (t' := t) (ch := []) un hok bare (fun b z => absurd z (by simp)), r, q⟩
end

/-! ### calls -/
/-- f(..): the written arguments, then the defaults dvs; E: what is wanted of an exception -/
noncomputable def tCall (sp : Sp) (dvs : List V) (E : XK) (t : TA) : TE := fun σ H Q => t σ H fun vs H1 => sp (vs ++ dvs) H1 Q E
/-- o.m(..) of an instance of the class at C -/
noncomputable def tMeth (C : Addr) (m : Str) (sp : Sp) (dvs : List V) (E : XK) (ta : TE) (t : TA) : TE := fun σ H Q => ta σ H fun x H1 => ∃ a dx fs, x = .ref a ∧ H1 a = some (.ins C dx fs) ∧ fs.lookup m = none ∧
  t σ H1 fun vs H2 => sp (x :: (vs ++ dvs)) H2 Q E
/-- C(..): a new instance and its dict, then __init__ -/
noncomputable def tMake (C : Addr) (sp : Sp) (dvs : List V) (E : XK) (t : TA) : TE := fun σ H Q => t σ H fun vs H1 => ∀ x dx, H1 x = none → H1 dx = none → dx ≠ x →
  sp (.ref x :: (vs ++ dvs)) (upd (upd H1 dx (.own x)) x (.ins C dx [])) (fun v H2 => v = .non ∧ Q (.ref x) H2) E

/-- how the parameters are bound: us the positional arguments, kw the keywords' values by name, ds the defaults that fill up -/
noncomputable def Binds (K : PySem.W.Frag) (fd : FuncData) (ps : List Str) (ds : List Value) : Prop :=
  ∀ (s : Shared) (us : List Value), K.In s.heap → (us ++ ds).length = ps.length → BindsTo s fd ⟨us, []⟩ (ps.zip (us ++ ds))
/-- every parameter is given -/
theorem Binds.all {K : PySem.W.Frag} {fd : FuncData} {ps : List Str} (h : ∀ us : List Value, us.length = ps.length → bindArgs fd ⟨us, []⟩ = pure (ps.zip us)) : Binds K fd ps [] := fun s us _ hl => by
  rw [List.append_nil] at hl ⊢
  exact .of_eq (h us hl)

/-- an exception of a callee reaches what this body wants of exceptions -/
noncomputable def Passes (CX : CXT) (X : Cx) (E : XK) : Prop := ∀ (pins : List (Addr × Obj)) (σ : St) (H : Hp) (s : Shared) (e : Value) (s' : Shared), Inv X pins σ H s → CX X.stack H s E e s' → X.xe e s'

section
variable {X : Cx} {CX : CXT} {k : Nat} {f C : Addr} {fd : FuncData} {ps : List Str} {sp : Sp} {dvs : List V} {ds : List Value} {E : XK} {x m : Str} {p pos apos : Pos} {e o : Expr} {es : List Expr} {ta : TE} {t : TA}

/-- the callee runs -/
theorem run_fn (F : FnOk X.prog X.w X.K X.mg X.base CX k f fd ps sp) (hr : Room k X.A) (hb : Binds X.K fd ps ds) (hd : Vals dvs ds) (hx : Passes CX X E)
    (I : Inv X pins σ H s) (r : Vals vs us) (h : sp (vs ++ dvs) H Q E) : wpAny (model X.prog X.w) X.A (call (.ref f) us) (EP X pins σ Q) X.xe s := by
  have r2 : Vals (vs ++ dvs) (us ++ ds) := r.append hd
  have hl : (us ++ ds).length = ps.length := by rw [← r2.length]; exact F.len _ _ _ _ h
  refine wpAny_call (codeAny_mono (F.run X.A X.stack s H ⟨us, []⟩ (us ++ ds) (vs ++ dvs) Q E hr I.env0 (hb s us I.kIn hl) r2 h) fun r s' hq => ?_)
  cases r with
  | error e => exact hx pins σ H s e s' I hq
  | ok fl =>
    cases fl with
    | ret u => exact I.after hq
    | next => exact False.elim hq
    | brk => exact False.elim hq
    | cont => exact False.elim hq

theorem pe_call (F : FnOk X.prog X.w X.K X.mg X.base CX k f fd ps sp) (hr : Room k X.A) (hg : Gl X x) (hm : X.mg x = some (.ref f)) (hk : PySem.W.keepIn X.K (.ref f) = true) (hb : Binds X.K fd ps ds) (hd : Vals dvs ds) (hx : Passes CX X E)
    (ha : PA X (e :: es) t) (hdb : (x == ("__debug__" : Str)) = false := by decide) (he : starEach (e :: es) X.env = (false, eval e X.env) :: starEach es X.env := by rfl) (hpl : (backTo pos (starEach es X.env)).any (·.1) = false := by rfl) :
    PE X (.Call (.Name x p) (e :: es) [] pos) (tCall sp dvs E t) := by
  intro pins s σ H Q I h
  refine wpAny_Call_Name_kw (ld_glob I hg hm ?_ hdb)
  refine PySem.W.callWith_K (h₀ := X.base) I.ok.mod.kin hk (thn (ha pos pins s σ H _ I h) fun us s1 ⟨vs, H1, I1, r, q⟩ => ⟨I1.kIn, ?_⟩) he hpl
  exact run_fn F hr hb hd hx I1 r q
/-- o.m(e, ..) -/
theorem pe_meth (he : PE X o ta) (c : Cls X.K C) (hm : Meth X.K C m f) (F : FnOk X.prog X.w X.K X.mg X.base CX k f fd ps sp) (hr : Room k X.A) (hb : Binds X.K fd ps ds) (hd : Vals dvs ds) (hx : Passes CX X E) (ha : PA X (e :: es) t)
    (hst : starEach (e :: es) X.env = (false, eval e X.env) :: starEach es X.env := by rfl) (hpl : (backTo pos (starEach es X.env)).any (·.1) = false := by rfl)
    (ht : eval (.Call (.Attribute o m apos) (e :: es) [] pos) X.env = (do
      let ov ← eval o X.env
      standAt apos.atName
      let (f, first) ← holding [ov] (getMethod ov m pl)
      callWith pos f first (backTo pos (starEach (e :: es) X.env)) (backToKw pos (keywordEach [] X.env))) := by rfl) :
    PE X (.Call (.Attribute o m apos) (e :: es) [] pos) (tMeth C m sp dvs E ta t) := by
  intro pins s σ H Q I h
  refine PySem.W.methodCall_KW (pl := pl) (thn (he pins s σ H _ I h) fun u s1 ⟨x, H1, I1, rx, a, dx, fs, ex, ea, l, q⟩ => ?_) ht
  subst ex
  obtain rfl : u = Value.ref a := rx
  refine getmeth_ok I1 ea c hm l ?_
  refine PySem.W.callWith_K (first := [.ref a]) (h₀ := X.base) I.ok.mod.kin hm.kp (thn (ha pos pins s1 σ H1 _ I1 q) fun us s2 ⟨vs, H2, I2, r, q2⟩ => ⟨I2.kIn, ?_⟩) hst hpl
  exact run_fn (us := .ref a :: us) (vs := .ref a :: vs) F hr hb hd hx I2 (.cons rfl r) q2
/-- o.m() -/
theorem pe_meth0 (he : PE X o ta) (c : Cls X.K C) (hm : Meth X.K C m f) (F : FnOk X.prog X.w X.K X.mg X.base CX k f fd ps sp) (hr : Room k X.A) (hb : Binds X.K fd ps ds) (hd : Vals dvs ds) (hx : Passes CX X E)
    (ht : eval (.Call (.Attribute o m apos) [] [] pos) X.env = (do
      let ov ← eval o X.env
      standAt apos.atName
      let (f, first) ← holding [ov] (getMethod ov m pl)
      callWith pos f first (backTo pos (starEach [] X.env)) (backToKw pos (keywordEach [] X.env))) := by rfl) :
    PE X (.Call (.Attribute o m apos) [] [] pos) (tMeth C m sp dvs E ta tNil) := by
  intro pins s σ H Q I h
  refine PySem.W.methodCall_KW (pl := pl) (thn (he pins s σ H _ I h) fun u s1 ⟨x, H1, I1, rx, a, dx, fs, ex, ea, l, q⟩ => ?_) ht
  subst ex
  obtain rfl : u = Value.ref a := rx
  refine getmeth_ok I1 ea c hm l ?_
  exact PySem.W.callWith_K0 (first := [.ref a]) I1.kIn hm.kp (run_fn (us := [.ref a]) (vs := [.ref a]) F hr hb hd hx I1 (.cons rfl .nil) q)

/-- what a class must have to be made -/
structure Mk (K : PySem.W.Frag) (C f : Addr) : Prop where
  makes : PySem.W.makesIn K C = true
  init : PySem.W.findIn K (.ref C) "__init__" = some (some (.ref f))
  fn : PySem.W.isFn K (.ref f) = true
  kp : PySem.W.keepIn K (.ref C) = true

theorem run_make (M : Mk X.K C f) (F : FnOk X.prog X.w X.K X.mg X.base CX k f fd ps sp) (hr : Room (k + 1) X.A) (hb : Binds X.K fd ps ds) (hd : Vals dvs ds)
    (hx : Passes CX X E) (I : Inv X pins σ H s) (r : Vals vs us)
    (h : ∀ x dx, H x = none → H dx = none → dx ≠ x → sp (.ref x :: (vs ++ dvs)) (upd (upd H dx (.own x)) x (.ins C dx [])) (fun v H2 => v = .non ∧ Q (.ref x) H2) E) :
    wpAny (model X.prog X.w) X.A (call (.ref C) us) (EP X pins σ Q) X.xe s := by
  have hq := h (s.heap.objs.size + 1) s.heap.objs.size (I.hok.fresh (Nat.le_succ _)) (I.hok.fresh (Nat.le_refl _)) (Nat.ne_of_lt (Nat.lt_succ_self _))
  have I2 := Inv.made (C := C) I
  have r2 : Vals (V.ref (s.heap.objs.size + 1) :: (vs ++ dvs)) (Value.ref (s.heap.objs.size + 1) :: (us ++ ds)) := .cons rfl (r.append hd)
  have hl : (Value.ref (s.heap.objs.size + 1) :: us ++ ds).length = ps.length := by
    have e := r2.length
    rw [F.len _ _ _ _ hq] at e
    exact e.symm
  refine wpAny_call (make_map (f := f) I.kIn M.makes M.init (beq_iff_eq.mp M.fn) (codeAny_mono (F.run _ X.stack _ _ ⟨Value.ref (s.heap.objs.size + 1) :: us, []⟩ (Value.ref (s.heap.objs.size + 1) :: (us ++ ds)) _ _ E (hr.make C us [])
    (I2.env0.make C us []) (hb _ (Value.ref (s.heap.objs.size + 1) :: us) I2.kIn hl) r2 hq) fun r s' hq' => ?_))
  cases r with
  | error e => exact hx pins σ _ _ e s' I2 hq'
  | ok fl =>
    cases fl with
    | ret u =>
      obtain ⟨v, H', I3, rv, ev, q3⟩ := I2.after hq'
      subst ev
      exact ⟨rv, ⟨V.ref (s.heap.objs.size + 1), H', I3, rfl, q3⟩⟩
    | next => exact False.elim hq'
    | brk => exact False.elim hq'
    | cont => exact False.elim hq'
theorem pe_make (M : Mk X.K C f) (F : FnOk X.prog X.w X.K X.mg X.base CX k f fd ps sp) (hr : Room (k + 1) X.A) (hg : Gl X x) (hm : X.mg x = some (.ref C)) (hb : Binds X.K fd ps ds) (hd : Vals dvs ds) (hx : Passes CX X E)
    (ha : PA X (e :: es) t) (hdb : (x == ("__debug__" : Str)) = false := by decide) (he : starEach (e :: es) X.env = (false, eval e X.env) :: starEach es X.env := by rfl) (hpl : (backTo pos (starEach es X.env)).any (·.1) = false := by rfl) :
    PE X (.Call (.Name x p) (e :: es) [] pos) (tMake C sp dvs E t) := by
  intro pins s σ H Q I h
  refine wpAny_Call_Name_kw (ld_glob I hg hm ?_ hdb)
  refine PySem.W.callWith_K (h₀ := X.base) I.ok.mod.kin M.kp (thn (ha pos pins s σ H _ I h) fun us s1 ⟨vs, H1, I1, r, q⟩ => ⟨I1.kIn, ?_⟩) he hpl
  exact run_make M F hr hb hd hx I1 r q
theorem pe_make0 (M : Mk X.K C f) (F : FnOk X.prog X.w X.K X.mg X.base CX k f fd ps sp) (hr : Room (k + 1) X.A) (hg : Gl X x) (hm : X.mg x = some (.ref C)) (hb : Binds X.K fd ps ds) (hd : Vals dvs ds) (hx : Passes CX X E)
    (hdb : (x == ("__debug__" : Str)) = false := by decide) : PE X (.Call (.Name x p) [] [] pos) (tMake C sp dvs E tNil) := by
  intro pins s σ H Q I h
  refine wpAny_Call_Name_kw (ld_glob I hg hm ?_ hdb)
  exact PySem.W.callWith_K0 I.kIn M.kp (run_make (us := []) M F hr hb hd hx I .nil h)
end

/-! ### keywords -/
section
variable {X : Cx} {CX : CXT} {k : Nat} {f C : Addr} {fd : FuncData} {ps ks : List Str} {sp : Sp} {E : XK} {x m : Str} {p pos apos kpos : Pos} {e o : Expr} {es : List Expr} {kws : List Keyword} {te ta : TE} {t tk : TA} {nm : Option Str}
variable {g : List Value → List Value → List Value} {gV : List V → List V → List V}
end

/-! ### a def's body keeps its promise -/
/-- names: the parameters first -/
structure FnScope (N P : List Str) (sc : Scope) : Prop where
  kind : sc.kind = .function
  co : sc.isCoroutine = false
  gen : sc.isGenerator = false
  nd : N.Nodup
  pre : N.take P.length = P
  par : ∀ x ∈ P, sc.names.lookup x = some .local ∨ sc.names.lookup x = some .cell
  nofree : ∀ y ∈ sc.names, y.2 ≠ .free

theorem bindL_out {kindOf : Str → Option NameKind} : ∀ {binds : List (Str × Value)} {m : Str → Option Value}, (∀ v, (x, v) ∉ binds) → bindL kindOf binds m x = m x
  | [], _, _ => rfl
  | (n, v) :: r, m, h => by
    unfold bindL
    rw [bindL_out fun w hw => h w (List.mem_cons_of_mem _ hw)]
    split
    · have : x ≠ n := by rintro rfl; exact h v List.mem_cons_self
      simp [this]
    · rfl
theorem bindC_out {kindOf : Str → Option NameKind} : ∀ {binds : List (Str × Value)} {m : Str → Option Value}, (∀ v, (x, v) ∉ binds) → bindC kindOf binds m x = m x
  | [], _, _ => rfl
  | (n, v) :: r, m, h => by
    unfold bindC
    rw [bindC_out fun w hw => h w (List.mem_cons_of_mem _ hw)]
    split
    · rfl
    · have : x ≠ n := by rintro rfl; exact h v List.mem_cons_self
      simp [this]
theorem bindL_get {kindOf : Str → Option NameKind} : ∀ {P : List Str} {vs : List Value} {i : Nat} {m : Str → Option Value}, P.Nodup → P[i]? = some x → vs[i]? = some v → kindOf x = some .local →
    bindL kindOf (P.zip vs) m x = some v
  | [], _, _, _, _, h, _, _ => by simp at h
  | _ :: _, [], _, _, _, _, h, _ => by simp at h
  | p :: P, w :: vs, 0, m, nd, h1, h2, hk => by
    simp at h1 h2; subst h1; subst h2
    show bindL kindOf ((p, w) :: P.zip vs) m p = _
    unfold bindL
    rw [bindL_out fun v hv => (List.nodup_cons.mp nd).1 (List.of_mem_zip hv).1, if_pos hk]
    simp
  | p :: P, w :: vs, i + 1, m, nd, h1, h2, hk => by
    show bindL kindOf ((p, w) :: P.zip vs) m x = _
    unfold bindL
    exact bindL_get (i := i) (List.nodup_cons.mp nd).2 (by simpa using h1) (by simpa using h2) hk
theorem bindC_get {kindOf : Str → Option NameKind} : ∀ {P : List Str} {vs : List Value} {i : Nat} {m : Str → Option Value}, P.Nodup → P[i]? = some x → vs[i]? = some v → kindOf x ≠ some .local →
    bindC kindOf (P.zip vs) m x = some v
  | [], _, _, _, _, h, _, _ => by simp at h
  | _ :: _, [], _, _, _, _, h, _ => by simp at h
  | p :: P, w :: vs, 0, m, nd, h1, h2, hk => by
    simp at h1 h2; subst h1; subst h2
    show bindC kindOf ((p, w) :: P.zip vs) m p = _
    unfold bindC
    rw [bindC_out fun v hv => (List.nodup_cons.mp nd).1 (List.of_mem_zip hv).1, if_neg hk]
    simp
  | p :: P, w :: vs, i + 1, m, nd, h1, h2, hk => by
    show bindC kindOf ((p, w) :: P.zip vs) m x = _
    unfold bindC
    exact bindC_get (i := i) (List.nodup_cons.mp nd).2 (by simpa using h1) (by simpa using h2) hk

/-- the names' values at the entry -/
noncomputable def start (N : List Str) (vs : List V) : St := vs.map some ++ List.replicate (N.length - vs.length) none

/-- the context of a def's body, at its entry; an exception leaves the frame, then lies as CX says -/
noncomputable def cxOf (CX : CXT) (P : Program) (w : World) (K : PySem.W.Frag) (mg : Str → Option Value) (base : Heap) (N : List Str) (qual : Str) (scope : Scope) (f : Addr) (cd : Value) (A : Around) (outer : List Env) (s : Shared) (H : Hp) (E : XK) : Cx where
  prog := P
  w := w
  K := K
  mg := mg
  base := base
  A := A.deeper (envOfC qual scope s.heap.objs.size f cd)
  N := N
  s₀ := s
  H₀ := H
  env := envOfC qual scope s.heap.objs.size f cd
  outer := outer
  stack := envOfC qual scope s.heap.objs.size f cd :: outer
  ex := []
  calm := true
  fn := fun _ => true
  pn := []
  xe := fun e s' => wpAny (model P w) (A.deeper (envOfC qual scope s.heap.objs.size f cd)) (leaving (envOfC qual scope s.heap.objs.size f cd) e) (fun _ s'' => CX outer H s E e s'') (fun e' s'' => CX outer H s E e' s'') s'

theorem cell_has {sc : Scope} {n : Nat} {x : Str} (h : sc.names.lookup x = some .cell) : ∃ c, (cellsFrom n sc.names []).lookup x = some c := by
  have q := PySem.W.cellsFrom_some sc.names n [] (.inl h)
  exact Option.isSome_iff_exists.mp q

theorem inv_start {CX : CXT} {P : Program} {w : World} {K : PySem.W.Frag} {mg : Str → Option Value} {base : Heap} {N ps : List Str} {qual : Str} {scope : Scope} {f : Addr} {cd : Value} {A : Around} {outer : List Env} {s s1 : Shared} {H : Hp} {E : XK} {us : List Value} {vs : List V}
    (S : FnScope N ps scope) (hd : A.handled = none) (e0 : Env0 P w K mg base A outer s H) (hl : vs.length = ps.length) (r : Vals vs us)
    (x : InCallC s s.heap.objs.size (bindL (envOfC qual scope s.heap.objs.size f cd).kindOf (ps.zip us) fun _ => none) (cellsFrom (s.heap.objs.size + 1) scope.names []) (bindC (envOfC qual scope s.heap.objs.size f cd).kindOf (ps.zip us) fun _ => none) s1) :
    Inv (cxOf CX P w K mg base N qual scope f cd A outer s H E) [] (start N vs) H s1 := by
  have hpl : ps.length ≤ N.length := by have := congrArg List.length S.pre; rw [List.length_take] at this; omega
  obtain ⟨h1, tk, rfl, hk⟩ := x.done
  have noA : ∀ b : Addr, b ∉ (cxOf CX P w K mg base N qual scope f cd A outer s H E).ex := fun b z => absurd (show b ∈ ([] : List Addr) from z) (by simp)
  refine ⟨⟨e0.mod, S.kind, rfl, rfl, Nat.le_refl _, fun y z c h1 h2 => ?_, fun y hy => ?_, fun y c _ h => ?_, fun _ => hd, Around.frames_deeper e0.frames, .inr ⟨rfl, rfl⟩, fun b z => absurd z (noA b), e0.bs, e0.bsz, fun b _ _ => noA b, fun b z => absurd z (noA b), e0.funs, e0.frf⟩,
    rfl, e0.bare, Un.kept hk, ⟨_, x.toInCall.ns, fun i y v h1 h2 h3 => ?_⟩, fun y c h => ⟨_, x.cell y c h⟩, e0.hok.fresh (Nat.le_refl _), fun y c h => ?_, fun p hp => absurd (show p ∈ ([] : List (Addr × Obj)) from hp) (by simp), e0.hok.kept hk, ?_⟩
  · exact name_of_addr x.apart (PySem.mem_of_lookup h1) (PySem.mem_of_lookup h2)
  · have hy : scope.names.lookup y = some .cell ∨ scope.names.lookup y = some .free := hy
    rcases hy with hy | hy
    · exact cell_has hy
    · exact absurd rfl (S.nofree _ (PySem.mem_of_lookup hy))
  · exact Nat.le_of_lt (x.above y c (PySem.mem_of_lookup h))
  · have hi : i < vs.length := by
      unfold start at h2
      by_cases hi : i < vs.length
      · exact hi
      · rw [List.getElem?_append_right (by simpa using hi)] at h2
        rw [List.getElem?_replicate] at h2
        split at h2 <;> cases h2
    have ha : vs[i]? = some v := by
      unfold start at h2
      rw [List.getElem?_append_left (by simpa using hi), List.getElem?_map] at h2
      cases e : vs[i]? with
      | none => rw [e] at h2; cases h2
      | some a => rw [e] at h2; cases h2; rfl
    obtain ⟨u, hu, rv⟩ := r.get ha
    have hp : ps[i]? = some y := by
      rw [← S.pre, List.getElem?_take_of_lt (by omega)]; exact h1
    have ndP : ps.Nodup := by rw [← S.pre]; exact S.nd.sublist (List.take_sublist _ _)
    refine ⟨u, rv, ?_⟩
    rcases S.par y (List.mem_of_getElem? hp) with k | k
    · exact .inl ⟨k, bindL_get ndP hp hu k⟩
    · obtain ⟨c, e⟩ := cell_has (n := s.heap.objs.size + 1) k
      refine .inr ⟨.inl k, c, e, ?_⟩
      have q := x.cell y c e
      rw [bindC_get ndP hp hu (by show scope.names.lookup y ≠ _; rw [k]; decide)] at q
      exact q
  · exact e0.hok.fresh (Nat.le_of_lt (x.above y c (PySem.mem_of_lookup h)))
  · unfold start
    show _ = N.length
    rw [List.length_append, List.length_map, List.length_replicate]
    omega

/-- THE RULE: a def (or a method) of the text, by its body. The body's reading t is chosen for each entry; it is run at the parameters' values -/
theorem fn_of {CX : CXT} {P : Program} {w : World} {K : PySem.W.Frag} {mg : Str → Option Value} {base : Heap} {k : Nat} {f : Addr} {name qual : Str} {params : Arguments} {body : List Stmt} {scope : Scope} {dV kV doc pm cdv ct oc : Value} {an od : Option Addr}
    {osl : Array (Option Value)} {N ps : List Str} {sp : Sp} (lk : K.lookup f = some ⟨oc, od, .func (PySem.W.fnOf name qual params body scope dV kV doc pm an cdv ct), osl⟩) (hcd : PySem.W.codeIn K cdv qual = true) (S : FnScope N ps scope)
    (len : ∀ vs H Q E, sp vs H Q E → vs.length = ps.length)
    (hbody : ∀ (A : Around) (outer : List Env) (s : Shared) (H : Hp) (vs : List V) (Q : VK) (E : XK), Room k (A.deeper (envOfC qual scope s.heap.objs.size f cdv)) → sp vs H Q E →
      ∃ t, PSs (cxOf CX P w K mg base N qual scope f cdv A outer s H E) body t ∧ t { nx := fun _ H' => Q .non H', rt := Q } (start N vs) H) :
    FnOk P w K mg base CX (k + 1) f (PySem.W.fnOf name qual params body scope dV kV doc pm an cdv ct) ps sp := by
  refine ⟨len, fun A outer s H args us vs Q E hr e0 hb r hsp => ?_⟩
  have hl := len _ _ _ _ hsp
  have KX : K.In s.heap := e0.mod.kin.keeps fun b o e => (e0.bs b o e).1
  have lim : s.heap.NoLimit := e0.mod.nolimit.keeps fun b o e => (e0.bs b o e).1
  have hkind : ∀ y ∈ ps.zip us, scope.names.lookup y.1 = some .local ∨ (scope.names.lookup y.1 = some .cell ∧ ((cellsFrom (s.heap.objs.size + 1) scope.names []).lookup y.1).isSome = true) := fun ⟨n, v⟩ hy => by
    rcases S.par n (List.of_mem_zip hy).1 with q | q
    · exact .inl q
    · exact .inr ⟨q, PySem.W.cellsFrom_some _ _ _ (.inl q)⟩
  refine codeAny_call_function hr.depth (KX _ _ lk) rfl S.co S.gen rfl (PySem.W.codeRec_of KX hcd) (hb _ _ _ _ ?_)
  refine wpAny_newFunctionEnv_cells S.kind hkind fun env he s1 x => ?_
  subst he
  refine ⟨lim.keeps x.toInCall.keep, codeAny_func ?_⟩
  obtain ⟨t, ht, hq⟩ := hbody A outer s H vs Q E (hr.deeper _) hsp
  have I : Inv (cxOf CX P w K mg base N qual scope f cdv A outer s H E) [] (start N vs) H s1 := inv_start S hr.hd e0 hl r x
  refine wpAny_mono (ht [] s1 (start N vs) H _ I hq) (fun fl s' hs => ?_) fun e s' hs => hs
  have fin : ∀ {σ' : St} {H' : Hp} {v : V} {u : Value}, Inv (cxOf CX P w K mg base N qual scope f cdv A outer s H E) [] σ' H' s' → RelV v u → Q v H' → CE outer P w H s Q u s' :=
    fun {σ' H' v u} J rv q => ⟨v, H', J.os, J.bare, J.base, J.hok, rv, q⟩
  cases fl with
  | ret u =>
    obtain ⟨v, σ', H', J, rv, q⟩ := hs
    exact fin J rv q
  | next =>
    obtain ⟨σ', H', J, q⟩ := hs
    exact fin (v := V.non) (u := Value.none) J rfl q
  | brk =>
    obtain ⟨_, _, _, q⟩ := hs
    exact False.elim q
  | cont =>
    obtain ⟨_, _, _, q⟩ := hs
    exact False.elim q
end L2

namespace L2
open PySem PySem.Spec PyProof.Rows
section
variable {X : Cx} {x : Str} {p pos : Pos} {e : Expr} {es : List Expr} {t : TA} {id T : String} {r : List V → Hp → VK → Prop}

noncomputable def tCB (r : List V → Hp → VK → Prop) (t : TA) : TE := fun σ H Q => t σ H fun vs H1 => r vs H1 Q
/-- f(e, ..), f a built-in function -/
theorem pe_callB (hc : CallR X (.builtin id) r) (hg : Gl X x) (hm : X.mg x = none) (hv : bootBuiltins x = some (.builtin id)) (ha : PA X (e :: es) t) (hn : x ≠ "__name__" := by decide) (hdb : (x == ("__debug__" : Str)) = false := by decide)
    (he : starEach (e :: es) X.env = (false, eval e X.env) :: starEach es X.env := by rfl) (hpl : (backTo pos (starEach es X.env)).any (·.1) = false := by rfl) : PE X (.Call (.Name x p) (e :: es) [] pos) (tCB r t) := by
  intro pins s σ H Q I h
  refine wpAny_Call_Name_kw (ld_blt I hg hm hv ?_ hn hdb)
  exact PyProof.Rows.callWith_builtin1 (thn (ha pos pins s σ H _ I h) fun us s1 ⟨vs, H1, I1, r1, q1⟩ => hc pins s1 σ H1 vs us Q I1 r1 q1) he hpl
/-- T(e, ..), T a built-in type -/
theorem pe_callTy (hc : CallR X (.type T) r) (hg : Gl X x) (hm : X.mg x = none) (hv : bootBuiltins x = some (.type T)) (ha : PA X (e :: es) t) (hn : x ≠ "__name__" := by decide) (hdb : (x == ("__debug__" : Str)) = false := by decide)
    (he : starEach (e :: es) X.env = (false, eval e X.env) :: starEach es X.env := by rfl) (hpl : (backTo pos (starEach es X.env)).any (·.1) = false := by rfl) : PE X (.Call (.Name x p) (e :: es) [] pos) (tCB r t) := by
  intro pins s σ H Q I h
  refine wpAny_Call_Name_kw (ld_blt I hg hm hv ?_ hn hdb)
  exact PyProof.Rows.callWith_type1 (thn (ha pos pins s σ H _ I h) fun us s1 ⟨vs, H1, I1, r1, q1⟩ => hc pins s1 σ H1 vs us Q I1 r1 q1) he hpl
end
end L2

namespace HT
open PySem PyProof.Rows

section
open PySem.SeqAt
open PySem.AutoSeq1 (wpAny_loadPart')
open PySem.MeetsSeq PySem.MeetsSeq2 PySem.MeetsSeq3

end

section
variable {prog : Program} {w : World} {A : Around} {E : Value → Shared → Prop} {s : Shared}

/-! ### t[a:b], not the whole -/
/-- a slice's bound as a place among n (d where it is left out) -/
noncomputable def sIx (n d : Nat) : Option Int → Nat
  | none => d
  | some v => if v < 0 then (v + (n : Int)).toNat else min v.toNat n
end
end HT

namespace L2
open PySem PySem.Spec PyProof.Rows

/-! ### the parts of a slice -/
noncomputable abbrev TO := St → Hp → (Option Int → Hp → Prop) → Prop
/-- a slice's part (left out, or an int) -/
noncomputable def PO (X : Cx) (e : Option Expr) (t : TO) : Prop :=
  ∀ (pins : List (Addr × Obj)) (s : Shared) (σ : St) (H : Hp) (Q : Option Int → Hp → Prop), Inv X pins σ H s → t σ H Q →
    wpAny (model X.prog X.w) X.A (evalPart e X.env) (fun u s' => ∃ o H', Inv X pins σ H' s' ∧ IsPart u o ∧ Q o H') X.xe s
noncomputable def tNoPart : TO := fun _ H Q => Q none H
noncomputable def tPart (t : TE) : TO := fun σ H Q => t σ H fun x H1 => ∃ i, x = .int i ∧ Q (some i) H1

section
variable {X : Cx} {e : Expr} {te : TE} {lo hi : Option Expr} {tl th : TO} {pos p2 : Pos}

theorem po_none : PO X none tNoPart := by
  intro pins s σ H Q I h
  rw [evalPart_none]
  exact wpAny_pure ⟨none, H, I, .none, h⟩
theorem po_some (h : PE X e te) : PO X (some e) (tPart te) := by
  intro pins s σ H Q I hw
  rw [evalPart_some]
  refine thn (h pins s σ H _ I hw) fun u s1 ⟨x, H1, I1, r1, q1⟩ => ?_
  obtain ⟨i, rfl, q⟩ := q1
  obtain ⟨t, rfl⟩ := r1
  exact ⟨some i, H1, I1, .int i t, q⟩

/-- what a slice of a value is, by values: the slice object stands at sl -/
noncomputable def SlR (X : Cx) (r : V → Option Int → Option Int → Hp → VK → Prop) : Prop :=
  ∀ (pins : List (Addr × Obj)) (s : Shared) (σ : St) (H : Hp) (x : V) (v vl vu : Value) (lo hi : Option Int) (sl : Addr) (Q : VK), Inv X pins σ H s → RelV x v → s.heap.IsSliceOf sl vl vu .none → IsPart vl lo → IsPart vu hi → r x lo hi H Q →
    ∃ T id, typeLookup (.type T) "__getitem__" = pure (some (.builtin id)) ∧ s.TypeIs v T ∧ wpAny (model X.prog X.w) X.A (getItem v (.ref sl)) (EP X pins σ Q) X.xe s
noncomputable def tSl (r : V → Option Int → Option Int → Hp → VK → Prop) (te : TE) (tl th : TO) : TE := fun σ H Q => te σ H fun x H1 => tl σ H1 fun l H2 => th σ H2 fun u H3 => r x l u H3 Q
/-- a[lo:hi], any a -/
theorem pe_slice (hr : SlR X r) (he : PE X e te) (hl : PO X lo tl) (hu : PO X hi th) : PE X (.Subscript e (.Slice lo hi none p2) pos) (tSl r te tl th) := by
  intro pins s σ H Q I h
  refine Subscript_ (thn (he pins s σ H _ I h) fun v s1 ⟨x, H1, I1, r1, q1⟩ => ?_)
  refine wpAny_Slice (thn (hl pins s1 σ H1 _ I1 q1) fun vl s2 ⟨l, H2, I2, pl, q2⟩ => thn (hu pins s2 σ H2 _ I2 q2) fun vu s3 ⟨u, H3, I3, pu, q3⟩ => ?_)
  rw [evalPart_none]
  refine wpAny_pure ?_
  have I4 : Inv X pins σ H3 { s3 with heap := s3.heap.push { cls := .type "slice", data := .fields #[vl, vu, .none] } } := I3.kept (t' := s3.toks) fun b ob q => Heap.get?_push_of_some _ q
  obtain ⟨T, id, hT, ht, hg⟩ := hr pins { s3 with heap := s3.heap.push { cls := .type "slice", data := .fields #[vl, vu, .none] } } σ H3 x v vl vu l u s3.heap.objs.size Q I4 r1 (Heap.IsSliceOf.new ..) pl pu q3
  show wpAny (model X.prog X.w) X.A (subscriptTail e (.Slice lo hi none p2) v (.ref s3.heap.objs.size)) (EP X pins σ Q) X.xe { s3 with heap := s3.heap.push { cls := .type "slice", data := .fields #[vl, vu, .none] } }
  exact tail_any (ops := [.ref s3.heap.objs.size, v]) ht hT hg (by with_unfolding_all rfl)

/-- the items of xs[lo:hi] -/
noncomputable def cutV (xs : List V) (lo hi : Option Int) : List V := (xs.drop (HT.sIx xs.length 0 lo)).take (HT.sIx xs.length xs.length hi - HT.sIx xs.length 0 lo)
theorem cutV_length (xs : List V) (lo hi : Option Int) : (cutV xs lo hi).length ≤ xs.length := by
  unfold cutV
  rw [List.length_take, List.length_drop]
  omega
/-! ### t < u, t + u -/
end
end L2

namespace L2
open PySem PySem.Spec PyProof.Rows

/-! ### places -/
/-- the place that an index of any sign means -/
noncomputable def ixN (n : Nat) (i : Int) : Option Nat := if 0 ≤ i then (if i < n then some i.toNat else none) else if -(n : Int) ≤ i then some (i + n).toNat else none
noncomputable def atI {α : Type} (xs : List α) (i : Int) : Option α := (ixN xs.length i).bind fun j => xs[j]?
theorem ixN_seq (h : ixN n i = some j) : seqIndex? i n = some j ∧ j < n ∧ -(n : Int) ≤ i ∧ i < n := by
  unfold ixN at h
  by_cases h0 : 0 ≤ i
  · rw [if_pos h0] at h
    by_cases h1 : i < n
    · rw [if_pos h1] at h
      have e : i.toNat = j := Option.some.inj h
      exact ⟨by rw [seqIndex_of h0 h1, e], by omega, by omega, h1⟩
    · rw [if_neg h1] at h; cases h
  · rw [if_neg h0] at h
    by_cases h1 : -(n : Int) ≤ i
    · rw [if_pos h1] at h
      have e : (i + n).toNat = j := Option.some.inj h
      exact ⟨by rw [seqIndex_neg (by omega) h1, e], by omega, h1, by omega⟩
    · rw [if_neg h1] at h; cases h
theorem atI_get {α : Type} {xs : List α} {i : Int} {v : α} (h : atI xs i = some v) : ∃ j, seqIndex? i xs.length = some j ∧ xs[j]? = some v ∧ j < xs.length ∧ -(xs.length : Int) ≤ i ∧ i < xs.length := by
  unfold atI at h
  cases e : ixN xs.length i with
  | none => rw [e] at h; cases h
  | some j =>
    rw [e] at h
    obtain ⟨h1, h2, h3, h4⟩ := ixN_seq e
    exact ⟨j, h1, h, h2, h3, h4⟩
theorem atI_nat {α : Type} {xs : List α} {j : Nat} {v : α} (h : xs[j]? = some v) : atI xs (j : Int) = some v := by
  have hj : j < xs.length := (List.getElem?_eq_some_iff.mp h).1
  have e : ixN xs.length (j : Int) = some j := by
    unfold ixN
    rw [if_pos (by omega), if_pos (by omega)]; simp
  unfold atI; rw [e]; exact h
/-! ### what may be subscripted -/
/-- what stands as an index of a plain subscript -/
noncomputable def PlainIx (b : Expr) : Prop := ∀ o i, subscripted b false o i = operate [o, i] (getItem o i)
/-- a subscript by values -/
noncomputable def IxR (X : Cx) (r : R2) : Prop :=
  ∀ (value slice : Expr) (pins : List (Addr × Obj)) (s : Shared) (σ : St) (H : Hp) (x y : V) (v u : Value) (Q : VK), Inv X pins σ H s → RelV x v → RelV y u → r x y H Q →
    subscripted slice false v u = operate [v, u] (getItem v u) → wpAny (model X.prog X.w) X.A (subscriptTail value slice v u) (EP X pins σ Q) X.xe s
/-- a call of a builtin's method by values: the receiver, the arguments -/
noncomputable def MtR (X : Cx) (id : String) (r : V → List V → Hp → VK → Prop) : Prop :=
  ∀ (pins : List (Addr × Obj)) (s : Shared) (σ : St) (H : Hp) (x : V) (xs : List V) (v : Value) (us : List Value) (Q : VK), Inv X pins σ H s → RelV x v → Vals xs us → r x xs H Q →
    wpAny (model X.prog X.w) X.A (call (.builtin id) (v :: us)) (EP X pins σ Q) X.xe s
section
variable {X : Cx} {a b : Expr} {ta tb : TE} {pos : Pos}
theorem IxR.or (h : IxR X r) (h' : IxR X r') : IxR X (fun x y H Q => r x y H Q ∨ r' x y H Q) := by
  intro value slice pins s σ H x y v u Q I rx ry q hs
  rcases q with q | q
  · exact h value slice pins s σ H x y v u Q I rx ry q hs
  · exact h' value slice pins s σ H x y v u Q I rx ry q hs
/-- a[b] -/
theorem pe_ix (hr : IxR X r) (ha : PE X a ta) (hb : PE X b tb) (hs : PlainIx b) : PE X (.Subscript a b pos) (tOp r ta tb) := by
  intro pins s σ H Q I h
  exact Subscript_ (binT ha hb I h fun v u s2 x y H2 I2 rx ry q => hr a b pins s2 σ H2 x y v u Q I2 rx ry q (hs _ _))

noncomputable def rIxL (K : PySem.W.Frag) : R2 := fun x y H Q => ∃ p xs i v, x = .ref p ∧ y = .int i ∧ SqL K H p xs ∧ atI xs i = some v ∧ Q v H
noncomputable def rIxT (K : PySem.W.Frag) : R2 := fun x y H Q => ∃ p xs i v, x = .ref p ∧ y = .int i ∧ SqT K H p xs ∧ atI xs i = some v ∧ Q v H
noncomputable def rIxS : R2 := fun x y H Q => ∃ z i c, x = .str z ∧ y = .int i ∧ z.length ≤ sizeLine ∧ atI z.cps.toList i = some c ∧ Q (.str ⟨#[c]⟩) H
theorem ix_list : IxR X (rIxL X.K) := by
  intro value slice pins s σ H x y v u Q I rx ry h hs
  obtain ⟨p, xs, i, z, rfl, rfl, hq, he, q⟩ := h
  cases rx
  obtain ⟨t, rfl⟩ := ry
  obtain ⟨its, r, pl, hz⟩ := I.list hq
  obtain ⟨j, h1, h2, h3, h4, h5⟩ := atI_get he
  obtain ⟨w, ew, rw'⟩ := r.get h2
  have hl := r.length
  have hn := line63
  have fin : EP X pins σ Q w s := ⟨z, H, I, rw', q⟩
  by_cases h0 : 0 ≤ i
  · have hj : i.toNat = j := by
      rw [seqIndex_of h0 h5] at h1
      exact Option.some.inj h1
    exact item_listR pl.isList h0 (by omega) (by rw [hj]; simpa using ew) fin hs
  · have hj : (i + (its.toArray.size : Int)).toNat = j := by
      rw [seqIndex_neg (by omega) h4] at h1
      rw [List.size_toArray, ← hl]
      exact Option.some.inj h1
    exact subscriptTail_builtinR (x := w) pl.isList.typeIs slot_list_getitem.lookup
      (wpAny_getItem_list_neg (Q := fun r s' => r = w ∧ EP X pins σ Q r s') pl.isList (by omega) (by rw [List.size_toArray] <;> omega) (by omega) (by rw [hj]; simpa using ew) ⟨rfl, fin⟩) hs
theorem ix_tup : IxR X (rIxT X.K) := by
  intro value slice pins s σ H x y v u Q I rx ry h hs
  obtain ⟨p, xs, i, z, rfl, rfl, hq, he, q⟩ := h
  cases rx
  obtain ⟨t, rfl⟩ := ry
  obtain ⟨its, r, pl, hz⟩ := I.tuple hq
  obtain ⟨j, h1, h2, h3, h4, h5⟩ := atI_get he
  obtain ⟨w, ew, rw'⟩ := r.get h2
  have hl := r.length
  have hn := line63
  have fin : EP X pins σ Q w s := ⟨z, H, I, rw', q⟩
  exact subscriptTail_builtinR (x := w) pl.typeIs slot_tuple_getitem.lookup
    (getItem_tuple (j := j) (Q := fun r s' => r = w ∧ EP X pins σ Q r s') pl (by omega) (by omega) (by rw [List.size_toArray, ← hl]; exact h1) (by simpa using ew) ⟨rfl, fin⟩) hs
theorem ix_str : IxR X rIxS := by
  intro value slice pins s σ H x y v u Q I rx ry h hs
  obtain ⟨z, i, c, rfl, rfl, hz, he, q⟩ := h
  obtain ⟨t, rfl⟩ := rx
  obtain ⟨t', rfl⟩ := ry
  obtain ⟨j, h1, h2, h3, h4, h5⟩ := atI_get he
  have hl : z.cps.toList.length = z.length := by simp [Str.length]
  rw [hl] at h1 h4 h5
  have hn := line63
  exact tail_any (typeIs_str s z t) slot_str_getitem.lookup (getItem_str (c := c) (by
    have e1 : decide (i < -(2 ^ 63 : Int)) = false := decide_eq_false (by omega)
    have e2 : decide (i ≥ 2 ^ 63) = false := decide_eq_false (by omega)
    rw [e1, e2, Bool.or_false]) (by rw [h1]; simpa using h2) ⟨.str ⟨#[c]⟩, H, I.tok _, ⟨_, rfl⟩, q⟩) hs
/-- list, tuple or str -/
noncomputable def rIx (K : PySem.W.Frag) : R2 := fun x y H Q => rIxL K x y H Q ∨ rIxT K x y H Q ∨ rIxS x y H Q
theorem ix_seq : IxR X (rIx X.K) := ix_list.or (ix_tup.or ix_str)

/-! ### xs[i] = v, any sign -/
/-- the list's object behind a store -/
theorem mapSeq_set (its : List Value) (n j : Nat) (u : Value) : Obj.mapSeq (·.setIfInBounds j u) { cls := .type "list", data := .seq its.toArray n } = { cls := .type "list", data := .seq (its.set j u).toArray n } := by
  simp [Obj.mapSeq]
theorem Inv.lst (I : Inv X pins σ H s) (h : H p = some (.lst xs)) :
    ∃ (its : List Value) (n : Nat), Vals xs its ∧ s.heap.get? p = some { cls := .type "list", data := .seq its.toArray n } ∧ xs.length ≤ sizeLine := by
  obtain ⟨z, its, n, r, e⟩ := I.hok p _ h
  exact ⟨its, n, r, e, z⟩
/-- the list at p is written by an update of its object -/
theorem Inv.lstUpd {pins : List (Addr × Obj)} {σ : St} {H : Hp} {s : Shared} {p : Addr} {xs ys : List V} {its its' : List Value} {n n' : Nat} {f : Obj → Obj} (I : Inv X pins σ H s) (h : H p = some (.lst xs))
    (ho : s.heap.get? p = some { cls := .type "list", data := .seq its.toArray n }) (hf : f { cls := .type "list", data := .seq its.toArray n } = { cls := .type "list", data := .seq its'.toArray n' }) (r : Vals ys its') (hz : ys.length ≤ sizeLine) (t : Nat) :
    Inv X pins σ (upd H p (.lst ys)) { s with heap := s.heap.update p f, toks := t } := by
  have e : (s.heap.update p f).get? p = some { cls := .type "list", data := .seq its'.toArray n' } := by
    rw [Heap.get?_update_self f ho (by rw [hf] <;> rfl), hf]
  refine I.write (x := p) (e := p) (by rw [h]; trivial) (.inl rfl) (fun b u hb q => (Heap.get?_update_other _ _ (Ne.symm hb)).trans q) ⟨_, e⟩ ?_
  exact ⟨hz, its', n', r, e⟩
noncomputable def rSetL : V → V → V → Hp → (Hp → Prop) → Prop := fun o i v H Q => ∃ p xs k j, o = .ref p ∧ i = .int k ∧ H p = some (.lst xs) ∧ ixN xs.length k = some j ∧ Q (upd H p (.lst (xs.set j v)))
theorem set_list : PSet X rSetL := by
  intro pins s σ H o i v ov iv u Q I ro ri rv h
  obtain ⟨p, xs, k, j, rfl, rfl, hp, hj, q⟩ := h
  cases ro
  obtain ⟨t, rfl⟩ := ri
  obtain ⟨its, n, r, ho, hz⟩ := I.lst hp
  obtain ⟨h1, h2, h3, h4⟩ := ixN_seq hj
  have hl := r.length
  have hn := line63
  have I' : Inv X pins σ (upd H p (.lst (xs.set j v))) { s with heap := s.heap.update p (Obj.mapSeq (·.setIfInBounds j u)) } :=
    I.lstUpd hp ho (mapSeq_set its n j u) (r.set rv j) (by rw [List.length_set]; exact hz) s.toks
  by_cases h0 : 0 ≤ k
  · have hk : k.toNat = j := by
      rw [seqIndex_of h0 h4] at h1
      exact Option.some.inj h1
    exact PySem.W.ki_setAt ho h0 (by omega) (by rw [List.size_toArray, ← hl]; exact h4) (by rw [hk]; exact ⟨_, I', q⟩)
  · have hk : (k + (its.toArray.size : Int)).toNat = j := by
      rw [seqIndex_neg (by omega) h3] at h1
      rw [List.size_toArray, ← hl]
      exact Option.some.inj h1
    exact PySem.W.ki_setBack ho (by omega) (by rw [List.size_toArray, ← hl]; exact h3) (by omega) (by rw [hk]; exact ⟨_, I', q⟩)

/-! ### slices -/
theorem slice_bounds (lo hi : Option Int) (n : Nat) : (sliceBounds lo hi none n).1 = ((HT.sIx n 0 lo : Nat) : Int) ∧ (sliceBounds lo hi none n).2.1 = ((HT.sIx n n hi : Nat) : Int) ∧ (sliceBounds lo hi none n).2.2 = 1 := by
  refine ⟨?_, ?_, rfl⟩
  · cases lo with
    | none => simp [sliceBounds, HT.sIx]
    | some i =>
      simp only [sliceBounds, HT.sIx, Option.getD_none, show (1 : Int) > 0 by decide, if_true]
      by_cases h : i < 0
      · simp only [h, if_true] <;> omega
      · simp only [h, if_false] <;> omega
  · cases hi with
    | none => simp [sliceBounds, HT.sIx]
    | some i =>
      simp only [sliceBounds, HT.sIx, Option.getD_none, show (1 : Int) > 0 by decide, if_true]
      by_cases h : i < 0
      · simp only [h, if_true] <;> omega
      · simp only [h, if_false] <;> omega
theorem slicePick_cut (its : List Value) (lo hi : Option Int) : slicePick its.toArray lo hi none = ((its.drop (HT.sIx its.length 0 lo)).take (HT.sIx its.length its.length hi - HT.sIx its.length 0 lo)).toArray := by
  obtain ⟨h1, h2, h3⟩ := slice_bounds lo hi its.toArray.size
  unfold slicePick
  rw [h1, h2, h3]
  simp only [sliceRange_one, pick_run, List.size_toArray] <;> rfl
/-- xs[lo:hi] of a list: a new list -/
noncomputable def rSlL (K : PySem.W.Frag) : V → Option Int → Option Int → Hp → VK → Prop := fun x lo hi H Q => ∃ a xs, x = .ref a ∧ SqL K H a xs ∧ ∀ p, H p = none → Q (.ref p) (upd H p (.lst (cutV xs lo hi)))
theorem sl_list : SlR X (rSlL X.K) := by
  intro pins s σ H x v vl vu lo hi sl Q I rx hs pl pu h
  obtain ⟨a, xs, rfl, hx, q⟩ := h
  cases rx
  obtain ⟨its, r, ht, hz⟩ := I.list hx
  have hlen := r.length
  refine ⟨"list", _, slot_list_getitem.lookup, ht.isList.typeIs, ?_⟩
  refine wpAny_getItem_list_slice ht.isList hs pl pu .none (by simp) ?_ (by rw [List.size_toArray] <;> omega)
  rw [slicePick_cut, ← hlen]
  refine ⟨.ref s.heap.objs.size, _, I.laid (t' := s.toks) (o := .lst (cutV xs lo hi)) (fun b ob q => Heap.get?_push_of_some _ q) (Nat.le_refl _) ?_, rfl, q _ (I.hok.fresh (Nat.le_refl _))⟩
  exact ⟨Nat.le_trans (cutV_length xs lo hi) hz, _, 0, (r.drop (HT.sIx xs.length 0 lo)).take (HT.sIx xs.length xs.length hi - HT.sIx xs.length 0 lo), Heap.get?_push_size _ rfl⟩

/-! ### in, not in: flat items -/
/-! ### len, list(x), tuple(x) of any list or tuple that is read -/
theorem call_len_seq : CallR X (.builtin "len") (fun xs H Q => ∃ p ys, xs = [.ref p] ∧ (SqL X.K H p ys ∨ SqT X.K H p ys) ∧ Q (.int ys.length) H) := by
  intro pins s σ H xs us Q I r h
  obtain ⟨p, ys, rfl, hq, q⟩ := h
  obtain ⟨u, rfl, rx⟩ := vals1 r
  cases rx
  have hn := line63
  rcases hq with hq | hq
  · obtain ⟨its, r', pl, hz⟩ := I.list hq
    have hlen := r'.length
    exact Calls.call_len_list pl.isList (by simp only [List.size_toArray] <;> omega) ⟨.int ys.length, H, I.tok _, ⟨s.toks + 1, by rw [List.size_toArray, hlen]⟩, q⟩
  · obtain ⟨its, r', pl, hz⟩ := I.tuple hq
    have hlen := r'.length
    exact len_tuple pl (by simp only [List.size_toArray] <;> omega) ⟨.int ys.length, H, I.tok _, ⟨s.toks + 1, by rw [List.size_toArray, hlen]⟩, q⟩
theorem call_len_str : CallR X (.builtin "len") (fun xs H Q => ∃ z, xs = [.str z] ∧ z.length ≤ sizeLine ∧ Q (.int z.length) H) := by
  intro pins s σ H xs us Q I r h
  obtain ⟨z, rfl, hz, q⟩ := h
  obtain ⟨u, rfl, t, rfl⟩ := vals1 r
  have hn := line63
  exact len_str (by omega) ⟨.int z.length, H, I.tok _, ⟨_, rfl⟩, q⟩
theorem call_list_of : CallR X (.type "list") (fun xs H Q => ∃ p ys, xs = [.ref p] ∧ (SqL X.K H p ys ∨ SqT X.K H p ys) ∧ ∀ l, H l = none → Q (.ref l) (upd H l (.lst ys))) := by
  intro pins s σ H xs us Q I r h
  obtain ⟨p, ys, rfl, hq, q⟩ := h
  obtain ⟨u, rfl, rx⟩ := vals1 r
  cases rx
  have fin : ∀ (its : List Value), Vals ys its → ys.length ≤ sizeLine → ∀ (h' : Heap) (c' : Nat), (∀ b o', s.heap.get? b = some o' → h'.get? b = some o') →
      h'.get? s.heap.objs.size = some { cls := .type "list", dict := none, data := .seq its.toArray c', slots := #[] } → EP X pins σ Q (.ref s.heap.objs.size) { s with heap := h' } := fun its r' hz h' c' kp e =>
    ⟨.ref s.heap.objs.size, _, I.laid (t' := s.toks) kp (Nat.le_refl _) (show ObjOk X.prog X.w _ h' _ (.lst ys) from ⟨hz, its, c', r', e⟩), rfl, q _ (I.hok.fresh (Nat.le_refl _))⟩
  rcases hq with hq | hq
  · obtain ⟨its, r', pl, hz⟩ := I.list hq
    have hlen := r'.length
    obtain ⟨o, ho, hc, n, hd⟩ := pl.isList
    exact call_list_seq p (.inl rfl) ho hc hd (fun h' c' kp e => fin its r' hz h' c' kp e) (by simp only [List.size_toArray] <;> omega)
  · obtain ⟨its, r', pl, hz⟩ := I.tuple hq
    have hlen := r'.length
    obtain ⟨o, ho, hc, n, hd⟩ := pl
    exact call_list_seq p (.inr rfl) ho hc hd (fun h' c' kp e => fin its r' hz h' c' kp e) (by simp only [List.size_toArray] <;> omega)
/-! ### the call of a builtin's method: o.m(..) -/
/-- the value is of that builtin type -/
noncomputable def tyV (K : PySem.W.Frag) (T : String) (x : V) (H : Hp) : Prop := match x with
  | .str _ => T = "str"
  | .int _ => T = "int"
  | .ref p => (T = "list" ∧ ∃ xs, SqL K H p xs) ∨ (T = "tuple" ∧ ∃ o, K.lookup p = some o ∧ o.cls = .type "tuple" ∧ o.dict = none) ∨
      (T = "dict" ∧ ((∃ kvs, H p = some (.dK kvs)) ∨ ∃ kvs, H p = some (.dT kvs))) ∨ (T = "set" ∧ ∃ S n, H p = some (.set S n))
  | _ => False
theorem tyV_is (I : Inv X pins σ H s) (r : RelV x v) (ty : tyV X.K T x H) :
    s.TypeIs v T ∧ ∀ a, v = .ref a → ∃ ob, s.heap.get? a = some ob ∧ ob.dict = none := by
  cases x with
  | str z =>
    obtain ⟨t, rfl⟩ := r
    cases (show T = "str" from ty)
    exact ⟨typeIs_str s z t, fun _ e => nomatch e⟩
  | int i =>
    obtain ⟨t, rfl⟩ := r
    cases (show T = "int" from ty)
    exact ⟨typeIs_int s i t, fun _ e => nomatch e⟩
  | ref p =>
    cases r
    rcases ty with ⟨rfl, xs, hq⟩ | ⟨rfl, o, hk, hc, hd⟩ | ⟨rfl, hk⟩ | ⟨rfl, S, n, hk⟩
    · obtain ⟨its, _, pl, _⟩ := I.list hq
      refine ⟨pl.isList.typeIs, fun a e => ?_⟩
      cases e
      obtain ⟨o, n, e, c, hd, _⟩ := pl
      exact ⟨o, e, hd⟩
    · refine ⟨⟨o, I.kIn p o hk, hc⟩, fun a e => ?_⟩
      cases e
      exact ⟨o, I.kIn _ o hk, hd⟩
    · have z : ∃ o, s.heap.get? p = some o ∧ o.ExactDict := by
        rcases hk with ⟨kvs, hk⟩ | ⟨kvs, hk⟩
        · obtain ⟨_, _, _, _, o, _, _, e, ex, _⟩ := I.hok p _ hk
          exact ⟨o, e, ex⟩
        · obtain ⟨_, _, _, _, o, _, _, e, ex, _⟩ := I.hok p _ hk
          exact ⟨o, e, ex⟩
      obtain ⟨o, e, ex⟩ := z
      refine ⟨⟨o, e, ex.1⟩, fun a e2 => ?_⟩
      cases e2
      exact ⟨o, e, ex.2.1⟩
    · obtain ⟨o, _, _, _, e, ex, _⟩ := I.hok p _ hk
      refine ⟨⟨o, e, ex.1⟩, fun a e2 => ?_⟩
      cases e2
      exact ⟨o, e, ex.2.1⟩
  | _ => exact False.elim ty
noncomputable def tBM0 (K : PySem.W.Frag) (T : String) (r : V → List V → Hp → VK → Prop) (to : TE) : TE := fun σ H Q => to σ H fun x H1 => tyV K T x H1 ∧ r x [] H1 Q
noncomputable def tBM (K : PySem.W.Frag) (T : String) (r : V → List V → Hp → VK → Prop) (to : TE) (t : TA) : TE := fun σ H Q => to σ H fun x H1 => tyV K T x H1 ∧ t σ H1 fun xs H2 => r x xs H2 Q
variable {o e : Expr} {es : List Expr} {to : TE} {t : TA} {name : Str} {apos cpos : Pos} {T id : String} {r : V → List V → Hp → VK → Prop}
theorem pe_bm0 (pa : PlainAttrs T) (slot : Slot T name id) (hty : typeOf (.builtin id) = pure (.type "method_descriptor")) (hm : MtR X id r) (ho : PE X o to)
    (hbase : attributeBase o name X.env (eval o X.env) = eval o X.env := by rfl) (hline : (apos.endLine == cpos.line) = true := by rfl) : PE X (.Call (.Attribute o name apos) [] [] cpos) (tBM0 X.K T r to) := by
  intro pins s σ H Q I h
  refine wpAny_Call_method0_late hbase hline (thn (ho pins s σ H _ I h) fun v s1 ⟨x, H1, I1, r1, ty, q1⟩ => ?_)
  obtain ⟨h1, h2⟩ := tyV_is I1 r1 ty
  exact ⟨T, id, pa, slot, hty, h1, h2, Calls.callWith_builtin rfl (PySem.evalArgs_none (hm pins s1 σ H1 x [] v [] Q I1 r1 .nil q1))⟩
theorem pe_bm (pa : PlainAttrs T) (slot : Slot T name id) (hty : typeOf (.builtin id) = pure (.type "method_descriptor")) (hm : MtR X id r) (ho : PE X o to) (ha : PA X (e :: es) t)
    (hbase : attributeBase o name X.env (eval o X.env) = eval o X.env := by rfl)
    (hfew : ((backTo cpos (starEach (e :: es) X.env)).all (fun x => !x.1) && (backToKw cpos (keywordEach [] X.env)).all (fun x => x.1.isSome)
      && decide ((e :: es).length + ([] : List Keyword).length + (if ([] : List Keyword).isEmpty then 0 else 1) < 30)) = true := by rfl)
    (hline : (apos.endLine == cpos.line) = true := by rfl) (hs : starEach (e :: es) X.env = (false, eval e X.env) :: starEach es X.env := by rfl) (hplain : (backTo cpos (starEach es X.env)).any (·.1) = false := by rfl) :
    PE X (.Call (.Attribute o name apos) (e :: es) [] cpos) (tBM X.K T r to t) := by
  intro pins s σ H Q I h
  refine wpAny_Call_method_late hbase hfew hline rfl (thn (ho pins s σ H _ I h) fun v s1 ⟨x, H1, I1, r1, ty, q1⟩ => ?_)
  obtain ⟨h1, h2⟩ := tyV_is I1 r1 ty
  refine ⟨T, id, pa, slot, hty, h1, h2, ?_⟩
  have hA := ha cpos pins s1 σ H1 _ I1 q1
  rw [hs] at hA ⊢
  refine Calls.callWith_builtin (by show (false || (backTo cpos (starEach es X.env)).any (·.1)) = false; rw [hplain] <;> rfl) (Calls.evalArgs_plain ?_)
  exact thn hA fun us s2 ⟨vs, H2, I2, r2, q2⟩ => hm pins s2 σ H2 x vs v us Q I2 r1 r2 q2
/- xs.append(e), list.index on a module's tuple .. are MtR facts of 06m -/
end
end L2

namespace L2
open PySem PySem.Spec PyProof.Rows

noncomputable def MtM (X : Cx) (id : String) (r : V → List V → Hp → VK → Prop) : Prop :=
  ∀ (pins : List (Addr × Obj)) (s : Shared) (σ : St) (H : Hp) (x : V) (xs : List V) (v : Value) (us : List Value) (Q : VK), Inv X pins σ H s → RelV x v → Vals xs us → r x xs H Q →
    wpAny (model X.prog X.w) X.A (call (.builtin id) (v :: us)) (EP X pins σ Q) X.xe s

/-! ### lists of values -/
theorem Vals.one : ∀ {x : V} {us : List Value}, Vals [x] us → ∃ u, us = [u] ∧ RelV x u
  | _, _, .cons r .nil => ⟨_, rfl, r⟩
theorem Vals.zero : ∀ {us : List Value}, Vals [] us → us = []
  | _, .nil => rfl
theorem Vals.dropLast (h : Vals xs us) : Vals xs.dropLast us.dropLast := by
  induction h with
  | nil => exact .nil
  | cons r t ih =>
    cases t with
    | nil => exact .nil
    | cons q t' => exact .cons r ih
theorem Vals.rep (h : Vals xs us) : ∀ k : Nat, Vals (List.replicate k xs).flatten (List.replicate k us).flatten
  | 0 => .nil
  | k + 1 => by
    rw [List.replicate_succ, List.replicate_succ, List.flatten_cons, List.flatten_cons]
    exact Vals.append h (Vals.rep h k)
theorem erase_last {α : Type} (l : List α) : l.eraseIdx (l.length - 1) = l.dropLast := by
  induction l with
  | nil => rfl
  | cons a r ih =>
    cases r with
    | nil => rfl
    | cons b r =>
      have e : (a :: b :: r).length - 1 = ((b :: r).length - 1) + 1 := by
        have h1 : (a :: b :: r).length = r.length + 2 := rfl
        have h2 : (b :: r).length = r.length + 1 := rfl
        omega
      rw [e, List.eraseIdx_cons_succ, ih]
      all_goals rfl
theorem foldl_rep (its : List Value) : ∀ (k : Nat) (acc : List Value),
    List.foldl (fun x1 x2 => x1 ++ x2) acc.toArray (List.replicate k its.toArray) = (acc ++ (List.replicate k its).flatten).toArray
  | 0, acc => by simp
  | k + 1, acc => by
    have e : acc.toArray ++ its.toArray = (acc ++ its).toArray := by simp
    have e2 : (acc ++ its) ++ (List.replicate k its).flatten = acc ++ (List.replicate (k + 1) its).flatten := by
      rw [List.replicate_succ, List.flatten_cons, List.append_assoc]
    rw [← e2, ← foldl_rep its k (acc ++ its), ← e, List.replicate_succ, List.foldl_cons]

section
variable {X : Cx} {pins : List (Addr × Obj)} {σ : St} {H : Hp} {s : Shared} {l b : Addr} {xs ys zs : List V}

/-! ### the two steps: a tracked list is rewritten, a new list is laid -/
theorem Inv.lset {its its' : List Value} {n : Nat} {f : Array Value → Array Value} {t' : Nat} (I : Inv X pins σ H s) (hH : H l = some (.lst xs))
    (e : s.heap.get? l = some { cls := .type "list", data := .seq its.toArray n }) (hf : f its.toArray = its'.toArray) (hv : Vals ys its') (hz : ys.length ≤ sizeLine) :
    Inv X pins σ (upd H l (.lst ys)) { s with heap := s.heap.update l (Obj.mapSeq f), toks := t' } := by
  have q := PySem.IsL.update e f
  rw [hf] at q
  refine I.write (x := l) (e := l) (by rw [hH]; exact trivial) (.inl rfl) (fun b' u hb hu => (Heap.get?_update_other s.heap (Obj.mapSeq f) (Ne.symm hb)).trans hu) ⟨_, q⟩ ?_
  exact ⟨hz, its', _, hv, q⟩
theorem Inv.lnew (I : Inv X pins σ H s) (hv : Vals ys its) (hz : ys.length ≤ sizeLine) :
    Inv X pins σ (upd H s.heap.objs.size (.lst ys)) { s with heap := s.heap.push { cls := .type "list", data := .seq its.toArray }, toks := t' } :=
  I.laid (fun _ _ q => Heap.get?_push_of_some _ q) (Nat.le_refl _) ⟨hz, its, 0, hv, Heap.get?_push_size _ rfl⟩
theorem Inv.fresh (I : Inv X pins σ H s) : H s.heap.objs.size = none := I.hok.fresh (Nat.le_refl _)
theorem Inv.lstM (I : Inv X pins σ H s) (hH : H l = some (.lst xs)) : xs.length ≤ sizeLine ∧ ∃ (its : List Value) (n : Nat), Vals xs its ∧ xs.length = its.length ∧ s.heap.get? l = some { cls := .type "list", data := .seq its.toArray n } := by
  obtain ⟨z, its, n, r, e⟩ := I.hok l _ hH
  exact ⟨z, its, n, r, r.length, e⟩

theorem notLongL (h : n ≤ sizeLine) : Builtin.List.listTooLong n = false := by
  unfold Builtin.List.listTooLong
  exact decide_eq_false (by omega)
end

section
variable {X : Cx}

/-! ### methods -/
noncomputable def rAppend : V → List V → Hp → VK → Prop := fun x vs H Q => ∃ l xs y, x = .ref l ∧ vs = [y] ∧ H l = some (.lst xs) ∧ xs.length < sizeLine ∧ Q .non (upd H l (.lst (xs ++ [y])))
theorem mt_append : MtM X "list.append" rAppend := by
  intro pins s σ H x vs v us Q I rx rv h
  obtain ⟨l, xs, y, rfl, rfl, hH, hz, q⟩ := h
  cases rx
  obtain ⟨u, rfl, ru⟩ := rv.one
  obtain ⟨z, its, n, r, hl, e⟩ := I.lstM hH
  refine call_meets F.slot_list_append ⟨_, e, rfl⟩ F.entry_list_append (F.args_list_append_2 _ _) (PySem.list_append l its.toArray n u (by rw [List.size_toArray]; omega)) ⟨e, ?_⟩
  refine ⟨.non, _, I.lset (its' := its ++ [u]) hH e (by simp) (r.append (.cons ru .nil)) ?_, rfl, q⟩
  rw [List.length_append, List.length_singleton]
  omega

noncomputable def rPop : V → List V → Hp → VK → Prop := fun x vs H Q => ∃ l xs y, x = .ref l ∧ vs = [] ∧ H l = some (.lst xs) ∧ xs[xs.length - 1]? = some y ∧ Q y (upd H l (.lst xs.dropLast))
theorem mt_pop : MtM X "list.pop" rPop := by
  intro pins s σ H x vs v us Q I rx rv h
  obtain ⟨l, xs, y, rfl, rfl, hH, hy, q⟩ := h
  cases rx
  have hus := rv.zero
  subst hus
  obtain ⟨z, its, n, r, hl, e⟩ := I.lstM hH
  obtain ⟨u, hu, ru⟩ := r.get hy
  have hy' : its.toArray[its.toArray.size - 1]? = some u := by
    show its.toArray[its.length - 1]? = some u
    rw [← Array.getElem?_toList, ← hl]
    exact hu
  refine call_meets F.slot_list_pop ⟨_, e, rfl⟩ F.entry_list_pop (F.args_list_pop_1 _) (MeetsSeq.list_pop_last l its.toArray n u hy' (by rw [List.size_toArray]; omega)) ⟨e, ?_⟩
  refine ⟨y, _, I.lset (its' := its.dropLast) hH e ?_ r.dropLast ?_, ru, q⟩
  · show its.toArray.eraseIdxIfInBounds (its.toArray.size - 1) = its.dropLast.toArray
    rw [List.size_toArray, List.eraseIdxIfInBounds_toArray, erase_last]
  · rw [List.length_dropLast]
    omega

/-! ### list + list, list += list, list * int -/
/-- a list times an int (a negative one is nothing) -/
noncomputable def rRep : R2 := fun x y H Q => ∃ l k xs, x = .ref l ∧ y = .int k ∧ H l = some (.lst xs) ∧ -(2 ^ 63) ≤ k ∧ k < 2 ^ 63 ∧ xs.length * k.toNat ≤ sizeLine ∧
  ∀ p, H p = none → Q (.ref p) (upd H p (.lst (List.replicate k.toNat xs).flatten))
theorem len_rep {α : Type} (xs : List α) (k : Nat) : (List.replicate k xs).flatten.length = k * xs.length := by
  induction k with
  | zero => simp
  | succ k ih => rw [List.replicate_succ, List.flatten_cons, List.length_append, ih, Nat.succ_mul, Nat.add_comm]
theorem op_rep : OpR X (binaryOp .Mult) rRep := by
  intro pins s σ H x y v u Q I rx ry h
  obtain ⟨l, k, xs, rfl, rfl, hH, h1, h2, hz, q⟩ := h
  cases rx
  obtain ⟨t, rfl⟩ := ry
  obtain ⟨z, its, n, r, hl, e⟩ := I.lstM hH
  have hlen : its.toArray.size * k.toNat ≤ sizeLine := by rw [List.size_toArray, ← hl]; exact hz
  have hcap : ¬ its.toArray.size * k.toNat > (2 ^ 63 - 1) / 8 := by
    have : (sizeLine : Nat) ≤ (2 ^ 63 - 1) / 8 := by decide
    omega
  have hfit : ¬ (!Builtin.List.listFitsIndex k) = true := by
    rw [fitsIndex_both h1 h2]
    exact Bool.false_ne_true
  have hlong : ¬ Builtin.List.listTooLong (its.toArray.size * k.toNat) = true := by
    rw [notLongL hlen]
    exact Bool.false_ne_true
  have hnew : List.foldl (fun x1 x2 => x1 ++ x2) #[] (List.replicate (if its.toArray.isEmpty = true then 0 else k.toNat) its.toArray) = (List.replicate k.toNat its).flatten.toArray := by
    have f0 : ∀ m : Nat, List.foldl (fun x1 x2 => x1 ++ x2) #[] (List.replicate m its.toArray) = (List.replicate m its).flatten.toArray := fun m => by
      have := foldl_rep its m []
      rw [List.nil_append] at this
      exact this
    rw [f0]
    cases its with
    | nil => simp
    | cons a r' => rw [if_neg (by simp)]
  refine wpAny_binaryOp_repeat_ref (T := "list") (U := "int") (by decide) ⟨_, e, rfl⟩ (fun s' => typeIs_int s' k t) noFill_list_mul F.fills_int_mul F.slot_int_rmul repeat_list F.slot_int_index.lookup
    (call_meets F.slot_int_rmul (typeIs_int s k t) F.entry_int_rmul (F.args_int_rmul_2 _ _) (int___rmul___int_list k t l its.toArray n)
      ⟨e, rfl, ⟨_, e, rfl⟩, call_meets F.slot_list_mul ⟨_, e, rfl⟩ F.entry_list_mul (F.args_list_mul_2 _ _) (AutoListH.list___mul___list_int_3 l its.toArray n k t hfit hcap hlong) ⟨e, ?_⟩⟩)
  rw [hnew]
  exact ⟨.ref _, _, I.lnew (t' := s.toks) (r.rep k.toNat) (by rw [len_rep, Nat.mul_comm]; exact hz), rfl, q _ I.fresh⟩

/-! ### del xs[i] -/
end

/-! ### xs[a:b] = ys -/
section
variable {prog : Program} {w : World} {A : Around} {E : Value → Shared → Prop} {s : Shared}
end

section
variable {X : Cx}
end
end L2

namespace Att
open PySem PySem.W PySem.Calls PyProof.Rows

/-! ### the script -/
theorem ints_of_wellAll : ∀ (ns : List Int) (vs : List Value), WellAll P h vs (ns.map WData.int) → IntsAre vs ns := by
  intro ns
  induction ns with
  | nil =>
    intro vs w
    rw [List.map_nil] at w
    cases w
    exact .nil
  | cons n ns ih =>
    intro vs w
    rw [List.map_cons] at w
    cases w with
    | cons a b =>
      cases a
      exact .cons _ _ (ih _ b)

theorem script_of {l : OpenLaw} {n : Nat} (hn : l.most = some n) {P : Params} {args : List WData}
    (hpre : l.row.toRowW.claim.pre args = true) (hwl : WellAll P h vals args) :
    ∃ a vs ns, vals = [Value.ref a] ∧ args = [WData.list (ns.map WData.int)] ∧ h.get? a = some { cls := .type "list", data := .seq vs.toArray } ∧ IntsAre vs ns ∧ ns.length ≤ n := by
  have hsh : WShape.hasAll [] args [.list .int] = true := (pre_splitW hpre).1
  have hc : l.pre.holds [] { args := args } = true := (pre_splitW hpre).2
  obtain ⟨d, r, rfl, h1, h2⟩ := hasAllW_cons hsh
  obtain rfl := hasAllW_nil h2
  obtain ⟨xs, rfl, h3⟩ := hasW_list h1
  obtain ⟨ns, rfl⟩ := items_int h3
  have hlen : ns.length ≤ n := by
    unfold OpenLaw.pre at hc
    have h4 : (WTm.not (.lt (.lit (.int (n : Int))) (.len (.arg 0)))).holds [] { args := [.list (ns.map .int)] } = true := by
      have h4 := (holds_andW hc).1
      rw [hn] at h4
      exact h4
    have h5 := condW_of h4 (w_not (w_lt w_lit (w_len_list (w_arg rfl))))
    rw [List.length_map] at h5
    refine Nat.le_of_not_lt fun q => ?_
    have q' : (n : Int) < ((ns.length : Nat) : Int) := by omega
    first
      | (rw [decide_eq_true q'] at h5; exact absurd h5 (by decide))
      | (simp at h5; omega)
  cases hwl with
  | cons w1 w2 =>
    cases w2
    cases w1 with
    | list ho hall => exact ⟨_, _, ns, rfl, rfl, ho, ints_of_wellAll ns _ hall, hlen⟩

theorem post_true (l : OpenLaw) (args : List WData) : l.row.toRowW.claim.post args (.bool true) args = true :=
  postW_of (r := l.row.toRowW) (X := (true == true))
    (show WShape.has [] (.bool true) .bool = true by first | rfl | decide | simp [WShape.has, WShape.arms, WShape.armsAll])
    (show (WTm.eq .res (.lit (.bool true))).value [] { args := args, res := some (.bool true), after := args } = some (.bool (true == true)) from w_eq_bool (w_res rfl) w_lit) rfl

/-! ### the attachment: holds_open's last premise (the goal 'hc' behind k_head) from a wpAny of the law's body -/
/-! ### rules over ANY heap (no ledger) from facts about the written part K: the library's own take a ledger (News) for what they write -/
section
variable {prog : Program} {w : World} {A : Around} {E : Value → Shared → Prop} {s : Shared} {K : Frag}

/-! the whole heap as the ledger: makes every rule that writes through a ledger a rule over any heap -/
noncomputable def ledger (h : Heap) (L d : Addr) : List (Addr × Obj) := (List.range h.objs.size).filterMap fun a => if a = L ∨ a = d then none else (h.get? a).map fun o => (a, o)
end
end Att

namespace L2
open PySem PySem.Spec PyProof.Rows

theorem vals_ints : ∀ {vs : List Value} {ns : List Int}, IntsAre vs ns → Vals (ns.map V.int) vs
  | _, _, .nil => .nil
  | _, _, .cons n t h => .cons ⟨t, rfl⟩ (vals_ints h)

/-- nothing is tracked but the script and the tables of those that make lambdas -/
noncomputable def tabsH (K : PySem.W.Frag) : Hp := fun b => match (lamsIn K).find? fun x => x.2.1 == b with
  | some x => some (.tbl ⟨x.2.2, #[]⟩)
  | none => none
theorem tabsH_of {K : PySem.W.Frag} {b : Addr} {o : HO} (h : tabsH K b = some o) : ∃ x ∈ lamsIn K, x.2.1 = b ∧ o = .tbl ⟨x.2.2, #[]⟩ := by
  unfold tabsH at h
  split at h
  · rename_i x e
    exact ⟨x, List.mem_of_find?_eq_some e, by simpa using List.find?_some e, (Option.some.inj h).symm⟩
  · cases h
/-- what is asked of the tables at the first -/
structure LamOk (K : PySem.W.Frag) (h : Heap) : Prop where
  e : ∀ x ∈ lamsIn K, h.get? x.2.1 = some (PySem.W.tabObj #[])
  n : ∀ x ∈ lamsIn K, K.lookup x.2.1 = none
  u : ∀ x ∈ lamsIn K, ∀ y ∈ lamsIn K, x.2.1 = y.2.1 → x.2.2 = y.2.2
theorem lamsIn_hd {K : PySem.W.Frag} {x : Addr × Addr × Str} (h : x ∈ lamsIn K) : PySem.W.codeHdIn K x.1 x.2.1 = true := by
  obtain ⟨y, _, e⟩ := List.mem_filterMap.mp h
  repeat' split at e
  all_goals first
    | (cases e; assumption)
    | cases e
theorem tabsH_at {K : PySem.W.Frag} {h : Heap} (L : LamOk K h) {x : Addr × Addr × Str} (hx : x ∈ lamsIn K) : tabsH K x.2.1 = some (.tbl ⟨x.2.2, #[]⟩) := by
  unfold tabsH
  split
  · rename_i y e
    have e1 : y.2.1 = x.2.1 := by simpa using List.find?_some e
    rw [L.u y (List.mem_of_find?_eq_some e) x hx e1]
  · rename_i e
    have := List.find?_eq_none.mp e x hx
    simp at this
theorem law_call {P : Program} {w : World} {K : PySem.W.Frag} {mg mb : Str → Option Value} {CX : CXT} {k : Nat} {fa a : Addr} {fd : FuncData} {x : Str} {sp : Sp} {s₁ : Shared} {vs : List Value} {ns : List Int}
    (KX : K.In s₁.heap) (hns : s₁.heap.Ns mainGlobals mg) (hb : s₁.heap.Ns builtinsNs mb) (hbb : ∀ x : Str, x ≠ "__name__" → mb x = bootBuiltins x) (hlim : s₁.heap.NoLimit) (hg : s₁.gens = #[])
    (ha : s₁.heap.get? a = some { cls := .type "list", data := .seq vs.toArray }) (hi : IntsAre vs ns) (hl : ns.length ≤ sizeLine) (hr : Room k callerA) (LO : LamOk K s₁.heap) (BM : BltM mg s₁.heap)
    (F : ∀ base : Heap, K.In base → base.Ns mainGlobals mg → FnOk P w K mg base CX k fa fd [x] sp) (hbind : ∀ (s : Shared) (u : Value), BindsTo s fd ⟨[u], []⟩ [(x, u)])
    (hsp : ∀ H : Hp, SqL K H a (ns.map V.int) → sp [.ref a] H (fun v _ => v = .bl true) fun _ _ _ => False)
    (hCX : ∀ H e s', CX [] H s₁ (fun _ _ _ => False) e s' → False) :
    codeAny (model P w) callerA (.call (.ref fa) ⟨[.ref a], []⟩) (fun r s' => r = .ok (.ret (.bool true)) ∧ OldK s₁.heap s'.heap ∧ s'.os = s₁.os ∧ AllBare s'.gens) s₁ := by
  have rv := vals_ints hi
  have lenV := hi.length
  have nat : ∀ {b : Addr} {o : HO}, tabsH K b = some o → b ≠ a := fun {b o} h z => by
    obtain ⟨x, hx, e, _⟩ := tabsH_of h
    have := LO.e x hx
    rw [e, z, ha] at this
    cases this
  have core : ∀ H : Hp, (∀ b, b ≠ a → H b = tabsH K b) → SqL K H a (ns.map V.int) → HOk P w H s₁.heap → (H a ≠ none → K.lookup a = none ∧ ∃ o xs, H a = some (.frz o (.lst xs))) →
      codeAny (model P w) callerA (.call (.ref fa) ⟨[.ref a], []⟩) (fun r s' => r = .ok (.ret (.bool true)) ∧ OldK s₁.heap s'.heap ∧ s'.os = s₁.os ∧ AllBare s'.gens) s₁ := by
    intro H hT hS hok hK
    have base_of : ∀ {b : Addr} {o : Obj}, s₁.heap.get? b = some o → H b = none → (hidT s₁.heap H).get? b = some o := fun e n => hidT_get e n
    have noA : ∀ {b : Addr} {o : Obj} {es : Array DictEntry} {ep : Nat}, s₁.heap.get? b = some o → o.data = .dict es ep → H b = none := fun {b o es ep} e d => by
      by_cases hba : b = a
      · subst hba
        rw [ha] at e; cases e
        have d' : Data.seq vs.toArray _ = Data.dict es ep := d
        cases d'
      · rw [hT b hba]
        cases q : tabsH K b with
        | none => rfl
        | some u =>
          obtain ⟨x, hx, e1, _⟩ := tabsH_of q
          have := LO.e x hx
          rw [e1, e] at this
          cases this
          cases d
    have noB : ∀ {b : Addr} {o : Obj}, s₁.heap.get? b = some o → o.cls = .type "module" → H b = none := fun {b o} e d => by
      by_cases hba : b = a
      · subst hba
        rw [ha] at e; cases e
        injection d with z
        exact absurd z (by decide)
      · rw [hT b hba]
        cases q : tabsH K b with
        | none => rfl
        | some u =>
          obtain ⟨x, hx, e1, _⟩ := tabsH_of q
          have := LO.e x hx
          rw [e1, e] at this
          cases this
          cases d
    have nsK : ∀ {b : Addr} {m : Str → Option Value}, s₁.heap.Ns b m → (hidT s₁.heap H).Ns b m := fun {b m} ⟨o, es, ep, e, d, r⟩ => ⟨o, es, ep, base_of e (noA e d), d, r⟩
    have hKb : K.In (hidT s₁.heap H) := fun b o e => base_of (KX b o e) (by
      by_cases hba : b = a
      · subst hba
        cases q : H b with
        | none => rfl
        | some u =>
          rw [(hK (by rw [q]; simp)).1] at e; cases e
      · rw [hT b hba]
        cases q : tabsH K b with
        | none => rfl
        | some u =>
          obtain ⟨x, hx, e1, _⟩ := tabsH_of q
          have := LO.n x hx
          rw [e1, e] at this
          cases this)
    have hM : Mod K mg (hidT s₁.heap H) := ⟨hKb, nsK hns, ⟨mb, nsK hb, hbb⟩, let ⟨mc, h1, h2⟩ := hlim; ⟨mc, nsK h1, h2⟩, let ⟨bm, ob, b1, b2, b3, b4, b5⟩ := BM; ⟨bm, ob, b1, b2, base_of b3 (noB b3 b4), b4, b5⟩⟩
    have e0 : Env0 P w K mg (hidT s₁.heap H) callerA [] s₁ H := ⟨rfl, hM, fun b o e => of_hidT e, Nat.le_of_eq (hidT_size _ _), trivial, ⟨fun b hb => absurd (show b ∈ ([] : List Addr) from hb) (by simp), fun x hx => ⟨#[], by rw [hT _ (nat (tabsH_at LO hx))]; exact tabsH_at LO hx⟩⟩, hok, .of_eq hg⟩
    refine codeAny_mono ((F _ hKb (nsK hns)).run callerA [] s₁ H ⟨[.ref a], []⟩ [.ref a] [.ref a] _ _ hr e0 (hbind s₁ (.ref a)) (.cons rfl .nil) (hsp H hS)) fun r s' h => ?_
    cases r with
    | error e => exact (hCX H e s' h).elim
    | ok fl =>
      cases fl with
      | next => exact False.elim h
      | brk => exact False.elim h
      | cont => exact False.elim h
      | ret u =>
        obtain ⟨v, H', os, bare, un, hok', r', q⟩ := h
        have q' : v = .bl true := q
        subst q'
        obtain rfl : u = Value.bool true := r'
        have all : ∀ b o, s₁.heap.get? b = some o → s'.heap.get? b = some o ∨ ∃ x ∈ lamsIn K, x.2.1 = b ∧ o = PySem.W.tabObj #[] ∧ ∃ more, s'.heap.get? b = some (PySem.W.tabObj (#[] ++ more)) := fun b o e => by
          by_cases hba : b = a
          · subst hba
            cases q : H b with
            | none => exact .inl (un.keep b o e q (by intro z; exact absurd (show b ∈ ([] : List Addr) from z) (by simp)) (by simp))
            | some u =>
              obtain ⟨_, ob, xs, z⟩ := hK (by rw [q]; simp)
              have z2 := un.frzs b ob _ z
              obtain ⟨e1, _⟩ := hok b _ z
              obtain ⟨e2, _⟩ := hok' b _ z2
              rw [e] at e1; cases e1
              exact .inl e2
          · cases q : tabsH K b with
            | none => exact .inl (un.keep b o e (by rw [hT b hba]; exact q) (by intro z; exact absurd (show b ∈ ([] : List Addr) from z) (by simp)) (by simp))
            | some u =>
              obtain ⟨x, hx, e1, rfl⟩ := tabsH_of q
              obtain ⟨more, e2⟩ := un.tbls b _ (by rw [hT b hba]; exact q)
              obtain ⟨e3, _⟩ := hok' b _ e2
              have e4 := LO.e x hx
              rw [e1, e] at e4
              exact .inr ⟨x, hx, e1, Option.some.inj e4, more, e3⟩
        refine ⟨rfl, ⟨fun b o e => ?_, fun b o e => ?_⟩, os, bare⟩
        · rcases all b o e with z | ⟨x, hx, e1, rfl, more, e2⟩
          · exact .inl z
          · have C : PySem.W.CodeHd s₁.heap x.1 x.2.1 := PySem.W.codeHd_of_K KX (lamsIn_hd hx)
            exact .inr (.inl ⟨e1 ▸ (C.tab (LO.e x hx)).isCodeTable, rfl, #[], more, rfl, e2⟩)
        · rcases all b o e with z | ⟨x, hx, e1, rfl, more, e2⟩
          · exact ⟨_, z⟩
          · exact ⟨_, e2⟩
  have tabOk : ∀ (H : Hp) b u, tabsH K b = some u → ObjOk P w H s₁.heap b u := fun H b u q => by
    obtain ⟨x, hx, e1, rfl⟩ := tabsH_of q
    have e4 := LO.e x hx
    rw [e1] at e4
    exact ⟨e4, trivial, fun p cv hc => by cases hc⟩
  cases hk : K.lookup a with
  | some o =>
    have e := KX a o hk
    rw [ha] at e
    cases e
    refine core (tabsH K) (fun _ _ => rfl) (.inr ⟨_, vs.toArray, _, hk, rfl, rfl, rfl, by rw [List.size_toArray, lenV]; exact hl, by simpa using rv⟩) (fun b u z => tabOk _ b u z) fun z => ?_
    cases q : tabsH K a with
    | none => exact absurd q z
    | some u => exact absurd rfl (nat q)
  | none =>
    refine core (fun b => if b = a then some (.frz { cls := .type "list", data := .seq vs.toArray } (.lst (ns.map V.int))) else tabsH K b) (fun b hb => if_neg hb) (.inl (.inr ⟨{ cls := .type "list", data := .seq vs.toArray }, if_pos rfl⟩)) (fun b u z => ?_) fun _ => ⟨hk, _, _, if_pos rfl⟩
    by_cases hb : b = a
    · have z' := (if_pos hb).symm.trans z
      cases z'
      subst hb
      exact ⟨ha, by rw [List.length_map]; exact hl, vs, _, rv, ha⟩
    · exact tabOk _ b u ((if_neg hb).symm.trans z)
end L2

namespace L2
open PySem PySem.Spec PyProof.Rows

noncomputable abbrev KOf {K : PySem.W.Frag} {h : Heap} (_ : K.In h) : PySem.W.Frag := K

end L2

/- THE LAST THEOREM (shape; LID, My.* are yours):
   My.Adr: a structure of the addresses that your layer names (classes, functions); My.Txt K t: a structure (Prop) of the equations over K;
   My.txt_mk : {K} {implicit addresses ..} (e1 : nsIn K mainGlobals "law" = some (some (.ref f))) (e2 : K.lookup f = some ⟨oc, od, .func (fnOf "law" "law" params body scope dV kV doc pm an cdv ct), sl⟩) (e3 : codeIn K cdv "law" = true) .. : ∃ t, My.Txt K t

set_option maxRecDepth 100000 in
set_option maxHeartbeats 0 in
theorem PySem.Challenge.cw_LID_holds : PySem.Challenge.rw_LID.Holds := by
  w_on; o_law; k_head; (case hw => w_witness2)
  k_fill
  refine L2.walk_of (l := PySem.Challenge.rw_LID) (n := 63) (k := 40) (x := "script") (CX := fun w => ..) (sp := fun _ => My.sp_law) rfl (by decide) rfl ⟨rfl, by decide, by decide⟩ (fun w h Y => PySem.W.kIn_of Y) ?F ?S ?C
  case F =>
    intro w mg fa h KX G hmg
    have T : ∃ t, My.Txt (L2.KOf KX) t := by
      dsimp only [L2.KOf]                          -- K must stand as «<heap const> w.params» for k_is
      refine' My.txt_mk ?e1 ?e2 ?e3 ..
      (case e1 => PySem.W.k_is)                    -- in the order: a name -> its address -> its object -> its parts
      (case e2 => PySem.W.k_is)
      ..
    obtain ⟨t, T⟩ := T
    have e0 := hmg.symm.trans (PySem.W.mg_of KX G T.law)
    cases e0                                       -- fa is the law's own address
    exact ⟨_, fun s u => .of_eq rfl, fun base kb nb => My.law_fn T kb nb⟩     -- if «.of_eq rfl» comes too early: refine' ⟨_, ?b, fun base kb nb => My.law_fn T kb nb⟩; exact fun s u => .of_eq rfl
  case S => exact fun w H a ns hl hO hS => ..
  case C => exact ..
(the tactic k_is has no namespace: write k_is) -/

/-! SHORT WORDS over the layer: a def of the text, its body, what a loop and a test want. -/
namespace L2
open PySem PySem.Spec PyProof.Rows

/-! ### the text by places -/
/-- the j-th statement of a class's body -/
noncomputable def inClass (s : Stmt) (j : Nat) : Stmt := match s with
  | .ClassDef _ _ _ body _ _ _ _ _ _ _ => body.getD j (.Pass ⟨0, 0, 0, 0⟩)
  | _ => .Pass ⟨0, 0, 0, 0⟩
noncomputable def defArgs (s : Stmt) : Arguments := match s with
  | .FunctionDef _ a _ _ _ _ _ _ _ _ => a
  | _ => { posonlyargs := [], args := [], vararg := none, kwonlyargs := [], kw_defaults := [], kwarg := none, defaults := [] }
noncomputable def defBody (s : Stmt) : List Stmt := match s with
  | .FunctionDef _ _ b _ _ _ _ _ _ _ => b
  | _ => []
noncomputable def defScope (s : Stmt) : Scope := match s with
  | .FunctionDef _ _ _ _ _ _ sc _ _ _ => sc
  | _ => { kind := .function, names := [], isGenerator := false, isCoroutine := false }

/-! ### no exception leaves a def -/
noncomputable abbrev CX0 : CXT := fun _ _ _ _ _ _ => False
noncomputable abbrev E0 : XK := fun _ _ _ => False
theorem pass0 : Passes CX0 X E0 := fun _ _ _ _ _ _ _ h => h.elim

/-! ### a def (or method) of the text as it stands behind the top -/
structure Fun (K : PySem.W.Frag) (x qual : Str) (st : Stmt) (f : Addr) (fd : FuncData) : Prop where
  ex : ∃ (oc : Value) (od : Option Addr) (kV doc pm : Value) (an : Option Addr) (cdv ct : Value) (osl : Array (Option Value)),
    fd = PySem.W.fnOf x qual (defArgs st) (defBody st) (defScope st) .none kV doc pm an cdv ct ∧ K.lookup f = some ⟨oc, od, .func fd, osl⟩ ∧ PySem.W.codeIn K cdv qual = true
  kp : PySem.W.keepIn K (.ref f) = true
section
variable {P : Program} {w : World} {K : PySem.W.Frag} {mg : Str → Option Value} {base : Heap}
/-- THE RULE for a def: its body as a term of rules, and the reading of that term -/
theorem Fun.ok {x qual : Str} {st : Stmt} {f : Addr} {fd : FuncData} {N ps : List Str} {k : Nat} {sp : Sp} (F : Fun K x qual st f fd) (S : FnScope N ps (defScope st)) (len : ∀ vs H Q E, sp vs H Q E → vs.length = ps.length)
    (hbody : ∀ (cdv : Value) (A : Around) (outer : List Env) (s : Shared) (H : Hp) (vs : List V) (Q : VK) (E : XK), Room k (A.deeper (envOfC qual (defScope st) s.heap.objs.size f cdv)) → sp vs H Q E →
      ∃ t, PSs (cxOf CX0 P w K mg base N qual (defScope st) f cdv A outer s H E).nox (defBody st) t ∧ t { nx := fun _ H' => Q .non H', rt := Q } (start N vs) H) : FnOk P w K mg base CX0 (k + 1) f fd ps sp := by
  obtain ⟨oc, od, kV, doc, pm, an, cdv, ct, osl, rfl, lk, hcd⟩ := F.ex
  refine fn_of lk hcd S len fun A outer s H vs Q E hr hsp => ?_
  obtain ⟨t, h, q⟩ := hbody cdv A outer s H vs Q E hr hsp
  exact ⟨t, h.nox, q⟩
/-- how its arguments bind (no defaults): h is «fun _ _ _ _ _ _ us hl => match us, hl with | [_, _], _ => rfl», one _ a parameter -/
theorem Fun.binds {x qual : Str} {st : Stmt} {f : Addr} {fd : FuncData} {ps : List Str} (F : Fun K x qual st f fd)
    (h : ∀ (kV doc pm : Value) (an : Option Addr) (cdv ct : Value) (us : List Value), us.length = ps.length → bindArgs (PySem.W.fnOf x qual (defArgs st) (defBody st) (defScope st) .none kV doc pm an cdv ct) ⟨us, []⟩ = pure (ps.zip us)) : Binds K fd ps [] := by
  obtain ⟨oc, od, kV, doc, pm, an, cdv, ct, osl, rfl, lk, hcd⟩ := F.ex
  exact .all (h kV doc pm an cdv ct)
theorem fun_mk {x qual : Str} {st : Stmt} {f : Addr} {oc : Value} {od an : Option Addr} {osl : Array (Option Value)} {kV doc pm cdv ct : Value} (l : K.lookup f = some ⟨oc, od, .func (PySem.W.fnOf x qual (defArgs st) (defBody st) (defScope st) .none kV doc pm an cdv ct), osl⟩)
    (c : PySem.W.codeIn K cdv qual = true) (k : PySem.W.keepIn K (.ref f) = true) : Fun K x qual st f (PySem.W.fnOf x qual (defArgs st) (defBody st) (defScope st) .none kV doc pm an cdv ct) := ⟨⟨oc, od, kV, doc, pm, an, cdv, ct, osl, rfl, l, c⟩, k⟩
end
theorem small1000 (h : n ≤ 1000) : n < sizeLine := Nat.lt_of_le_of_lt h (by decide)

/-! ### expressions in short: the name that stands in the i-th slot -/
section
variable {X : Cx}
theorem pv (i : Nat) (hN : X.N[i]? = some x := by rfl) (hv : Vis X.env.scope x := by first | exact Or.inl rfl | exact Or.inr (Or.inl rfl) | exact Or.inr (Or.inr rfl)) (hd : (x == ("__debug__" : Str)) = false := by decide)
    (hcd : (x == ("__classdict__" : Str)) = false := by decide) : PE X (.Name x pos) (tVar i) := pe_var hN hv hd hcd
end

/-! ### tests -/
theorem iteF {A B : Prop} (h : B) : if false = true then A else B := by
  rw [if_neg Bool.false_ne_true]
  exact h
theorem iteT {A B : Prop} (h : A) : if true = true then A else B := by
  rw [if_pos rfl]
  exact h
/-! ### heaps -/
/-- all that was tracked is as it was -/
noncomputable def Nx (x : Option HO) : HO → Prop
  | .tbl t => ∃ ps, x = some (.tbl ⟨t.q, ps⟩)
  | o => x = some o
noncomputable def Same (H H' : Hp) : Prop := ∀ b o, H b = some o → Nx (H' b) o
theorem Nx.of (h : x = some o) : Nx x o := by
  cases o <;> first | exact h | exact ⟨_, h⟩
theorem Nx.some (h : Nx x o) : ∃ u, x = some u := by
  cases o <;> first | exact ⟨_, h⟩ | (obtain ⟨ps, h⟩ := h; exact ⟨_, h⟩)
theorem same_mk (h : ∀ b o, H b = some o → H' b = some o) : Same H H' := fun b o e => .of (h b o e)
theorem Same.refl (H : Hp) : Same H H := same_mk fun _ _ h => h
theorem Same.trans (a : Same H H1) (b : Same H1 H2) : Same H H2 := fun c o h => by
  have q := a c o h
  cases o <;> first | exact b c _ q | (obtain ⟨ps, q⟩ := q; have z := b c _ q; exact z)
theorem Same.free (e : Same H H') (h : H' l = Option.none) : H l = Option.none := by
  cases q : H l with
  | none => rfl
  | some o =>
    obtain ⟨u, z⟩ := (e l o q).some
    rw [z] at h
    cases h
theorem Same.seq {K : PySem.W.Frag} {H H' : Hp} {a : Addr} {xs : List V} (e : Same H H') (h : SqL K H a xs) : SqL K H' a xs := by
  rcases h with (h | ⟨o, h⟩) | h
  · exact .inl (.inl (e _ _ h))
  · exact .inl (.inr ⟨o, e _ _ h⟩)
  · exact .inr h

end L2

/-! ### whole numbers that lean on the frame (and what is read of the heap) alone -/
namespace L2
open PySem PySem.Spec PyProof.Rows
/-- the int in slot i -/
noncomputable def gI (σ : St) (i : Nat) : Int := match σ[i]? with
  | some (some (.int n)) => n
  | _ => 0
noncomputable def hI (σ : St) (i : Nat) : Prop := σ[i]? = some (some (.int (gI σ i)))
/-- a number g under C, the heap stays -/
noncomputable def tN (C : St → Hp → Prop) (g : St → Int) : TE := fun σ H Q => C σ H ∧ Q (.int (g σ)) H
/-- a test p under C, the heap stays -/
noncomputable def tP (C : St → Hp → Prop) (p : St → Prop) [∀ σ, Decidable (p σ)] : TT := fun σ H Q => C σ H ∧ Q (decide (p σ)) H
section
variable {X : Cx} {a b : Expr} {pos : Pos} {Ca Cb : St → Hp → Prop} {ga gb : St → Int}
theorem pn_var (i : Nat) (hN : X.N[i]? = some x := by rfl) (hv : Vis X.env.scope x := by first | exact Or.inl rfl | exact Or.inr (Or.inl rfl) | exact Or.inr (Or.inr rfl))
    (hd : (x == ("__debug__" : Str)) = false := by decide) (hcd : (x == ("__classdict__" : Str)) = false := by decide) : PE X (.Name x pos) (tN (fun σ _ => hI σ i) (fun σ => gI σ i)) :=
  fun pins s σ H Q I h => pe_var hN hv hd hcd pins s σ H Q I ⟨_, h.1, h.2⟩
theorem pn_int : PE X (.Constant (.int i) j pos) (tN (fun _ _ => True) (fun _ => i)) := fun pins s σ H Q I h => pe_int pins s σ H Q I h.2
theorem pn_glob (hg : Gl X x) (hm : ∃ tk, X.mg x = some (.int i tk)) (hd : (x == ("__debug__" : Str)) = false := by decide) : PE X (.Name x pos) (tN (fun _ _ => True) (fun _ => i)) :=
  fun pins s σ H Q I h => let ⟨_, hm⟩ := hm; pe_glob hg hm (v := .int i) ⟨_, rfl⟩ hd pins s σ H Q I h.2
theorem pn_op {op : Operator} {C : Int → Int → Prop} {g : Int → Int → Int} (ho : OpR X (binaryOp op) (rI C fun i j => .int (g i j))) (ha : PE X a (tN Ca ga)) (hb : PE X b (tN Cb gb)) :
    PE X (.BinOp a op b pos) (tN (fun σ H => Ca σ H ∧ Cb σ H ∧ C (ga σ) (gb σ)) (fun σ => g (ga σ) (gb σ))) :=
  fun pins s σ H Q I h => pe_op ho ha hb pins s σ H Q I ⟨h.1.1, h.1.2.1, _, _, rfl, rfl, h.1.2.2, h.2⟩
theorem pn_op0 {op : Operator} {g : Int → Int → Int} (ho : OpR X (binaryOp op) (rI0 fun i j => .int (g i j))) (ha : PE X a (tN Ca ga)) (hb : PE X b (tN Cb gb)) :
    PE X (.BinOp a op b pos) (tN (fun σ H => Ca σ H ∧ Cb σ H) (fun σ => g (ga σ) (gb σ))) :=
  fun pins s σ H Q I h => pe_op ho ha hb pins s σ H Q I ⟨h.1.1, h.1.2, _, _, rfl, rfl, h.2⟩
/-- a product of any two that the machine takes -/
theorem op_mulB : OpR X (binaryOp .Mult) (rI IntMulOk fun i j => .int (i * j)) := opI fun _ _ _ _ _ _ _ hc q => mul_int q hc
/-- // by a positive divisor below 2 ^ 9000 -/
noncomputable def CDivB (_ j : Int) : Prop := 0 < j ∧ j.natAbs.log2 < 9000
theorem op_fdivB : OpR X (binaryOp .FloorDiv) (rI CDivB fun i j => .int (i / j)) := opI fun i j _ _ _ _ _ hc q => by
  have h1 : (0 : Int) < j := hc.1
  exact floordiv_int (by omega) (by rw [Int.fdiv_eq_ediv_of_nonneg i (by omega)]; exact q) (.inl (PyProof.noPylong_of_log2 hc.2))
theorem pn_add (ha : PE X a (tN Ca ga)) (hb : PE X b (tN Cb gb)) : PE X (.BinOp a .Add b pos) (tN (fun σ H => Ca σ H ∧ Cb σ H) (fun σ => ga σ + gb σ)) := pn_op0 op_add ha hb
theorem pn_mul (ha : PE X a (tN Ca ga)) (hb : PE X b (tN Cb gb)) : PE X (.BinOp a .Mult b pos) (tN (fun σ H => Ca σ H ∧ Cb σ H ∧ IntMulOk (ga σ) (gb σ)) (fun σ => ga σ * gb σ)) := pn_op op_mulB ha hb
theorem pn_neg (ha : PE X a (tN Ca ga)) : PE X (.UnaryOp .USub a pos) (tN Ca (fun σ => -ga σ)) :=
  fun pins s σ H Q I h => pe_un un_neg ha pins s σ H Q I ⟨h.1, _, rfl, h.2⟩
/-! tests -/
theorem pt_cmpN {op : CmpOp} {p : Int → Int → Prop} [∀ i j, Decidable (p i j)] (ho : OpR X (compareOp op) (rI0 fun i j => .bl (decide (p i j)))) (hm : behindInMarks op b = false) (ha : PE X a (tN Ca ga)) (hb : PE X b (tN Cb gb)) :
    PT X (.Compare a [op] [b] pos) (tP (fun σ H => Ca σ H ∧ Cb σ H) (fun σ => p (ga σ) (gb σ))) :=
  fun pins s σ H Q I h => pt_cmpR ho ha hb hm pins s σ H Q I ⟨h.1.1, h.1.2, _, _, rfl, rfl, _, rfl, h.2⟩
theorem op_eqI : OpR X (compareOp .Eq) (rI0 fun i j => .bl (decide (i = j))) := fun pins s σ H x y v u Q I rx ry h => by
  obtain ⟨i, j, rfl, rfl, q⟩ := h
  refine op_eq pins s σ H _ _ v u Q I rx ry ⟨rfl, ?_⟩
  rw [dec_int, Bool.beq_eq_decide_eq]
  exact q
theorem op_neI : OpR X (compareOp .NotEq) (rI0 fun i j => .bl (decide (¬ i = j))) := fun pins s σ H x y v u Q I rx ry h => by
  obtain ⟨i, j, rfl, rfl, q⟩ := h
  have q : Q (.bl (decide (¬ i = j))) H := q
  rw [decide_not] at q
  refine op_ne pins s σ H _ _ v u Q I rx ry ⟨rfl, ?_⟩
  rw [dec_int, Bool.beq_eq_decide_eq]
  exact q
theorem ptn_lt (ha : PE X a (tN Ca ga)) (hb : PE X b (tN Cb gb)) : PT X (.Compare a [.Lt] [b] pos) (tP (fun σ H => Ca σ H ∧ Cb σ H) (fun σ => ga σ < gb σ)) := pt_cmpN op_lt (nomark _) ha hb
theorem ptn_ne (ha : PE X a (tN Ca ga)) (hb : PE X b (tN Cb gb)) : PT X (.Compare a [.NotEq] [b] pos) (tP (fun σ H => Ca σ H ∧ Cb σ H) (fun σ => ¬ ga σ = gb σ)) := pt_cmpN (p := fun i j => ¬ i = j) op_neI (nomark _) ha hb
variable {pa pb : St → Prop} [∀ σ, Decidable (pa σ)] [∀ σ, Decidable (pb σ)] {rest : List Expr}
/-! statements -/
noncomputable def tIfP (C : St → Hp → Prop) (p : St → Prop) (t u : TS) : TS := fun D σ H => C σ H ∧ (p σ → t D σ H) ∧ (¬ p σ → u D σ H)
theorem ps_ifP (hc : PT X c (tP Ca pa)) (hx : PSs X x t) (hy : PSs X y u) : PS X (.If c x y pos) (tIfP Ca pa t u) :=
  fun pins s σ H D I h => ps_if hc hx hy pins s σ H D I ⟨h.1, by
    by_cases c : pa σ
    · rw [decide_eq_true c]; refine iteT ?_; exact h.2.1 c
    · rw [decide_eq_false c]; refine iteF ?_; exact h.2.2 c⟩
/-- x = a number: a letter n for it -/
noncomputable def tSetN (i : Nat) (C : St → Hp → Prop) (g : St → Int) : TS := fun D σ H => C σ H ∧ ∀ n, n = g σ → D.nx (σ.set i (some (.int n))) H
theorem ps_setN (hN : X.N.Nodup) (hi : X.N[i]? = some x) (hx : Loc X.env.scope x) (he : PE X e (tN Ca ga)) (hs : swapsWith e (some (.Name x pos')) pos.line X.env = pure false := by rfl)
    (hf : X.fn x = true ∨ X.env.scope.names.lookup x = some .local := by first | exact .inl rfl | exact .inr rfl | assumption) : PS X (.Assign [.Name x pos'] e pos) (tSetN i Ca ga) :=
  fun pins s σ H D I h => ps_set hN hi hx he hs hf pins s σ H D I ⟨h.1, h.2 _ rfl⟩
end
/-! a list that nothing holds any more is forgotten -/
section
variable {X : Cx} {pins : List (Addr × Obj)} {σ : St} {H : Hp} {s : Shared} {p : Addr} {xs : List V}
end
section
variable {X : Cx} {b : Expr} {es : List Expr} {pos p1 : Pos} {Cb C : St → Hp → Prop} {gb : St → Int}
theorem atI_int {ns : List Int} {i : Int} (h0 : 0 ≤ i) (h1 : i < (ns.length : Int)) : atI (ns.map V.int) i = some (V.int (ns.getD i.toNat 0)) := by
  have e : i = ((i.toNat : Nat) : Int) := by omega
  have l : i.toNat < ns.length := by omega
  have q : atI (ns.map V.int) ((i.toNat : Nat) : Int) = some (V.int (ns.getD i.toNat 0)) := atI_nat (by rw [List.getElem?_map, List.getElem?_eq_getElem l, List.getD_eq_getElem?_getD, List.getElem?_eq_getElem l]; rfl)
  rw [← e] at q
  exact q
/-- an item of a list of numbers that stands in slot j; the place of any sign -/
noncomputable def tItem (K : PySem.W.Frag) (j : Nat) (C : St → Hp → Prop) (g : St → Int) : TE := fun σ H Q => C σ H ∧ ∃ (a : Addr) (ns : List Int) (n : Int), σ[j]? = some (some (.ref a)) ∧ SqL K H a (ns.map V.int) ∧ atI (ns.map V.int) (g σ) = some (.int n) ∧ Q (.int n) H
theorem pe_item (j : Nat) (hb : PE X b (tN C gb)) (hs : PlainIx b) (hN : X.N[j]? = some x := by rfl) (hv : Vis X.env.scope x := by first | exact Or.inl rfl | exact Or.inr (Or.inl rfl) | exact Or.inr (Or.inr rfl))
    (hd : (x == ("__debug__" : Str)) = false := by decide) (hcd : (x == ("__classdict__" : Str)) = false := by decide) : PE X (.Subscript (.Name x px) b pos) (tItem X.K j C gb) := by
  intro pins s σ H Q I h
  obtain ⟨c, a, ns, n, e1, e2, e3, q⟩ := h
  exact pe_ix ix_list (pe_var hN hv hd hcd) hb hs pins s σ H Q I ⟨_, e1, c, a, _, _, _, rfl, rfl, e2, e3, q⟩
/-- the same where the list a and its numbers ns are known beforehand -/
theorem pn_item (j : Nat) (a : Addr) (ns : List Int) {x : Str} {px : Pos} (hb : PE X b (tN C gb)) (hs : PlainIx b) (hN : X.N[j]? = some x := by rfl) (hv : Vis X.env.scope x := by first | exact Or.inl rfl | exact Or.inr (Or.inl rfl) | exact Or.inr (Or.inr rfl))
    (hd : (x == ("__debug__" : Str)) = false := by decide) (hcd : (x == ("__classdict__" : Str)) = false := by decide) :
    PE X (.Subscript (.Name x px) b pos) (tN (fun σ H => C σ H ∧ σ[j]? = some (some (.ref a)) ∧ SqL X.K H a (ns.map V.int) ∧ -(ns.length : Int) ≤ gb σ ∧ gb σ < (ns.length : Int)) (fun σ => ns.getD (if 0 ≤ gb σ then gb σ else gb σ + ns.length).toNat 0)) := by
  intro pins s σ H Q I h
  obtain ⟨⟨c, e1, e2, b1, b2⟩, q⟩ := h
  refine pe_ix ix_list (pe_var hN hv hd hcd) hb hs pins s σ H Q I ⟨_, e1, c, a, _, _, _, rfl, rfl, e2, ?_, q⟩
  show atI (ns.map V.int) (gb σ) = some (V.int (ns.getD (if 0 ≤ gb σ then gb σ else gb σ + ns.length).toNat 0))
  by_cases c0 : 0 ≤ gb σ
  · rw [if_pos c0]; exact atI_int c0 b2
  · rw [if_neg c0]
    have q2 := atI_int (ns := ns) (i := gb σ + ns.length) (by omega) (by omega)
    unfold atI ixN at q2 ⊢
    rw [List.length_map] at q2 ⊢
    rw [if_pos (show 0 ≤ gb σ + (ns.length : Int) by omega), if_pos (show gb σ + (ns.length : Int) < (ns.length : Int) by omega)] at q2
    rw [if_neg c0, if_pos b1]
    exact q2
/-- len(x), x a list known beforehand -/
theorem pn_len (j : Nat) (a : Addr) (xs : List V) (hm : X.mg "len" = none) (hN : X.N[j]? = some x := by rfl) (hg : Gl X "len" := by rfl) (hv : Vis X.env.scope x := by first | exact Or.inl rfl | exact Or.inr (Or.inl rfl) | exact Or.inr (Or.inr rfl))
    (hd : (x == ("__debug__" : Str)) = false := by decide) (hcd : (x == ("__classdict__" : Str)) = false := by decide) (he : starEach [.Name x px] X.env = [(false, eval (.Name x px) X.env)] := by rfl) :
    PE X (.Call (.Name "len" p) [.Name x px] [] pos) (tN (fun σ H => σ[j]? = some (some (.ref a)) ∧ SqL X.K H a xs) (fun _ => (xs.length : Int))) := by
  intro pins s σ H Q I h
  exact pe_callB call_len_seq hg hm PySem.boot_len (pa_cons (pe_var hN hv hd hcd) pa_nil he) (by decide) (by decide) he rfl pins s σ H Q I ⟨_, h.1.1, a, _, rfl, .inl h.1.2, h.2⟩
end
/-! calls of defs that tell numbers of numbers -/
section
variable {X : Cx} {e : Expr} {es : List Expr} {pos p : Pos} {Ca Cb : St → Hp → Prop} {ga : St → Int} {gs : St → List Int}
end
/-- a def of the text under its name keeps the promise sp -/
structure Ok (P : Program) (w : World) (K : PySem.W.Frag) (mg : Str → Option Value) (base : Heap) (k : Nat) (x : Str) (ps : List Str) (sp : Sp) : Prop where
  ex : ∃ f fd, FnOk P w K mg base CX0 k f fd ps sp ∧ Binds K fd ps [] ∧ PySem.W.keepIn K (.ref f) = true ∧ mg x = some (.ref f)
theorem Ok.imp {P : Program} {w : World} {K : PySem.W.Frag} {mg : Str → Option Value} {base : Heap} {k : Nat} {x : Str} {ps : List Str} {sp sp' : Sp} (o : Ok P w K mg base k x ps sp) (h : ∀ vs H Q E, sp' vs H Q E → sp vs H Q E) : Ok P w K mg base k x ps sp' := by
  obtain ⟨f, fd, a, b⟩ := o.ex
  exact ⟨f, fd, a.imp h, b⟩
section
variable {X : Cx} {e : Expr} {es : List Expr} {pos p : Pos} {j k : Nat} {x : Str} {ps : List Str} {sp : Sp} {t : TA}
theorem pe_callO (o : Ok X.prog X.w X.K X.mg X.base j x ps sp) (hr : Room k X.A) (ha : PA X (e :: es) t) (hj : j ≤ k := by decide) (hg : Gl X x := by rfl) (hdb : (x == ("__debug__" : Str)) = false := by decide)
    (he : starEach (e :: es) X.env = (false, eval e X.env) :: starEach es X.env := by rfl) (hpl : (backTo pos (starEach es X.env)).any (·.1) = false := by rfl) : PE X (.Call (.Name x p) (e :: es) [] pos) (tCall sp [] E0 t) := by
  obtain ⟨f, fd, F, b, kp, m⟩ := o.ex
  exact pe_call (F.mono hj) hr hg m kp b .nil pass0 ha hdb he hpl
variable {C : St → Hp → Prop} {g : St → List Int} {n : Nat} {pre : List Int → Prop}
end
/-! ### a def by its promise -/
structure Def (K : PySem.W.Frag) (mg : Str → Option Value) (x : Str) (st : Stmt) (ps : List Str) : Prop where
  ex : ∃ f fd, Fun K x x st f fd ∧ Binds K fd ps [] ∧ mg x = some (.ref f)
section
variable {P : Program} {w : World} {K : PySem.W.Frag} {mg : Str → Option Value} {base : Heap}
theorem Def.ok {x : Str} {st : Stmt} {N ps : List Str} {k : Nat} {sp : Sp} (d : Def K mg x st ps) (S : FnScope N ps (defScope st)) (len : ∀ vs H Q E, sp vs H Q E → vs.length = ps.length)
    (hbody : ∀ (f : Addr) (cdv : Value) (A : Around) (outer : List Env) (s : Shared) (H : Hp) (vs : List V) (Q : VK) (E : XK), Room k (A.deeper (envOfC x (defScope st) s.heap.objs.size f cdv)) → sp vs H Q E →
      ∃ t, PSs (cxOf CX0 P w K mg base N x (defScope st) f cdv A outer s H E).nox (defBody st) t ∧ t { nx := fun _ H' => Q .non H', rt := Q } (start N vs) H) : Ok P w K mg base (k + 1) x ps sp := by
  obtain ⟨f, fd, F, b, m⟩ := d.ex
  exact ⟨f, fd, F.ok S len fun cdv A outer s H vs Q E hr h => hbody f cdv A outer s H vs Q E hr h, b, F.kp, m⟩
theorem Def.mk' {x : Str} {st : Stmt} {ps : List Str} {f : Addr} {fd : FuncData} (F : Fun K x x st f fd) (b : Binds K fd ps []) (m : mg x = some (.ref f)) : Def K mg x st ps := ⟨f, fd, F, b, m⟩
end
end L2

/-! ### isinstance, built-in names, lengths -/
namespace L2
open PySem PySem.Spec PyProof.Rows
theorem bt_int : bootBuiltins "int" = some (.type "int") := by decide +kernel
theorem bt_bool : bootBuiltins "bool" = some (.type "bool") := by decide +kernel
theorem bt_list : bootBuiltins "list" = some (.type "list") := by decide +kernel
theorem bt_tuple : bootBuiltins "tuple" = some (.type "tuple") := by decide +kernel
theorem bt_str : bootBuiltins "str" = some (.type "str") := by decide +kernel
theorem bt_ValueError : bootBuiltins "ValueError" = some (.type "ValueError") := by decide +kernel
theorem bt_len : bootBuiltins "len" = some (.builtin "len") := by decide +kernel
theorem bt_isinstance : bootBuiltins "isinstance" = some (.builtin "isinstance") := by decide +kernel
theorem bt_abs : bootBuiltins "abs" = some (.builtin "abs") := by decide +kernel
theorem bt_min : bootBuiltins "min" = some (.builtin "min") := by decide +kernel
/-- the class that a value names -/
noncomputable def clsV : V → Option Value
  | .ty n => some (.type n)
  | .ref a => some (.ref a)
  | _ => none
theorem clsV_rel (h : clsV c = some cv) (r : RelV c u) : u = cv := by
  cases c with
  | ty n => cases h; exact r
  | ref a => cases h; exact r
  | non => cases h
  | bl _ => cases h
  | int _ => cases h
  | str _ => cases h
  | byt _ => cases h
  | flt _ => cases h
section
variable {X : Cx}
theorem call_isinst : CallR X (.builtin "isinstance") (fun xs H Q => ∃ x c t cv b, xs = [x, c] ∧ clsV c = some cv ∧ TyOf X.K H x t ∧ PySem.W.kitOne X.K t cv = some b ∧ Q (.bl b) H) := by
  intro pins s σ H xs us Q I r h
  obtain ⟨x, c, t, cv, b, rfl, hc, ty, e, q⟩ := h
  obtain ⟨u, w', rfl, r1, r2⟩ := vals2 r
  obtain rfl := clsV_rel hc r2
  exact isinst_ok I r1 ty e fun tk => ⟨.bl b, H, I.tok tk, rfl, q⟩
end
theorem len1 {ns : List Int} (h : ns.length = 1) : ∃ a, ns = [a] := match ns, h with | [a], _ => ⟨a, rfl⟩
theorem same_new (h : H p = none) (o : HO) : Same H (upd H p o) := same_mk fun b u q => by rw [upd_ne (ne_of_none q h)]; exact q
/-! products that the machine takes -/
theorem bits_le (h : k.natAbs < 2 ^ n) : Builtin.Int.intBits k ≤ n := by
  unfold Builtin.Int.intBits
  split
  · exact Nat.zero_le _
  · have hk : k.natAbs ≠ 0 := by
      rename_i c
      intro z
      apply c
      first | exact z | (have : k = 0 := by omega
                         simp [this]) | omega
    have := (Nat.log2_lt hk).mpr h
    omega
theorem mul_ok (ha : a.natAbs < 2 ^ n) (hb : b.natAbs < 2 ^ m) (hn : n ≤ 1048576 := by decide) (hm : m ≤ 1048576 := by decide) : IntMulOk a b :=
  .of_bits (Nat.le_trans (bits_le ha) (Nat.le_trans hn (by decide))) (Nat.le_trans (bits_le hb) (Nat.le_trans hm (by decide)))
theorem mul_okR (h : -(2 ^ 64) < b ∧ b < 2 ^ 64) : IntMulOk a b := .of_right (intBits_le_64 h.1 h.2)
end L2

/-! ### list comprehensions: one clause, any target, at most one test -/
namespace L2
open PySem PySem.Spec PyProof.Rows
noncomputable abbrev NoX : Value → Shared → Prop := fun _ _ => False
noncomputable def testsTree (cs : List Expr) (ev : Env) : Sem Bool := forIn cs true fun c r => if r = true then do let ok ← isTrue c ev (eval c ev); pure (ForInStep.yield ok) else pure (ForInStep.yield r)
section
variable {P : Program} {w : World} {A : Around} {R : Result → Shared → Prop} {s : Shared}
theorem comp_loop (I : Nat → Shared → Prop)
    (turn : ∀ n s, I n s → wpAny (model P w) A (pyNext it) (fun r s1 => (r = none ∧ R (.ok .next) s1) ∨ ∃ v, r = some v ∧
      wpAny (model P w) A (letOwnedTupleGo tg it v) (fun _ s2 => wpAny (model P w) A (assign tg ev v) (fun _ s3 => wpAny (model P w) A (testsTree cs ev) (fun ok s4 =>
        if ok = true then wpAny (model P w) A (eval el ev) (fun x s5 => wpAny (model P w) A (call (.builtin "list.append") [acc, x]) (fun _ s6 => ∃ m, m < n ∧ I m s6) NoX s5) NoX s4
        else ∃ m, m < n ∧ I m s4) NoX s3) NoX s2) NoX s1) NoX s)
    (n : Nat) (h : I n s) : codeAny (model P w) A (.compLoop (.ListComp el [⟨tg, src, cs, 0⟩] sc at') 0 it acc ev) R s := by
  refine codeAny_loop rfl I (fun n s hI => ?_) n h
  refine wpAny_noted (wpAny_noRaise ?_)
  rw [compTurn_list]
  refine wpAny_bind (wpAny_standAt (wpAny_bind (thn (turn n s hI) fun r s1 h1 => ?_)))
  rcases h1 with ⟨rfl, h1⟩ | ⟨v, rfl, h1⟩
  · exact wpAny_pure h1
  · refine wpAny_bind (thn h1 fun _ s2 h2 => wpAny_bind (thn h2 fun _ s3 h3 => wpAny_bind (thn h3 fun ok s4 h4 => ?_)))
    cases ok with
    | false => exact wpAny_pure ⟨rfl, h4⟩
    | true => exact wpAny_bind (wpAny_bind (thn h4 fun x s5 h5 => wpAny_bind (thn h5 fun _ s6 h6 => wpAny_pure (wpAny_pure ⟨rfl, h6⟩))))
end
/-- the names that the block takes from the def, with their slots there -/
noncomputable def CapOk (X : Cx) (sc : Scope) (cl : List (Str × Addr)) : List Str → List (Option Nat) → Prop
  | [], [] => True
  | _ :: xs, none :: cs => CapOk X sc cl xs cs
  | x :: xs, some i :: cs => (X.N[i]? = some x ∧ Vis X.env.scope x ∧ X.env.kindOf x ≠ some .local ∧ ((relabel sc X.env).names.lookup x = some .cell ∨ (relabel sc X.env).names.lookup x = some .free) ∧ ∃ c, cl.lookup x = some c ∧ X.env.cells.lookup x = some c) ∧ CapOk X sc cl xs cs
  | _, _ => False
noncomputable def SubC (ev : Env) : List (Str × Addr) → Prop
  | [] => True
  | (x, c) :: r => ev.cells.lookup x = some c ∧ SubC ev r
theorem SubC.look : ∀ {cl : List (Str × Addr)}, SubC ev cl → ∀ {x : Str} {c : Addr}, cl.lookup x = some c → ev.cells.lookup x = some c
  | [], _, x, c, h => by simp at h
  | (y, d) :: r, q, x, c, h => by
    rw [List.lookup_cons] at h
    cases e : x == y with
    | true =>
      rw [e] at h
      have e' : x = y := by simpa using e
      subst e'
      cases h
      exact q.1
    | false => rw [e] at h; exact SubC.look q.2 h
noncomputable def capS (cap : List (Option Nat)) (σ : St) : St := cap.map fun o => match o with
  | some i => (σ[i]?).join
  | none => none
noncomputable def cxComp (X : Cx) (N' : List Str) (sc : Scope) (cl : List (Str × Addr)) (s : Shared) (H : Hp) (fp : List Addr) : Cx :=
  { X with N := N', s₀ := s, H₀ := H, env := compEnvC sc cl s.heap.objs.size X.env, outer := X.stack, ex := fp, fn := fun _ => false, pn := [], xe := NoX }
section
variable {X : Cx} {pins : List (Addr × Obj)} {σ : St} {H : Hp} {s : Shared} {N' : List Str} {sc : Scope} {cl : List (Str × Addr)} {cap : List (Option Nat)} {fp : List Addr}
theorem CapOk.length {X : Cx} {sc : Scope} {cl : List (Str × Addr)} : ∀ {N' : List Str} {cap : List (Option Nat)}, CapOk X sc cl N' cap → cap.length = N'.length
  | [], [], _ => rfl
  | _ :: xs, none :: cs, h => by
    have := CapOk.length (X := X) (sc := sc) (cl := cl) (N' := xs) (cap := cs) h
    simp [this]
  | _ :: xs, some i :: cs, h => by
    have := CapOk.length (X := X) (sc := sc) (cl := cl) (N' := xs) (cap := cs) h.2
    simp [this]
  | [], _ :: _, h => h.elim
  | _ :: _, [], h => h.elim
theorem CapOk.at : ∀ {N' : List Str} {cap : List (Option Nat)} {j : Nat}, CapOk X sc cl N' cap → N'[j]? = some x → cap[j]? = some (some i) →
    X.N[i]? = some x ∧ Vis X.env.scope x ∧ X.env.kindOf x ≠ some .local ∧ ((relabel sc X.env).names.lookup x = some .cell ∨ (relabel sc X.env).names.lookup x = some .free) ∧ ∃ c, cl.lookup x = some c ∧ X.env.cells.lookup x = some c
  | [], [], j, _, h, _ => by simp at h
  | _ :: xs, none :: cs, 0, _, _, h => by simp at h
  | _ :: xs, none :: cs, j + 1, q, h1, h2 => CapOk.at (N' := xs) (cap := cs) (j := j) q (by simpa using h1) (by simpa using h2)
  | y :: xs, some k :: cs, 0, q, h1, h2 => by
    have e1 : y = x := by simpa using h1
    have e2 : k = i := by simpa using h2
    subst e1 e2
    exact q.1
  | _ :: xs, some _ :: cs, j + 1, q, h1, h2 => CapOk.at (N' := xs) (cap := cs) (j := j) q.2 (by simpa using h1) (by simpa using h2)
  | [], _ :: _, _, h, _, _ => h.elim
  | _ :: _, [], _, h, _, _ => h.elim
/-- the block begins -/
theorem Inv.block (I : Inv X pins σ H s) (hk : sc.kind = .function) (hcap : CapOk X sc cl N' cap) (sub : SubC X.env cl)
    (has : ∀ x, ((relabel sc X.env).names.lookup x = some .cell ∨ (relabel sc X.env).names.lookup x = some .free) → ∃ c, cl.lookup x = some c)
    (hf : ∀ b ∈ fp, FpOk X pins H b) (hfo : ∀ b ∈ fp, ∃ o, s.heap.get? b = some o) (hns : h'.Ns s.heap.objs.size m) (hsb : Heap.SameBut s.heap.objs.size (s.heap.push o) h') :
    Inv (cxComp X N' sc cl s H fp) [] (capS cap σ) H { s with heap := h', toks := tk } := by
  have keep : ∀ b u, s.heap.get? b = some u → h'.get? b = some u := fun b u e =>
    (hsb.2 b (Nat.ne_of_lt (Heap.lt_size e))).trans (Heap.get?_push_of_some _ e)
  refine ⟨⟨I.ok.mod, hk, I.ok.glob, I.ok.blt, Nat.le_refl _, fun x y c h1 h2 => I.ok.inj x y c (sub.look h1) (sub.look h2), has, (fun x c h _ => nomatch h), I.ok.hd, I.ok.frames, .inl rfl,
    fun b hb => ⟨?_, fun x c e => (hf b hb).2.2.2.2.1 x c (sub.look e)⟩, I.bs, Nat.le_trans I.ok.bsz I.sz, fun b u e hb => ?_, fun b hb hb' => ?_, I.stack, I.env0.frf⟩,
    rfl, I.bare, Un.kept keep, ⟨m, hns, fun j x v h1 h2 h3 => ?_⟩, fun x c e => ?_, I.hok.fresh (Nat.le_refl _), fun x c e => I.freeC x c (sub.look e), fun p hp => absurd (show p ∈ ([] : List (Addr × Obj)) from hp) (by simp), I.hok.kept keep, ?_⟩
  · obtain ⟨u, e⟩ := hfo b hb
    exact Nat.ne_of_lt (Heap.lt_size e)
  · rcases (hf b hb).2.2.2.1 with z | z
    · exact I.ok.noex b u e z
    · exact absurd (Nat.lt_of_lt_of_le (Heap.lt_size e) (Nat.le_trans I.ok.bsz z)) (Nat.lt_irrefl _)
  · rcases List.mem_cons.mp (I.stkSub b hb') with z | z
    · exact (hf b hb).2.1 z
    · exact (hf b hb).2.2.1 z
  · obtain ⟨m0, hn0, hl0⟩ := I.loc
    have h2' : ((cap.map fun o => match o with | some i => (σ[i]?).join | none => none) : St)[j]? = some (some v) := h2
    rw [List.getElem?_map] at h2'
    cases e : cap[j]? with
    | none => rw [e] at h2'; cases h2'
    | some oi =>
      rw [e] at h2'
      cases oi with
      | none => cases h2'
      | some i =>
        have h4 : (σ[i]?).join = some v := Option.some.inj h2'
        have h5 : σ[i]? = some (some v) := by
          cases z : σ[i]? with
          | none => rw [z] at h4; cases h4
          | some y => rw [z] at h4; cases h4; rfl
        obtain ⟨a1, a2, a3, a4, c, a5, a6⟩ := hcap.at h1 e
        obtain ⟨u, r, l⟩ := hl0 i x v a1 h5 a2
        refine ⟨u, r, .inr ⟨a4, c, a5, ?_⟩⟩
        rcases l with ⟨k, _⟩ | ⟨_, c', e', ic⟩
        · exact absurd k a3
        · rw [a6] at e'
          cases e'
          obtain ⟨oc, h7, h8⟩ := ic
          exact ⟨oc, keep _ _ h7, h8⟩
  · obtain ⟨v, oc, h7, h8⟩ := I.cell x c (sub.look e)
    exact ⟨v, oc, keep _ _ h7, h8⟩
  · unfold capS
    rw [List.length_map]
    exact hcap.length
/-- the block ends: back in the def's body -/
theorem Inv.unblock (I : Inv X pins σ H s) (hf : ∀ b ∈ fp, FpOk X pins H b) (J : Inv (cxComp X N' sc cl s H fp) pins' σ' H' s') : Inv X pins σ H' s' :=
  I.call' (ch := fp) J.os J.base J.hok J.bare fun b hb => ⟨(hf b hb).2.2.2.1, (hf b hb).2.1, (hf b hb).2.2.2.2.1, (hf b hb).2.2.2.2.2⟩
end
/-- a turn's end knows what the block took from the def -/
noncomputable def ExtS : St → St → Prop
  | [], [] => True
  | none :: a, _ :: b => ExtS a b
  | some v :: a, y :: b => y = some v ∧ ExtS a b
  | _, _ => False
theorem ExtS.at : ∀ {a b : St}, ExtS a b → ∀ (i : Nat) (v : V), a[i]? = some (some v) → b[i]? = some (some v)
  | [], [], _, i, v, h => by simp at h
  | none :: a, _ :: b, q, 0, v, h => by simp at h
  | none :: a, _ :: b, q, i + 1, v, h => by
    have := ExtS.at (a := a) (b := b) q i v (by simpa using h)
    simpa using this
  | some u :: a, y :: b, q, 0, v, h => by
    have e : u = v := by simpa using h
    rw [q.1, e]
    rfl
  | some u :: a, y :: b, q, i + 1, v, h => by
    have := ExtS.at (a := a) (b := b) q.2 i v (by simpa using h)
    simpa using this
  | [], _ :: _, q, _, _, _ => q.elim
  | none :: _, [], q, _, _, _ => q.elim
  | some _ :: _, [], q, _, _, _ => q.elim
/-- the tests of the clause -/
noncomputable def PTs (X : Cx) (cs : List Expr) (t : TT) : Prop :=
  ∀ (pins : List (Addr × Obj)) (s : Shared) (σ : St) (H : Hp) (Q : Bool → Hp → Prop), Inv X pins σ H s → t σ H Q → wpAny (model X.prog X.w) X.A (testsTree cs X.env) (TP X pins σ Q) X.xe s
theorem pts_nil : PTs X [] (fun _ H Q => Q true H) := fun _ _ _ H _ I h => wpAny_tests_nil ⟨H, I, h⟩
theorem pts_one (h : PT X c t) : PTs X [c] t := fun pins s σ H Q I q => wpAny_tests_one (h pins s σ H Q I q)
/-- the loop of the clause: W by the turn, a measure and the numbers made so far -/
noncomputable def lcW (D : Addr) (J : It) (σ : St) (g : TG) (tt : TT) (te : TE) (Q : VK) (W : Nat → Nat → List V → Hp → Prop) : Prop :=
  ∀ i m ys H, W i m ys H → H D = some (.lst ys) ∧ ys.length < sizeLine ∧
    ((J.stop i H ∧ Q (.ref D) H) ∨ (J.go i H ∧ ∀ x H', J.yld i H x H' → g x σ H' fun σ2 H2 => ExtS σ σ2 ∧ tt σ2 H2 fun ok H3 =>
      if ok = true then te σ2 H3 fun y H4 => H4 D = some (.lst ys) ∧ ∃ m', m' < m ∧ W (i + 1) m' (ys ++ [y]) (upd H4 D (.lst (ys ++ [y])))
      else ∃ m', m' < m ∧ W (i + 1) m' ys H3))
noncomputable def tLC (cap : List (Option Nat)) (wi : TI) (g : TG) (tt : TT) (te : TE) : TE := fun σ H Q => wi σ H fun J H1 => ∀ D, H1 D = none → ∃ W : Nat → Nat → List V → Hp → Prop, (∃ m, W 0 m [] (upd H1 D (.lst []))) ∧ lcW D J (capS cap σ) g tt te Q W
section
variable {X : Cx} {pins : List (Addr × Obj)} {σ : St} {H : Hp} {s : Shared} {N' : List Str} {sc : Scope} {cl : List (Str × Addr)} {cap : List (Option Nat)} {fp : List Addr}
  {el tg src : Expr} {cs : List Expr} {at' : Pos} {g : TG} {tt : TT} {te : TE} {J : It} {it : Addr} {tn : Nat → Heap → Prop} {Q : VK}
/-- what a comprehension's clause and scope must be -/
structure LcOk (X : Cx) (N' : List Str) (sc : Scope) (cl : List (Str × Addr)) (cap : List (Option Nat)) : Prop where
  kind : sc.kind = .function
  clos : closureFor sc X.env = pure cl
  nocell : ∀ y ∈ sc.names, y.2 ≠ .cell
  names : ∀ y ∈ sc.names, y.2 = .local → sc.names.lookup y.1 = some .local
  cap : CapOk X sc cl N' cap
  sub : SubC X.env cl
  has : ∀ x, ((relabel sc X.env).names.lookup x = some .cell ∨ (relabel sc X.env).names.lookup x = some .free) → ∃ c, cl.lookup x = some c
theorem lc_ok (kind : sc.kind = .function) (clos : closureFor sc X.env = pure cl) (h1 : (sc.names.all fun y => y.2 != .cell) = true) (h2 : (sc.names.all fun y => y.2 != .local || sc.names.lookup y.1 == some .local) = true)
    (hcap : CapOk X sc cl N' cap) (sub : SubC X.env cl) (h3 : ((relabel sc X.env).names.all fun y => (y.2 != .cell && y.2 != .free) || (cl.lookup y.1).isSome) = true) : LcOk X N' sc cl cap := by
  refine ⟨kind, clos, fun y hy e => ?_, fun y hy e => ?_, hcap, sub, fun x hx => ?_⟩
  · have q := List.all_eq_true.mp h1 y hy
    rw [e] at q
    exact absurd q (by decide)
  · have q := List.all_eq_true.mp h2 y hy
    rw [e] at q
    simpa using q
  · have key : ∀ k, (k = NameKind.cell ∨ k = NameKind.free) → (relabel sc X.env).names.lookup x = some k → ∃ c, cl.lookup x = some c := fun k hk e => by
      have q := List.all_eq_true.mp h3 _ (PySem.mem_of_lookup e)
      rcases hk with rfl | rfl
      · exact Option.isSome_iff_exists.mp (by simpa using q)
      · exact Option.isSome_iff_exists.mp (by simpa using q)
    rcases hx with e | e
    · exact key _ (.inl rfl) e
    · exact key _ (.inr rfl) e
theorem comp_main (L : LcOk X N' sc cl cap) (hc : X.calm = true) (I : Inv X pins σ H s) (T : Turn X.prog X.w X.K tg J fp it tn) (st : tn 0 s.heap) (hf : ∀ b ∈ fp, FpOk X pins H b)
    (hg : ∀ s H fp, PG (cxComp X N' sc cl s H fp) tg g) (ht : ∀ s H fp, PTs (cxComp X N' sc cl s H fp) cs tt) (he : ∀ s H fp, PE (cxComp X N' sc cl s H fp) el te)
    (rd : ∀ D, H D = none → ∃ W : Nat → Nat → List V → Hp → Prop, (∃ m, W 0 m [] (upd H D (.lst []))) ∧ lcW D J (capS cap σ) g tt te Q W)
    {Ex : Value → Shared → Prop} {RR : Value → Addr → Result → Shared → Prop} (hR : ∀ D C m H' s', Inv X pins σ H' s' → s'.heap.Ns C m → FpOk X pins H' C → Q (.ref D) H' → RR (.ref D) C (.ok .next) s') :
    wpAny (model X.prog X.w) X.A (newList []) (fun acc s3 => wpAny (model X.prog X.w) X.A (newFunctionEnv sc X.env.globals cl [] X.env.qual none .none (some X.env)) (fun cv s4 =>
      codeAny (model X.prog X.w) X.A (.compStart (.ListComp el [⟨tg, src, cs, 0⟩] sc at') 0 (.ref it) acc { cv with scope := relabel sc X.env }) (RR acc cv.locals) s4) Ex s3) Ex s := by
  obtain ⟨W, ⟨m0, w0⟩, step⟩ := rd _ I.fresh
  refine wpAny_newObj_type (wpAny_newFunctionEnv L.nocell (by intro y hy; simp at hy) (fun h1 hns hsb => ?_) L.kind)
  have I3 : Inv X pins σ (upd H s.heap.objs.size (.lst [])) { s with heap := s.heap.push { cls := .type "list", dict := none, data := .seq ([] : List Value).toArray } } := I.lnew (its := []) (t' := s.toks) .nil (by show 0 ≤ sizeLine; decide)
  have hfo : ∀ b ∈ fp, ∃ o, s.heap.get? b = some o := fun b hb => let ⟨o, e, _⟩ := T.obj 0 s.heap st b hb; ⟨o, e⟩
  have hf3 : ∀ b ∈ fp, FpOk X pins (upd H s.heap.objs.size (.lst [])) b := fun b hb => by
    obtain ⟨o, e⟩ := hfo b hb
    exact ⟨by rw [upd_ne (Nat.ne_of_lt (Heap.lt_size e))]; exact (hf b hb).1, (hf b hb).2⟩
  dsimp only at hns hsb ⊢
  generalize hs3 : ({ s with heap := s.heap.push { cls := .type "list", dict := none, data := .seq ([] : List Value).toArray } } : Shared) = s3 at I3 hns hsb ⊢
  have hh3 : s3.heap = s.heap.push { cls := .type "list", dict := none, data := .seq ([] : List Value).toArray } := by rw [← hs3]
  have hns : h1.Ns s3.heap.objs.size (fun x => List.lookup x ([] : List (Str × Value)).reverse) := by rw [hh3]; exact hns
  have hsb : Heap.SameBut s3.heap.objs.size (s3.heap.push { cls := .type (if (some X.env).isSome = true then "dict" else "frame"), data := .dict #[] }) h1 := by rw [hh3]; exact hsb
  have hk3 : ∀ b o, s.heap.get? b = some o → s3.heap.get? b = some o := fun b o e => by rw [hh3]; exact Heap.get?_push_of_some _ e
  have J0 := I3.block (N' := N') (cap := cap) (fp := fp) (tk := s3.toks + ([] : List (Str × Value)).length) L.kind L.cap L.sub L.has hf3 (fun b hb => let ⟨o, e⟩ := hfo b hb; ⟨o, hk3 b o e⟩) hns hsb
  have st1 : tn 0 h1 := T.keep 0 s.heap h1 st fun b hb o e => (hsb.2 b (Nat.ne_of_lt (Heap.lt_size (hk3 b o e)))).trans (Heap.get?_push_of_some _ (hk3 b o e))
  have fpx : ∀ {H' : Hp}, (∀ b ∈ fp, H' b = none) → ∀ b ∈ fp, FpOk (cxComp X N' sc cl s3 (upd H s.heap.objs.size (.lst [])) fp) [] H' b := fun hn b hb => by
    obtain ⟨o, e⟩ := hfo b hb
    refine ⟨hn b hb, Nat.ne_of_lt (Heap.lt_size (hk3 b o e)), fun hb' => ?_, .inl hb, fun x c q => (hf b hb).2.2.2.2.1 x c (L.sub.look q), fun p hp => absurd (show p ∈ ([] : List (Addr × Obj)) from hp) (by simp)⟩
    rcases List.mem_cons.mp (I.stkSub b hb') with z | z
    · exact (hf b hb).2.1 z
    · exact (hf b hb).2.2.1 z
  have loop : ∀ s4 : Shared, s4 = { s3 with heap := h1, toks := s3.toks + ([] : List (Str × Value)).length } →
      codeAny (model X.prog X.w) X.A (.compLoop (.ListComp el [⟨tg, src, cs, 0⟩] sc at') 0 (.ref it) (.ref s.heap.objs.size) (compEnvC sc cl s3.heap.objs.size X.env)) (RR (.ref s.heap.objs.size) s3.heap.objs.size) s4 := by
    rintro s4 rfl
    refine comp_loop (fun n s' => ∃ i ys H', Inv (cxComp X N' sc cl s3 (upd H s.heap.objs.size (.lst [])) fp) [] (capS cap σ) H' s' ∧ tn i s'.heap ∧ (∀ b ∈ fp, H' b = none) ∧ W i n ys H') ?_ m0 ⟨0, [], _, J0, st1, fun b hb => (hf3 b hb).1, w0⟩
    rintro n s' ⟨i, ys, H', Ji, sti, fri, wi⟩
    obtain ⟨hD, hlen, hgo⟩ := step i n ys H' wi
    rcases hgo with ⟨hstop, hq⟩ | ⟨hgo, hbody⟩
    · refine thn (T.done (cxComp X N' sc cl s3 (upd H s.heap.objs.size (.lst [])) fp) rfl rfl rfl hc i [] s' _ H' NoX Ji (fpx fri) sti hstop) fun r s1 ⟨hr, J1⟩ => .inl ⟨hr, ?_⟩
      obtain ⟨m1, hm1, _⟩ := J1.loc
      exact hR _ _ m1 H' s1 (I3.unblock hf3 J1) hm1 (I3.fpOk (Nat.le_refl _) J1.free) hq
    · refine thn (T.item (cxComp X N' sc cl s3 (upd H s.heap.objs.size (.lst [])) fp) rfl rfl rfl hc i [] s' _ H' NoX Ji (fpx fri) sti hgo) fun r s1 ⟨u, hr, h4⟩ => .inr ⟨u, hr, thn h4 fun _ s5 ⟨x, H5, J5, r5, y5, st5, fr5⟩ => ?_⟩
      have J5' := J5.pinned (fpx fr5) (T.obj _ _ st5)
      refine thn (hg _ _ _ _ s5 _ H5 x u _ J5' r5 (hbody x H5 y5)) fun _ s6 ⟨σ6, H6, J6, ext, q6⟩ => ?_
      have endT : ∀ {ys' : List V} {H7 : Hp} {s7 : Shared} {m' : Nat}, Inv (cxComp X N' sc cl s3 (upd H s.heap.objs.size (.lst [])) fp) ([] ++ pinsAt fp s5.heap) σ6 H7 s7 → m' < n → W (i + 1) m' ys' H7 →
          ∃ m, m < n ∧ ∃ i ys H', Inv (cxComp X N' sc cl s3 (upd H s.heap.objs.size (.lst [])) fp) [] (capS cap σ) H' s7 ∧ tn i s7.heap ∧ (∀ b ∈ fp, H' b = none) ∧ W i m ys H' := fun {ys' H7 s7 m'} J7 hm w7 => by
        refine ⟨m', hm, i + 1, ys', H7, (J7.unpinned).weak ?_ fun j v z => ext.at j v z, T.keep _ _ _ st5 fun b hb o e => (J7.pin (b, o) (List.mem_append_right _ (List.mem_append_right _ (mem_pinsAt hb e)))).1, fun b hb => ?_, w7⟩
        · rw [J7.len, Ji.len]
        · obtain ⟨o, e, _⟩ := T.obj _ _ st5 b hb
          exact (J7.pin (b, o) (List.mem_append_right _ (List.mem_append_right _ (mem_pinsAt hb e)))).2.1
      refine thn (ht _ _ _ _ s6 _ H6 _ J6 q6) fun ok s7 ⟨H7, J7, q7⟩ => ?_
      cases ok with
      | false =>
        obtain ⟨m', hm, w7⟩ := q7
        exact endT J7 hm w7
      | true =>
        refine thn (he _ _ _ _ s7 _ H7 _ J7 q7) fun y s8 ⟨yv, H8, J8, r8, hD8, m', hm, w8⟩ => ?_
        exact thn (mt_append _ s8 _ H8 (.ref s.heap.objs.size) [yv] (.ref s.heap.objs.size) [y] (fun v H9 => H9 = upd H8 s.heap.objs.size (.lst (ys ++ [yv]))) J8 rfl (.cons r8 .nil) ⟨_, ys, yv, rfl, rfl, hD8, hlen, rfl⟩) fun _ s9 ⟨_, H9, J9, _, e9⟩ => by
          subst e9
          exact endT J9 hm w8
  subst hs3
  exact codeAny_compStart_list (loop _ rfl) (T.self _ 0 _ _ _ st1 (loop _ rfl))
/-- [el for tg in src if ..], as a value -/
theorem pe_lc (L : LcOk X N' sc cl cap) (hc : X.calm = true) (hi : PI X tg src wi) (hg : ∀ s H fp, PG (cxComp X N' sc cl s H fp) tg g) (ht : ∀ s H fp, PTs (cxComp X N' sc cl s H fp) cs tt) (he : ∀ s H fp, PE (cxComp X N' sc cl s H fp) el te)
    (hs : ∀ x, foldedSetIterable src X.env x = pure x := by intro _; rfl) : PE X (.ListComp el [⟨tg, src, cs, 0⟩] sc at') (tLC cap wi g tt te) := by
  intro pins s σ H Q I h
  rw [eval_ListComp]
  refine wpAny_comprehension_free (use := none) rfl hs L.clos L.kind L.names (thn (hi pins s σ H _ I h) fun v s1 h1 => thn h1 fun itv s2 h2 => ?_)
  obtain ⟨it, fp, tn, J, H2, rfl, I2, T, st2, f2, rd⟩ := h2
  refine comp_main L hc I2 T st2 f2 hg ht he rd (RR := fun acc C => compPost (model X.prog X.w) X.A X.xe none (EP X pins σ Q) acc C) fun D C m H' s' J' hn fC q => ?_
  refine ⟨m, hn, fun h' sb => ⟨.ref D, H', J'.turned (t' := s'.toks) (fun b o hb e => (sb.2 b hb).trans e) fC.1 fC.2.1 fC.2.2.2.1 fC.2.2.2.2.1 fC.2.2.2.2.2, rfl, q⟩⟩
/-- x = [el for tg in src if ..] where the machine stores ahead of letting the clause's names go -/
theorem ps_lc (hN : X.N.Nodup) (hi' : X.N[i]? = some x) (hx : X.env.scope.names.lookup x = some .local) (L : LcOk X N' sc cl cap) (hc : X.calm = true) (hi : PI X tg src wi) (hg : ∀ s H fp, PG (cxComp X N' sc cl s H fp) tg g)
    (ht : ∀ s H fp, PTs (cxComp X N' sc cl s H fp) cs tt) (he : ∀ s H fp, PE (cxComp X N' sc cl s H fp) el te) (hsw : swapsWith (.ListComp el [⟨tg, src, cs, 0⟩] sc at') (some (.Name x px)) spos.line X.env = pure true)
    (hs : ∀ x, foldedSetIterable src X.env x = pure x := by intro _; rfl) : PS X (.Assign [.Name x px] (.ListComp el [⟨tg, src, cs, 0⟩] sc at') spos) (tAsg (tLC cap wi g tt te) (gName i)) := by
  intro pins s σ H D I h
  rw [exec_Assign_Name_used _ _ _ _ hsw]
  refine wpAny_bind (wpAny_standAt (wpAny_bind ?_))
  refine wpAny_bind (thn (wpAny_comprehension_free (use := some (assign (.Name x px) X.env)) (Q := fun _ s' => SP X pins D .next s') rfl hs L.clos L.kind L.names (thn (hi pins s σ H _ I h) fun v s1 h1 => thn h1 fun itv s2 h2 => ?_)) fun _ s' q => wpAny_pure (wpAny_pure q))
  obtain ⟨it, fp, tn, J, H2, rfl, I2, T, st2, f2, rd⟩ := h2
  refine comp_main L hc I2 T st2 f2 hg ht he rd (RR := fun acc C => compPost (model X.prog X.w) X.A X.xe (some (assign (.Name x px) X.env)) (fun _ s' => SP X pins D .next s') acc C) fun D' C m H' s' J' hn fC q => ?_
  obtain ⟨oC, es, ep, hoC, hdC, hr⟩ := hn
  have Jp : Inv X (pins ++ [(C, oC)]) σ H' s' := J'.pins_of fun p hp => by
    rcases List.mem_append.mp hp with z | z
    · exact J'.pin p (List.mem_append_right _ z)
    · have e : p = (C, oC) := by simpa using z
      subst e
      exact ⟨hoC, fC.1, fC.2.1, fC.2.2.1, fun v z => by rw [hdC] at z; cases z⟩
  refine thn (pg_name (i := i) hN hi' (.inl hx) (.inr hx) _ s' σ H' (.ref D') (.ref D') (fun σ' H'' => D.nx σ' H'') Jp rfl q) fun _ s'' ⟨σ', H'', J2, q2⟩ => ?_
  obtain ⟨p1, p2, p3, p4, p5⟩ := J2.pin (C, oC) (List.mem_append_right _ (List.mem_append_right _ (by simp)))
  refine ⟨m, ⟨oC, es, ep, p1, hdC, hr⟩, fun h' sb => ⟨σ', H'', (J2.pins_of (pins' := pins) fun p hp => J2.pin p (List.mem_append_right _ (List.mem_append_left _ hp))).turned (t' := s''.toks) (fun b o hb e => (sb.2 b hb).trans e) p2 fC.2.1 fC.2.2.2.1 fC.2.2.2.2.1 fC.2.2.2.2.2, q2⟩⟩
end
end L2

/-! ### errors: how one lies behind a call, raised, passed on -/
namespace L2
open PySem PySem.Spec PyProof.Rows
theorem ObjOk.get (x : ObjOk P w H h a o) : ∃ ob, h.get? a = some ob := by
  cases o with
  | lst xs => obtain ⟨_, _, _, _, e⟩ := x; exact ⟨_, e⟩
  | tup xs => obtain ⟨_, _, _, ob, e, _⟩ := x; exact ⟨ob, e⟩
  | dK kvs => obtain ⟨_, _, _, _, o, _, _, e, _⟩ := x; exact ⟨o, e⟩
  | dT kvs => obtain ⟨_, _, _, _, o, _, _, e, _⟩ := x; exact ⟨o, e⟩
  | set S n => obtain ⟨o, _, _, _, e, _⟩ := x; exact ⟨o, e⟩
  | ins C dx fs => obtain ⟨_, _, _, e, _⟩ := x; exact ⟨_, e⟩
  | own y => exact x
  | xd fs => obtain ⟨_, ⟨o, _, _, e, _⟩, _⟩ := x; exact ⟨o, e⟩
  | rng lo hi => obtain ⟨_, _, _, e⟩ := x; exact ⟨_, e⟩
  | frz ob u => obtain ⟨e, _⟩ := x; exact ⟨ob, e⟩
  | tbl ps => exact ⟨_, x.1⟩
  | met f y => exact ⟨_, (show h.get? a = some _ from x)⟩
  | ext φ => obtain ⟨_, e, _⟩ := x; exact e
/-- an error has been noted in the frames fr: what stays, what it is now -/
structure Lft (fr as : List Addr) (h h2 : Heap) (a : Addr) (cls : Value) (dd : Option Addr) : Prop where
  keep : ∀ b o, h.get? b = some o → b ∉ as → h2.get? b = some o
  slot : ∀ b o, b ∈ fr → h.get? b = some o → ∃ sl, h2.get? b = some { o with slots := sl }
  ex : ∃ oe vs T oT ts, h2.get? a = some oe ∧ oe.cls = cls ∧ oe.dict = dd ∧ oe.data = .fields vs ∧ vs[1]? = some (.ref T) ∧ h.get? T = none ∧ T ≠ a ∧ h2.get? T = some oT ∧ oT.data = .fields ts ∧ ts[3]? = some .none
theorem dict_mapFields (f : Array Value → Array Value) (o : Obj) : (Obj.mapFields f o).dict = o.dict := by
  unfold Obj.mapFields
  split <;> rfl
section
variable {M : Model} {A : Around} {E : Value → Shared → Prop} {s : Shared} {base : Heap} {env : Env} {outer : List Env} {L a : Addr} {oe : Obj} {vs : Array Value} {as : List Addr} {Q : Unit → Shared → Prop} {dd : Option Addr}
theorem note_core {head : Value} {hadNext : Bool} (hfr : A.frames = some (env :: outer)) (hl : s.heap.FunFrames base (env :: outer)) (hf : env.frame = some L) (he : s.heap.get? a = some oe) (hdn : oe.dict = dd) (hd : oe.data = .fields vs) (hsz : 1 < vs.size)
    (haa : a ∈ as) (hfs : ∀ b ∈ frs (env :: outer), b ∈ as) (h : ∀ h', Lft (frs (env :: outer)) as s.heap h' a oe.cls dd → Q () { s with heap := h' }) :
    wpAny M A (do let x ← frameOf env; let pl ← entryPlaceOf L hadNext; let b ← EntryCells.newEntry head x .none (rawInt L) .none pl; setField (.ref a) 1 b) (fun _ s' => wpAny M A (setFlight (.ref a) none) Q E s') E s := by
  have hna : a ∉ frs (env :: outer) := fun z => by
    obtain ⟨_, o, e, d⟩ := hl.mem z
    rw [he] at e; cases e; exact d vs hd
  refine wpAny_bind (wpAny_frameOf_fun hfr hl hf fun h1 so => wpAny_bind (wpAny_entryPlaceOf fun pl hpl => ?_))
  unfold EntryCells.newEntry newFields
  refine wpAny_bind (wpAny_newObj_type ?_ (hpl.sizeOk5 _ _ _ _ _))
  have e1 : h1.get? a = some oe := (so.2.1 a hna).trans he
  have nT : h1.objs.size ≠ a := Nat.ne_of_gt (Heap.lt_size e1)
  generalize hts : ([head, Value.ref L, Value.none, rawInt L, Value.none] ++ (if pl.isEmpty then List.replicate 6 Value.none else pl)).toArray = ts
  have lt3 : 3 < ts.size := by rw [← hts]; simp
  have e2 := Heap.get?_push_of_some (h := h1) { cls := .type "traceback", dict := none, data := .fields ts } e1
  have t2 := Heap.get?_push_size h1 (o := { cls := .type "traceback", dict := none, data := .fields ts }) rfl
  refine wpAny_setField e2 hd hsz ?_
  have d3 := Obj.data_mapFields hd (·.setIfInBounds 1 (Value.ref h1.objs.size))
  have e3 := Heap.get?_update_self (Obj.mapFields (·.setIfInBounds 1 (Value.ref h1.objs.size))) e2 (Obj.isFreed_of_fields d3)
  have t3 := (Heap.get?_update_other (h1.push { cls := .type "traceback", dict := none, data := .fields ts }) (Obj.mapFields (·.setIfInBounds 1 (Value.ref h1.objs.size))) (Ne.symm nT)).trans t2
  refine wpAny_setFlight_none (vs := vs.setIfInBounds 1 (.ref h1.objs.size)) e3 d3 (by simp [hsz]) t3 rfl lt3 (h _ ⟨fun b o q nb => ?_, fun b o q eb => ?_, ?_⟩)
  · have q1 : h1.get? b = some o := (so.2.1 b fun z => nb (hfs b z)).trans q
    have ba : b ≠ a := fun z => nb (z ▸ haa)
    rw [Heap.get?_update_other _ _ (Nat.ne_of_gt (Heap.lt_size q1)), Heap.get?_update_other _ _ (Ne.symm ba)]
    exact Heap.get?_push_of_some _ q1
  · obtain ⟨sl, q1⟩ := so.2.2 b o eb
    have ba : b ≠ a := fun z => hna (z ▸ q)
    refine ⟨sl, ?_⟩
    rw [Heap.get?_update_other _ _ (Nat.ne_of_gt (Heap.lt_size q1)), Heap.get?_update_other _ _ (Ne.symm ba)]
    exact Heap.get?_push_of_some _ q1
  · refine ⟨_, _, h1.objs.size, _, _, (Heap.get?_update_other _ _ nT).trans e3, Obj.cls_mapFields _ _, ?_, d3, by simp [hsz], ?_, nT, Heap.get?_update_self _ t3 (Obj.isFreed_of_fields (Obj.data_mapFields rfl _)), Obj.data_mapFields rfl _, by simp [lt3]⟩
    · rw [dict_mapFields]; exact hdn
    · cases q : s.heap.get? h1.objs.size with
      | none => rfl
      | some o =>
        obtain ⟨sl, q1⟩ := so.2.2 _ o q
        exact absurd (Heap.lt_size q1) (Nat.lt_irrefl _)
/-- the first note of a new error; a further one -/
theorem note_first (hfr : A.frames = some (env :: outer)) (hl : s.heap.FunFrames base (env :: outer)) (hf : env.frame = some L) (he : s.heap.get? a = some oe) (hdn : oe.dict = dd) (hd : oe.data = .fields vs) (h1 : vs[1]? = some .none)
    (haa : a ∈ as) (hfs : ∀ b ∈ frs (env :: outer), b ∈ as) (h : ∀ h', Lft (frs (env :: outer)) as s.heap h' a oe.cls dd → Q () { s with heap := h' }) :
    wpAny M A (noteFrame (.ref a) env) (fun _ s' => wpAny M A (setFlight (.ref a) none) Q E s') E s := by
  unfold noteFrame
  simp only [hf]
  refine wpAny_bind (wpAny_field he hd h1 ?_)
  rw [if_neg (by decide)]
  exact note_core hfr hl hf he hdn hd (Array.getElem?_eq_some_iff.mp h1).1 haa hfs h
theorem note_next {T : Addr} {oT : Obj} {ts : Array Value} (hfr : A.frames = some (env :: outer)) (hl : s.heap.FunFrames base (env :: outer)) (hf : env.frame = some L) (he : s.heap.get? a = some oe) (hdn : oe.dict = dd) (hd : oe.data = .fields vs) (h1 : vs[1]? = some (.ref T))
    (hTa : T ≠ a) (hT : s.heap.get? T = some oT) (hdT : oT.data = .fields ts) (h3 : ts[3]? = some .none)
    (haa : a ∈ as) (hTT : T ∈ as) (hfs : ∀ b ∈ frs (env :: outer), b ∈ as) (h : ∀ h', Lft (frs (env :: outer)) as s.heap h' a oe.cls dd → Q () { s with heap := h' }) :
    wpAny M A (noteFrame (.ref a) env) (fun _ s' => wpAny M A (setFlight (.ref a) none) Q E s') E s := by
  unfold noteFrame
  simp only [hf]
  refine wpAny_bind (wpAny_field he hd h1 ?_)
  rw [if_pos (show (Value.ref T != Value.none) = true from by simp)]
  refine wpAny_bind (wpAny_field hT hdT h3 ?_)
  rw [if_neg (show ¬ ((Value.none == rawInt L) = true) from by simp [rawInt])]
  refine wpAny_bind (wpAny_setField hT hdT (Array.getElem?_eq_some_iff.mp h3).1 ?_)
  have nT : T ∉ frs (env :: outer) := fun z => by
    obtain ⟨_, o, e, d⟩ := hl.mem z
    rw [hT] at e; cases e; exact d ts hdT
  have oth : ∀ b, b ≠ T → (s.heap.update T (Obj.mapFields (·.setIfInBounds 3 Value.none))).get? b = s.heap.get? b := fun b hb => Heap.get?_update_other _ _ (Ne.symm hb)
  have selfT := Heap.get?_update_self (Obj.mapFields (·.setIfInBounds 3 Value.none)) hT (Obj.isFreed_of_fields (Obj.data_mapFields hdT _))
  refine note_core hfr (hl.of_keeps fun b o hb hnf => ⟨o, (oth b (fun z => by rw [z, hT] at hb; cases hb; exact hnf ts hdT)).trans hb, rfl⟩) hf ((oth a (Ne.symm hTa)).trans he) hdn hd (Array.getElem?_eq_some_iff.mp h1).1 haa hfs fun h' q => h h' ⟨fun b o e nb => ?_, fun b o z e => ?_, ?_⟩
  · exact q.keep b o ((oth b fun z => nb (z ▸ hTT)).trans e) nb
  · exact q.slot b o z ((oth b fun y => nT (y ▸ z)).trans e)
  · obtain ⟨oe', vs', T', oT', ts', x1, x2, x3, x4, x5, x6, x7⟩ := q.ex
    refine ⟨oe', vs', T', oT', ts', x1, x2, x3, x4, x5, ?_, x7⟩
    rw [← oth T' (fun z => by rw [z, selfT] at x6; cases x6)]
    exact x6
end
/-- an error in flight: new since h0, not tracked, of the class cls -/
structure Fly (h0 : Heap) (H : Hp) (h : Heap) (a : Addr) (cls : Value) (dd : Option Addr) : Prop where
  ex : ∃ oe vs T oT ts, h.get? a = some oe ∧ oe.cls = cls ∧ oe.dict = dd ∧ oe.data = .fields vs ∧ vs[1]? = some (.ref T) ∧ T ≠ a ∧ h.get? T = some oT ∧ oT.data = .fields ts ∧ ts[3]? = some .none ∧ H T = none ∧ h0.get? T = none
  un : H a = none
  new : h0.get? a = none
noncomputable def CXe (P : Program) (w : World) : CXT := fun outer H s E e s' => ∃ a cls dd H', e = .ref a ∧ s'.os = s.os ∧ AllBare s'.gens ∧ Un (frs outer) [] H H' s.heap s'.heap ∧ HOk P w H' s'.heap ∧ Fly s.heap H' s'.heap a cls dd ∧ E cls dd H'
section
variable {X : Cx} {pins : List (Addr × Obj)} {σ : St} {H1 H' : Hp} {s1 s' : Shared} {a : Addr} {cls : Value} {dd : Option Addr} {E : XK}
theorem funFrames_slots {base h h' : Heap} : ∀ {l : List Env}, h.FunFrames base l → (∀ b ∈ frs l, ∀ o, h.get? b = some o → ∃ sl, h'.get? b = some { o with slots := sl }) → h'.FunFrames base l
  | [], _, _ => True.intro
  | ev :: r, hl, k => by
    obtain ⟨hk, ⟨L, o, hf, hn, ho, hd⟩, hr⟩ := hl
    have e : frs (ev :: r) = L :: frs r := by unfold frs; rw [List.filterMap_cons, hf]
    obtain ⟨sl, q⟩ := k L (by rw [e]; exact List.mem_cons_self) o ho
    exact ⟨hk, ⟨L, _, hf, hn, q, hd⟩, funFrames_slots hr fun b hb => k b (by rw [e]; exact List.mem_cons_of_mem _ hb)⟩
/-- the frames behind a call that did not end well -/
theorem Inv.stackE (I : Inv X pins σ H1 s1) (u : Un (frs X.stack) [] H1 H' s1.heap s'.heap) : s'.heap.FunFrames X.base X.stack :=
  funFrames_slots I.stack fun b hb o e => u.slot b o e (I.stkFree b hb) hb (by simp)
/-- the error leaves the def's frame -/
theorem fin_leave {as : List Addr} {h2 : Heap} (I : Inv X pins σ H1 s1) (hst : X.stack = X.env :: X.outer) (hfr : X.env.frame = some X.env.locals) (hex : X.ex = []) (ho : s'.os = s1.os) (hb : AllBare s'.gens)
    (u : Un (frs X.stack) [] H1 H' s1.heap s'.heap) (hok : HOk X.prog X.w H' s'.heap) (has : ∀ b ∈ as, b ∈ frs X.stack ∨ (H' b = none ∧ s1.heap.get? b = none)) (hfs : ∀ b ∈ frs X.stack, b ∈ as) (haa : a ∈ as) (hna : H' a = none ∧ s1.heap.get? a = none)
    (L : Lft (frs X.stack) as s'.heap h2 a cls dd) (hE : E cls dd H') : CXe X.prog X.w X.outer X.H₀ X.s₀ E (.ref a) { s' with heap := h2 } := by
  have hfs' : frs X.stack = X.env.locals :: frs X.outer := by rw [hst]; unfold frs; rw [List.filterMap_cons, hfr]
  have noex : ∀ b : Addr, b ∉ X.ex := fun b => by rw [hex]; simp
  have FF := I.stackE u
  have keep2 := L.keep
  have slot2 := L.slot
  have below : ∀ b o, X.s₀.heap.get? b = some o → b ≠ X.env.locals := fun b o e => Nat.ne_of_lt (Nat.lt_of_lt_of_le (Heap.lt_size e) I.ok.above)
  have out : ∀ b o, s1.heap.get? b = some o → b ∈ as → b ∈ frs X.stack := fun b o e z => by
    rcases has b z with q | ⟨_, q⟩
    · exact q
    · rw [e] at q; cases q
  have here : ∀ b o, X.s₀.heap.get? b = some o → ∃ o', s1.heap.get? b = some o' := fun b o e => I.base.there b o e (noex b)
  obtain ⟨oe, vs, T, oT, ts, he, hcls, hdi, hd, h1, hnT, hTe, hT, hdT, h3⟩ := L.ex
  have hT0 : T ∈ as ∨ s'.heap.get? T = none := .inr hnT
  have freeAs : ∀ b ∈ as, H' b = none := fun b z => by
    rcases has b z with q | ⟨q, _⟩
    · obtain ⟨_, o, e, _⟩ := I.stack.mem q
      exact u.free b o e (I.stkFree b q) (by simp)
    · exact q
  refine ⟨a, cls, dd, H', rfl, ho.trans I.os, hb, ⟨fun b o e n hbf _ => ?_, fun b o e n hbf _ => ?_, fun b o e n _ => ?_, fun b o e _ => ?_, fun b xs e => u.tups b xs (I.base.tups b xs e), fun b o v e => u.frzs b o v (I.base.frzs b o v e), fun b ps e => ?_⟩, fun b o e => ?_, ⟨⟨oe, vs, T, oT, ts, he, hcls, hdi, hd, h1, hTe, hT, hdT, h3, ?_, ?_⟩, hna.1, ?_⟩, hE⟩
  · have e1 := I.base.keep b o e n hbf (noex b)
    have n1 := I.base.free b o e n (noex b)
    have b1 : b ∉ frs X.stack := fun z => by rw [hfs'] at z; exact (List.mem_cons.mp z).elim (below b o e) hbf
    exact keep2 b o (u.keep b o e1 n1 b1 (by simp)) fun z => b1 (out b o e1 z)
  · obtain ⟨sl1, e1⟩ := I.base.slot b o e n hbf (noex b)
    have n1 := I.base.free b o e n (noex b)
    have b1 : b ∈ frs X.stack := by rw [hfs']; exact List.mem_cons_of_mem _ hbf
    obtain ⟨sl2, e2⟩ := u.slot b _ e1 n1 b1 (by simp)
    obtain ⟨sl3, e3⟩ := slot2 b _ b1 e2
    exact ⟨sl3, e3⟩
  · obtain ⟨o1, e1⟩ := here b o e
    exact u.free b o1 e1 (I.base.free b o e n (noex b)) (by simp)
  · obtain ⟨o1, e1⟩ := here b o e
    obtain ⟨o2, e2⟩ := u.there b o1 e1 (by simp)
    by_cases z : b ∈ as
    · obtain ⟨sl, e3⟩ := slot2 b o2 (out b o1 e1 z) e2
      exact ⟨_, e3⟩
    · exact ⟨o2, keep2 b o2 e2 z⟩
  · obtain ⟨m1, e1⟩ := I.base.tbls b ps e
    obtain ⟨m2, e2⟩ := u.tbls b _ e1
    exact ⟨m1 ++ m2, by rw [e2, TabD.append_assoc]⟩
  · refine (hok b o e).stay (fun c v hc q => keep2 c v q fun z => ?_) (fun _ q => q) fun _ _ q => q
    have := freeAs c z
    rcases hc with rfl | hc
    · rw [this] at e; cases e
    · rw [this] at hc; cases hc
  · rcases hT0 with z | z
    · exact freeAs T z
    · cases q : H' T with
      | none => rfl
      | some v => obtain ⟨ob, e⟩ := (hok T v q).get; rw [z] at e; cases e
  · cases q : X.s₀.heap.get? T with
    | none => rfl
    | some o =>
      obtain ⟨o1, e1⟩ := here T o q
      obtain ⟨o2, e2⟩ := u.there T o1 e1 (by simp)
      rcases hT0 with z | z
      · obtain ⟨sl, e3⟩ := slot2 T o2 (out T o1 e1 z) e2
        obtain ⟨_, o4, e4, d4⟩ := FF.mem (out T o1 e1 z)
        rw [e2] at e4; cases e4
        rw [hT] at e3; cases e3
        exact absurd hdT (d4 ts)
      · rw [z] at e2; cases e2
  · cases q : X.s₀.heap.get? a with
    | none => rfl
    | some o => obtain ⟨o1, e1⟩ := here a o q; rw [hna.2] at e1; cases e1
/-- an error that has just been made leaves -/
theorem leave_new {oe : Obj} {vs : Array Value} {Q : Unit → Shared → Prop} (I : Inv X pins σ H1 s1) (hst : X.stack = X.env :: X.outer) (hfr : X.env.frame = some X.env.locals) (hex : X.ex = []) (ho : s'.os = s1.os) (hb : AllBare s'.gens)
    (u : Un (frs X.stack) [] H1 H' s1.heap s'.heap) (hok : HOk X.prog X.w H' s'.heap) (hna : H' a = none ∧ s1.heap.get? a = none) (he : s'.heap.get? a = some oe) (hc : oe.cls = cls) (hdi : oe.dict = dd) (hd : oe.data = .fields vs) (h1 : vs[1]? = some .none) (hE : E cls dd H')
    (hQ : ∀ s2, CXe X.prog X.w X.outer X.H₀ X.s₀ E (.ref a) s2 → Q () s2) {M : Model} {E' : Value → Shared → Prop} : wpAny M X.A (leaving X.env (.ref a)) Q E' s' := by
  subst hc
  have hA : X.A.frames = some (X.env :: X.outer) := by rw [← hst]; exact I.ok.frames
  have FF := I.stackE u
  refine wpAny_bind (note_first (as := a :: frs X.stack) hA (by rw [← hst]; exact FF) hfr he hdi hd h1 List.mem_cons_self (fun b z => List.mem_cons_of_mem _ (by rw [hst]; exact z)) fun h2 L => hQ _ ?_)
  rw [← hst] at L
  exact fin_leave I hst hfr hex ho hb u hok (fun b z => (List.mem_cons.mp z).elim (fun q => .inr (by rw [q]; exact hna)) .inl) (fun b z => List.mem_cons_of_mem _ z) List.mem_cons_self hna L hE
/-- an error that came from a callee leaves -/
theorem leave_on {Q : Unit → Shared → Prop} (I : Inv X pins σ H1 s1) (hst : X.stack = X.env :: X.outer) (hfr : X.env.frame = some X.env.locals) (hex : X.ex = []) (ho : s'.os = s1.os) (hb : AllBare s'.gens)
    (u : Un (frs X.stack) [] H1 H' s1.heap s'.heap) (hok : HOk X.prog X.w H' s'.heap) (F : Fly s1.heap H' s'.heap a cls dd) (hE : E cls dd H')
    (hQ : ∀ s2, CXe X.prog X.w X.outer X.H₀ X.s₀ E (.ref a) s2 → Q () s2) {M : Model} {E' : Value → Shared → Prop} : wpAny M X.A (leaving X.env (.ref a)) Q E' s' := by
  obtain ⟨oe, vs, T, oT, ts, he, hcls, hdi, hd, h1, hTe, hT, hdT, h3, hHT, hsT⟩ := F.ex
  subst hcls
  have hA : X.A.frames = some (X.env :: X.outer) := by rw [← hst]; exact I.ok.frames
  have FF := I.stackE u
  refine wpAny_bind (note_next (as := a :: T :: frs X.stack) hA (by rw [← hst]; exact FF) hfr he hdi hd h1 hTe hT hdT h3 List.mem_cons_self (List.mem_cons_of_mem _ List.mem_cons_self) (fun b z => List.mem_cons_of_mem _ (List.mem_cons_of_mem _ (by rw [hst]; exact z))) fun h2 L => hQ _ ?_)
  rw [← hst] at L
  refine fin_leave I hst hfr hex ho hb u hok (fun b z => ?_) (fun b z => List.mem_cons_of_mem _ (List.mem_cons_of_mem _ z)) List.mem_cons_self ⟨F.un, F.new⟩ L hE
  rcases List.mem_cons.mp z with q | z
  · exact .inr (by rw [q]; exact ⟨F.un, F.new⟩)
  · rcases List.mem_cons.mp z with q | z
    · exact .inr (by rw [q]; exact ⟨hHT, hsT⟩)
    · exact .inl z
end
/-- in the body of a def whose errors are told -/
theorem passE {P : Program} {w : World} {K : PySem.W.Frag} {mg : Str → Option Value} {base : Heap} {N : List Str} {qual : Str} {scope : Scope} {f : Addr} {cd : Value} {A : Around} {outer : List Env} {s : Shared} {H : Hp} {E : XK} :
    Passes (CXe P w) (cxOf (CXe P w) P w K mg base N qual scope f cd A outer s H E) E := fun pins σ H1 s1 e s' I h => by
  obtain ⟨a, cls, dd, H', rfl, ho, hb, u, hok, F, hE⟩ := h
  exact leave_on I rfl rfl rfl ho hb u hok F hE (M := model P w) (E' := fun e' s2 => CXe P w outer H s E e' s2) fun s2 q => q
end L2

/-! ### errors raised and caught -/
namespace L2
open PySem PySem.Spec PyProof.Rows
abbrev bmV : List Value := [.type "ValueError", .type "Exception", .type "BaseException", .type "object"]
/-- a class of the text under ValueError, without an __init__ of its own -/
noncomputable abbrev ExcC (K : PySem.W.Frag) (C : Addr) : Prop := PySem.W.excIn K C bmV "ValueError.__new__" = true
theorem ExcC.facts {K : PySem.W.Frag} {h : Heap} {C : Addr} (X : K.In h) (q : ExcC K C) : ∃ nm qn N bs bm hd sn sub ab col dd k0 k1 k2 k3 k5 mN,
    h.get? C = some (excClassObj nm qn C N bs bm hd sn sub ab col dd k0 k1 k2 k3 k5 "ValueError.__new__") ∧ h.Ns N mN ∧ mN "__init__" = none ∧ OwnTail h bmV bm := by
  unfold ExcC PySem.W.excIn at q
  split at q
  · rename_i dd' cd' sl' hlk
    split at q
    · rename_i C2 bm2 j0 j1 j2 j3 n2 j5 em es
      simp only [Bool.and_eq_true, beq_iff_eq, Bool.not_eq_true'] at q
      obtain ⟨⟨⟨⟨⟨e1, e2⟩, e3⟩, e4⟩, e5⟩, e6⟩ := q
      subst e1 e2
      obtain ⟨nm, bs, mr, ns, qn, hd, sn, sub, ab, col, del⟩ := cd'
      dsimp only at em e3 e5 e6
      subst em e3
      have e7 : sl' = #[j0, j1, j2, j3, some (.builtin "ValueError.__new__"), j5] := by
        obtain ⟨l⟩ := sl'
        simp only at es
        rw [es]
      subst e7
      exact ⟨nm, qn, ns, bs, bm2, hd, sn, sub, ab, col, dd', j0, j1, j2, j3, j5, _, X _ _ hlk, .of_isNs (PySem.W.isNs_of_in X e5), PySem.W.nsMap_none_of_in X e5 e6, PySem.W.tail_of_in X e4⟩
    · cases q
  · cases q
/-- what a new error does in this context -/
noncomputable def NewTo (X : Cx) (E : XK) : Prop := ∀ (pins : List (Addr × Obj)) (σ : St) (H : Hp) (s : Shared) (a : Addr) (cls : Value) (vs : List Value) (h' : Heap), Inv X pins σ H s → Heap.MadeExcOf s.heap h' a cls vs → E cls none H → X.xe (.ref a) { s with heap := h' }
theorem Inv.untracked (I : Inv X pins σ H s) (h : s.heap.get? a = none) : H a = none := by
  cases q : H a with
  | none => rfl
  | some o => obtain ⟨ob, e⟩ := (I.hok a o q).get; rw [h] at e; cases e
theorem newE {P : Program} {w : World} {K : PySem.W.Frag} {mg : Str → Option Value} {base : Heap} {N : List Str} {qual : Str} {scope : Scope} {f : Addr} {cd : Value} {A : Around} {outer : List Env} {s : Shared} {H : Hp} {E : XK} :
    NewTo (cxOf (CXe P w) P w K mg base N qual scope f cd A outer s H E) E := fun pins σ H1 s1 a cls vs h' I hm hE => by
  obtain ⟨t, e, _⟩ := hm.there
  exact leave_new (s' := { s1 with heap := h' }) I rfl rfl rfl rfl I.bare (Un.kept hm.keeps) (I.hok.kept hm.keeps) ⟨I.untracked hm.new, hm.new⟩ e rfl rfl rfl rfl hE (M := model P w) (E' := fun e' s2 => CXe P w outer H s E e' s2) fun s2 q => q
noncomputable def tRaise (C : Addr) (E : XK) (t : TA) : TS := fun _ σ H => t σ H fun _ H1 => E (.ref C) none H1
theorem ps_raise {X : Cx} {E : XK} {x : Str} {np cpos pos : Pos} {e : Expr} {es : List Expr} {C : Addr} {t : TA} (hn : NewTo X E) (hc : X.calm = true) (q : ExcC X.K C) (hg : Gl X x) (hm : X.mg x = some (.ref C)) (ha : PA X (e :: es) t) (hz : (e :: es).length ≤ 1000 := by decide)
    (hdb : (x == ("__debug__" : Str)) = false := by decide) (he : starEach (e :: es) X.env = (false, eval e X.env) :: starEach es X.env := by rfl) (hpl : (backTo cpos (starEach (e :: es) X.env)).any (·.1) = false := by rfl)
    (hl : ∀ σ H Q, t σ H Q → t σ H fun vs H1 => vs.length = (e :: es).length ∧ Q vs H1) : PS X (.Raise (some (.Call (.Name x np) (e :: es) [] cpos)) none pos) (tRaise C E t) := by
  intro pins s σ H D I h
  obtain ⟨nm, qn, N, bs, bm, hd, sn, sub, ab, col, dd, k0, k1, k2, k3, k5, mN, hC, hns, hni, tl⟩ := q.facts I.ok.mod.kin
  have hbase : bm.contains (.type "BaseException") = true := tl.hasType (by decide +kernel)
  refine wpAny_Raise_call_subU (nm := nm) (q := qn) (C := C) (N := N) (bs := bs) (bm := bm) (hdct := hd) (sn := sn) (sub := sub) (ab := ab) (col := col) (dd := dd) (k0 := k0) (k1 := k1) (k2 := k2) (k3 := k3) (k5 := k5) (mN := mN)
    PySem.F.excBase_ValueError (by decide +kernel) PySem.F.excBase_ValueError hbase (I.ok.hd hc) hpl hni (ld_glob I hg hm ⟨rfl, ?_⟩ hdb)
  have ev : wpAny (model X.prog X.w) X.A (spliced (backTo cpos (starEach (e :: es) X.env))) (AP X pins σ fun vs H1 => vs.length = (e :: es).length ∧ E (.ref C) none H1) X.xe s := ha cpos pins s σ H _ I (hl σ H _ h)
  rw [he] at ev ⊢
  refine Calls.evalArgs_plain (thn ev fun us s1 ⟨vs, H1, I1, r, l1, q1⟩ => ⟨rfl, ?_, ?_⟩)
  · rw [← r.length, l1]
    exact Nat.le_of_lt (small1000 hz)
  · exact ⟨I1.bk _ _ hC, hns.keeps I1.bk, tl.keeps I1.bk, fun h' a hm' => hn pins σ H1 s1 a (.ref C) _ h' I1 hm' q1⟩
end L2

/-! ### classes: a method through the class's name, methods of an object whose class is not fixed, kinds -/
namespace L2
open PySem PySem.Spec PyProof.Rows
/-- C.m, read off the class C: a def -/
structure ClsFn (K : PySem.W.Frag) (C : Addr) (m : Str) (f : Addr) : Prop where
  ga : PySem.W.specialIn K (.ref C) "__getattribute__" = some (some (.builtin "type.__getattribute__"))
  rd : PySem.W.readsIn K C (.type "type") = true
  fc : PySem.W.findCls K (.ref C) (.type "type") m = some (.val (.ref f))
  kp : PySem.W.keepIn K (.ref f) = true
section
variable {X : Cx} {CX : CXT} {k : Nat} {f C : Addr} {fd : FuncData} {ps : List Str} {sp : Sp} {dvs : List V} {ds : List Value} {E : XK} {x m : Str} {p pos apos : Pos} {e o : Expr} {es : List Expr} {ta : TE} {t : TA}
theorem pe_clsM (hg : Gl X x) (hm : X.mg x = some (.ref C)) (c : ClsFn X.K C m f) (F : FnOk X.prog X.w X.K X.mg X.base CX k f fd ps sp) (hr : Room k X.A) (hb : Binds X.K fd ps ds) (hd : Vals dvs ds) (hx : Passes CX X E) (ha : PA X (e :: es) t)
    (hdb : (x == ("__debug__" : Str)) = false := by decide) (hst : starEach (e :: es) X.env = (false, eval e X.env) :: starEach es X.env := by rfl) (hpl : (backTo pos (starEach es X.env)).any (·.1) = false := by rfl)
    (ht : eval (.Call (.Attribute (.Name x p) m apos) (e :: es) [] pos) X.env = (do
      let ov ← eval (.Name x p) X.env
      standAt apos.atName
      let (f, first) ← holding [ov] (getMethod ov m pl)
      callWith pos f first (backTo pos (starEach (e :: es) X.env)) (backToKw pos (keywordEach [] X.env))) := by rfl) : PE X (.Call (.Attribute (.Name x p) m apos) (e :: es) [] pos) (tCall sp dvs E t) := by
  intro pins s σ H Q I h
  refine PySem.W.methodCall_KW (pl := pl) (ld_glob I hg hm ?_ hdb) ht
  refine PySem.W.method_cls I.kIn c.ga (PySem.W.cls_value I.kIn c.rd c.fc rfl ?_)
  have I' := I.tok (s.toks + 1)
  refine PySem.W.callWith_K (first := []) (h₀ := X.base) I.ok.mod.kin c.kp (thn (ha pos pins _ σ H _ I' h) fun us s1 ⟨vs, H1, I1, r, q⟩ => ⟨I1.kIn, ?_⟩) hst hpl
  exact run_fn F hr hb hd hx I1 r q
end
/-- the method m of the class C keeps sp -/
structure OkM (P : Program) (w : World) (K : PySem.W.Frag) (mg : Str → Option Value) (base : Heap) (CX : CXT) (k : Nat) (C : Addr) (m : Str) (ps : List Str) (sp : Sp) : Prop where
  ex : ∃ f fd, FnOk P w K mg base CX k f fd ps sp ∧ Binds K fd ps [] ∧ Meth K C m f ∧ Cls K C
/-- numbers handed to a method of the object at a, which is a kind of the size z -/
noncomputable def spKM (KA : Hp → Addr → Int → Prop) (a : Addr) (z : Int) (n : Nat) (pre : Int → List Int → Prop) (F : Int → List Int → Int) : Sp := fun vs H Q _ => ∃ ns : List Int, ns.length = n ∧ vs = .ref a :: ns.map V.int ∧ KA H a z ∧ pre z ns ∧ Q (.int (F z ns)) H
structure KM (P : Program) (w : World) (K : PySem.W.Frag) (mg : Str → Option Value) (base : Heap) (k : Nat) (KA : Hp → Addr → Int → Prop) (m : Str) (n : Nat) (pre : Int → List Int → Prop) (F : Int → List Int → Int) : Prop where
  ex : ∀ H a z, KA H a z → ∃ C dx fs ps, H a = some (.ins C dx fs) ∧ fs.lookup m = none ∧ OkM P w K mg base CX0 k C m ps (spKM KA a z n pre F)
section
variable {X : Cx} {j k n : Nat} {x m : Str} {px pos apos : Pos} {e : Expr} {es : List Expr} {KA : Hp → Addr → Int → Prop} {pre : Int → List Int → Prop} {F : Int → List Int → Int} {C : St → Hp → Prop} {g : St → List Int}
end
/-- C.m read off the class under its name keeps sp -/
structure OkC (P : Program) (w : World) (K : PySem.W.Frag) (mg : Str → Option Value) (base : Heap) (CX : CXT) (k : Nat) (x : Str) (C : Addr) (m : Str) (ps : List Str) (sp : Sp) : Prop where
  ex : ∃ f fd, FnOk P w K mg base CX k f fd ps sp ∧ Binds K fd ps [] ∧ ClsFn K C m f ∧ mg x = some (.ref C)
/-- C(..) under its name: its __init__ keeps sp -/
structure OkI (P : Program) (w : World) (K : PySem.W.Frag) (mg : Str → Option Value) (base : Heap) (CX : CXT) (k : Nat) (x : Str) (C : Addr) (ps : List Str) (sp : Sp) : Prop where
  ex : ∃ f fd, FnOk P w K mg base CX k f fd ps sp ∧ Binds K fd ps [] ∧ Mk K C f ∧ mg x = some (.ref C)
section
variable {X : Cx} {CX : CXT} {j k : Nat} {C : Addr} {ps : List Str} {sp : Sp} {E : XK} {x m : Str} {p pos apos : Pos} {e : Expr} {es : List Expr} {t : TA}
theorem pe_clsO (o : OkC X.prog X.w X.K X.mg X.base CX j x C m ps sp) (hr : Room k X.A) (hx : Passes CX X E) (ha : PA X (e :: es) t) (hj : j ≤ k := by decide) (hg : Gl X x := by rfl)
    (hdb : (x == ("__debug__" : Str)) = false := by decide) (hst : starEach (e :: es) X.env = (false, eval e X.env) :: starEach es X.env := by rfl) (hpl : (backTo pos (starEach es X.env)).any (·.1) = false := by rfl)
    (ht : eval (.Call (.Attribute (.Name x p) m apos) (e :: es) [] pos) X.env = (do
      let ov ← eval (.Name x p) X.env
      standAt apos.atName
      let (f, first) ← holding [ov] (getMethod ov m pl)
      callWith pos f first (backTo pos (starEach (e :: es) X.env)) (backToKw pos (keywordEach [] X.env))) := by rfl) : PE X (.Call (.Attribute (.Name x p) m apos) (e :: es) [] pos) (tCall sp [] E t) := by
  obtain ⟨f, fd, F, b, c, mm⟩ := o.ex
  exact pe_clsM hg mm c (F.mono hj) hr b .nil hx ha hdb hst hpl ht
theorem pe_makeO (o : OkI X.prog X.w X.K X.mg X.base CX j x C ps sp) (hr : Room k X.A) (hx : Passes CX X E) (ha : PA X (e :: es) t) (hj : j + 1 ≤ k := by decide) (hg : Gl X x := by rfl) (hdb : (x == ("__debug__" : Str)) = false := by decide)
    (he : starEach (e :: es) X.env = (false, eval e X.env) :: starEach es X.env := by rfl) (hpl : (backTo pos (starEach es X.env)).any (·.1) = false := by rfl) : PE X (.Call (.Name x p) (e :: es) [] pos) (tMake C sp [] E t) := by
  obtain ⟨f, fd, F, b, c, mm⟩ := o.ex
  exact pe_make c F (hr.mono hj) hg mm b .nil hx ha hdb he hpl
theorem pe_makeO0 (o : OkI X.prog X.w X.K X.mg X.base CX j x C ps sp) (hr : Room k X.A) (hx : Passes CX X E) (hj : j + 1 ≤ k := by decide) (hg : Gl X x := by rfl) (hdb : (x == ("__debug__" : Str)) = false := by decide) : PE X (.Call (.Name x p) [] [] pos) (tMake C sp [] E tNil) := by
  obtain ⟨f, fd, F, b, c, mm⟩ := o.ex
  exact pe_make0 c F (hr.mono hj) hg mm b .nil hx hdb
end
/-- numbers of numbers and of a list of numbers that stands first -/
noncomputable def spS (K : PySem.W.Frag) (n : Nat) (pre : List Int → List Int → Prop) (F : List Int → List Int → Int) : Sp := fun vs H Q _ => ∃ (a : Addr) (xs is : List Int), is.length = n ∧ vs = .ref a :: is.map V.int ∧ SqL K H a (xs.map V.int) ∧ pre xs is ∧ Q (.int (F xs is)) H
section
variable {X : Cx} {j k n : Nat} {x y : Str} {py pos p : Pos} {es : List Expr} {ps : List Str} {pre : List Int → List Int → Prop} {F : List Int → List Int → Int} {C : St → Hp → Prop} {g : St → List Int}
end
/-- a kind: Wholes (size 0), Rests or Powers (size above 0); cW, cR, cP the classes -/
noncomputable def kMeths : List Str := ["plain", "plus", "less", "times", "over"]
noncomputable def KAt (cW cR cP : Addr) (H : Hp) (a : Addr) (z : Int) : Prop := ∃ C dx fs, H a = some (.ins C dx fs) ∧ ((C = cW ∧ z = 0) ∨ ((C = cR ∨ C = cP) ∧ 0 < z)) ∧ fs.lookup ("size" : Str) = some (.int z) ∧ ∀ m ∈ kMeths, fs.lookup m = none
/-- the number that stands for n in a kind of size z -/
noncomputable def pl (z n : Int) : Int := if z = 0 then n else n % z
theorem pl_zero (n : Int) : pl 0 n = n := rfl
end L2

/-! ### what else a loop walks: enumerate, reversed, zip -/
namespace L2
open PySem PySem.Spec PyProof.Rows
section
variable {X : Cx} {pins : List (Addr × Obj)} {σ : St} {H : Hp} {s : Shared} {h' : Heap}
/-- several records of an iterator have turned -/
theorem Inv.turnedL {ch : List Addr} {t' : Nat} (I : Inv X pins σ H s) (hf : ∀ b ∈ ch, FpOk X pins H b) (k : ∀ b o, b ∉ ch → s.heap.get? b = some o → h'.get? b = some o) : Inv X pins σ H { s with heap := h', toks := t' } := by
  have nit : ∀ b u, H b = some u → b ∉ ch := fun b u e z => by rw [(hf b z).1] at e; cases e
  refine I.step (g' := s.gens) (d' := s.drawn) (ch := ch) (fun b hb => ⟨(hf b hb).2.2.2.1, (hf b hb).2.1, (hf b hb).2.2.2.2.1, (hf b hb).2.2.2.2.2⟩) (fun b o _ _ hc e _ => k b o hc e) (fun b o _ _ hc e _ => ⟨o.slots, k b o hc e⟩) (fun _ _ _ _ n => n)
    (fun b o hc e => ⟨o, k b o hc e⟩) (fun _ _ e => e) (fun _ _ _ e => e) (fun b ps e => ⟨#[], by rw [e]; simp⟩) (fun m hm => ?_) (fun b u e => ?_) I.bare
  · obtain ⟨o, es, ep, ho, r⟩ := hm
    exact ⟨o, es, ep, k _ o (fun z => (hf _ z).2.1 rfl) ho, r⟩
  · refine (I.hok b u e).stay (fun c v hc q => k c v ?_ q) (fun _ q => q) fun _ _ q => q
    rcases hc with z | z
    · rw [z]; exact nit b u e
    · exact nit c _ z
/-- an object that stands there is tracked from now on -/
theorem Inv.track (I : Inv X pins σ H s) (f : FpOk X pins H T) (new : ObjOk X.prog X.w (upd H T o) s.heap T o) : Inv X pins σ (upd H T o) s := by
  obtain ⟨f0, f1, f2, f3, f4, f5⟩ := f
  have ne : ∀ {b : Addr} {u : HO}, H b = some u → b ≠ T := fun e => ne_of_none e f0
  refine ⟨I.ok, I.os, I.bare, ⟨I.base.keep, I.base.slot, fun b ob e n x => ?_, I.base.there, fun b xs e => ?_, fun b ob u e => ?_, fun b ps e => ?_⟩, I.loc, I.cell, by rw [upd_ne (Ne.symm f1)]; exact I.free, fun x c e => ?_, fun p hp => ?_, fun b u e => ?_, I.len⟩
  · have hb : b ≠ T := fun z => by
      subst z
      rcases f3 with z | z
      · exact x z
      · exact absurd (Nat.lt_of_lt_of_le (Heap.lt_size e) z) (Nat.lt_irrefl _)
    rw [upd_ne hb]; exact I.base.free b ob e n x
  · have q := I.base.tups b xs e
    rw [upd_ne (ne q)]; exact q
  · have q := I.base.frzs b ob u e
    rw [upd_ne (ne q)]; exact q
  · obtain ⟨m, q⟩ := I.base.tbls b ps e
    exact ⟨m, by rw [upd_ne (ne q)]; exact q⟩
  · rw [upd_ne (f4 x c e)]; exact I.freeC x c e
  · obtain ⟨a1, a2, a3⟩ := I.pin p hp
    exact ⟨a1, by rw [upd_ne (f5 p hp)]; exact a2, a3⟩
  · by_cases c : b = T
    · subst c; rw [upd_same] at e; cases e; exact new
    · rw [upd_ne c] at e
      exact (I.hok b u e).stay (fun _ _ _ q => q) (fun d q => by rw [upd_ne (ne q)]; exact q) (fun d xs q => by rw [upd_ne (ne q)]; exact q) fun d _ _ q => by rw [upd_ne (ne q)]; exact q
end
theorem bt_reversed : bootBuiltins "reversed" = some (.type "reversed") := by decide +kernel
/-! the forms one uses -/
end L2

/-! ### comprehensions of numbers, as one uses them -/
namespace L2
open PySem PySem.Spec PyProof.Rows
theorem int_at {ns : List Int} {i : Nat} {x : V} (h : (ns.map V.int)[i]? = some x) : ∃ n, x = .int n ∧ ns[i]? = some n := by
  rw [List.getElem?_map] at h
  cases e : ns[i]? with
  | none => rw [e] at h; cases h
  | some n => rw [e] at h; exact ⟨n, (Option.some.inj h).symm, rfl⟩
theorem take_at {α : Type} {ns : List α} {i : Nat} {n : α} (h : ns[i]? = some n) : ns.take (i + 1) = ns.take i ++ [n] := by rw [List.take_add_one, h]; rfl
noncomputable abbrev noTest : TT := fun _ H Q => Q true H
section
variable {K : PySem.W.Frag} {a D : Addr} {ns : List Int} {σ : St} {C : St → Hp → Prop} {g : St → Int} {Q : VK} {H1 : Hp}
end
end L2

/-! ### the mathematics: primes up to 9973, rests, noughts cut, values -/
namespace FM
open L2
noncomputable def IsP (n : Int) : Prop := 2 ≤ n ∧ n ≤ 9973 ∧ ∀ d : Int, 2 ≤ d → d * d ≤ n → ¬ n % d = 0
open Classical in
noncomputable def Clean (n d : Int) : Prop := ∀ e : Int, 2 ≤ e → e < d → ¬ n % e = 0
/-! rests -/
/-! noughts at the end -/
noncomputable def trimZ (xs : List Int) : List Int := (xs.reverse.dropWhile (· == 0)).reverse
theorem trimZ_zero (xs : List Int) : trimZ (xs ++ [0]) = trimZ xs := by
  unfold trimZ
  rw [List.reverse_append]
  simp
theorem trimZ_ne (xs : List Int) (h : x ≠ 0) : trimZ (xs ++ [x]) = xs ++ [x] := by
  unfold trimZ
  rw [List.reverse_append]
  simp [h]
theorem trimZ_len (xs : List Int) : (trimZ xs).length ≤ xs.length := by
  unfold trimZ
  have := (List.dropWhile_sublist (· == 0) (l := xs.reverse)).length_le
  simpa using this
/-! sizes -/
/-! values -/
noncomputable def ev : List Int → Int → Int
  | [], _ => 0
  | n :: r, x => n + x * ev r x
end FM

/-! ### a reading of defs by pure values: what stands in the slots, without the heap -/
namespace L3
open PySem PySem.Spec PyProof.Rows L2
inductive PV where
  | int (n : Int) | bl (b : Bool) | non | str (s : Str) | ints (ns : List Int) | scr (ns : List Int) | lst (xs : List PV) | tup (xs : List PV) | ob (k : Nat) (z : Int) | ty (n : String) | cls (a : Addr)
/-- what stands for own objects: k the sort, z its number -/
structure Gx where
  ob : Nat → Hp → Addr → Int → Prop
  mono : ∀ k H H' a z, Same H H' → ob k H a z → ob k H' a z
mutual
noncomputable def At (K : PySem.W.Frag) (G : Gx) (H : Hp) : PV → V → Prop
  | .int n, v => v = .int n
  | .bl b, v => v = .bl b
  | .non, v => v = .non
  | .str s, v => v = .str s
  | .ints ns, v => ∃ a, v = .ref a ∧ Rd H a (.lst (ns.map V.int))
  | .scr ns, v => ∃ a, v = .ref a ∧ SqL K H a (ns.map V.int)
  | .lst xs, v => ∃ a vs, v = .ref a ∧ Rd H a (.lst vs) ∧ AtL K G H xs vs
  | .tup xs, v => ∃ a vs, v = .ref a ∧ H a = some (.tup vs) ∧ AtL K G H xs vs
  | .ob k z, v => ∃ a, v = .ref a ∧ G.ob k H a z
  | .ty n, v => v = .ty n
  | .cls a, v => v = .ref a
noncomputable def AtL (K : PySem.W.Frag) (G : Gx) (H : Hp) : List PV → List V → Prop
  | [], vs => vs = []
  | p :: ps, vs => ∃ v r, vs = v :: r ∧ At K G H p v ∧ AtL K G H ps r
end
theorem same_rd (e : Same H H') (h : Rd H a (.lst xs)) : Rd H' a (.lst xs) := by
  rcases h with h | ⟨o, h⟩
  · exact .inl (e _ _ h)
  · exact .inr ⟨o, e _ _ h⟩
theorem same_tup {K : PySem.W.Frag} {H H' : Hp} {a : Addr} {xs : List V} (e : Same H H') (h : SqT K H a xs) : SqT K H' a xs := by
  rcases h with (h | ⟨o, h⟩) | h
  · exact .inl (.inl (e _ _ h))
  · exact .inl (.inr ⟨o, e _ _ h⟩)
  · exact .inr h
mutual
theorem At.mono {K : PySem.W.Frag} {G : Gx} {H H' : Hp} (s : Same H H') : ∀ (p : PV) (v : V), At K G H p v → At K G H' p v
  | .int _, _, h => h
  | .bl _, _, h => h
  | .non, _, h => h
  | .str _, _, h => h
  | .ints _, _, h => by obtain ⟨a, e, q⟩ := h; exact ⟨a, e, same_rd s q⟩
  | .scr _, _, h => by obtain ⟨a, e, q⟩ := h; exact ⟨a, e, s.seq q⟩
  | .lst xs, _, h => by obtain ⟨a, vs, e, q, r⟩ := h; exact ⟨a, vs, e, same_rd s q, AtL.mono s xs vs r⟩
  | .tup xs, _, h => by obtain ⟨a, vs, e, q, r⟩ := h; exact ⟨a, vs, e, s _ _ q, AtL.mono s xs vs r⟩
  | .ob _ _, _, h => by obtain ⟨a, e, q⟩ := h; exact ⟨a, e, G.mono _ _ _ _ _ s q⟩
  | .ty _, _, h => h
  | .cls _, _, h => h
theorem AtL.mono {K : PySem.W.Frag} {G : Gx} {H H' : Hp} (s : Same H H') : ∀ (ps : List PV) (vs : List V), AtL K G H ps vs → AtL K G H' ps vs
  | [], _, h => h
  | p :: ps, _, h => by obtain ⟨v, r, e, q, t⟩ := h; exact ⟨v, r, e, At.mono s p v q, AtL.mono s ps r t⟩
end
theorem AtL.length {K : PySem.W.Frag} {G : Gx} {H : Hp} : ∀ {ps : List PV} {vs : List V}, AtL K G H ps vs → ps.length = vs.length
  | [], _, h => by cases h; rfl
  | p :: ps, _, h => by
    obtain ⟨v, r, rfl, _, t⟩ := h
    rw [List.length_cons, List.length_cons, AtL.length t]
theorem AtL.get {K : PySem.W.Frag} {G : Gx} {H : Hp} : ∀ {ps : List PV} {vs : List V} {i : Nat} {v : V}, AtL K G H ps vs → vs[i]? = some v → ∃ p, ps[i]? = some p ∧ At K G H p v
  | [], _, i, v, h, e => by cases h; simp at e
  | p :: ps, _, 0, v, h, e => by
    obtain ⟨w, r, rfl, q, t⟩ := h
    simp at e
    subst e
    exact ⟨p, rfl, q⟩
  | p :: ps, _, i + 1, v, h, e => by
    obtain ⟨w, r, rfl, q, t⟩ := h
    obtain ⟨p', e', q'⟩ := AtL.get (i := i) (v := v) t (by simpa using e)
    exact ⟨p', by simpa using e', q'⟩
theorem AtL.at {K : PySem.W.Frag} {G : Gx} {H : Hp} : ∀ {ps : List PV} {vs : List V} {i : Nat} {p : PV}, AtL K G H ps vs → ps[i]? = some p → ∃ v, vs[i]? = some v ∧ At K G H p v
  | [], _, i, v, h, e => by simp at e
  | p :: ps, _, 0, v, h, e => by
    obtain ⟨w, r, rfl, q, t⟩ := h
    simp at e
    subst e
    exact ⟨w, rfl, q⟩
  | p :: ps, _, i + 1, v, h, e => by
    obtain ⟨w, r, rfl, q, t⟩ := h
    obtain ⟨v', e', q'⟩ := AtL.at (i := i) (p := v) t (by simpa using e)
    exact ⟨v', by simpa using e', q'⟩
theorem AtL.snoc {K : PySem.W.Frag} {G : Gx} {H : Hp} {p : PV} {v : V} : ∀ {ps : List PV} {vs : List V}, AtL K G H ps vs → At K G H p v → AtL K G H (ps ++ [p]) (vs ++ [v])
  | [], _, h, q => by cases h; exact ⟨v, [], rfl, q, rfl⟩
  | p' :: ps, _, h, q => by
    obtain ⟨w, r, rfl, q', t⟩ := h
    exact ⟨w, _, rfl, q', AtL.snoc t q⟩
/-- the heap less what is hidden -/
noncomputable def mn (H : Hp) (O : Addr → Bool) : Hp := fun b => if O b = true then none else H b
theorem mn_get (h : mn H O b = some o) : O b = false ∧ H b = some o := by
  unfold mn at h
  by_cases c : O b = true
  · rw [if_pos c] at h; cases h
  · rw [if_neg c] at h; exact ⟨by simpa using c, h⟩
theorem mn_of (h : O b = false) : mn H O b = H b := by unfold mn; rw [if_neg (by rw [h]; decide)]
theorem mn_le : Same (mn H O) H := same_mk fun _ _ h => (mn_get h).2
theorem mn_same (s : Same H H') : Same (mn H O) (mn H' O) := fun b o h => by
  obtain ⟨c, e⟩ := mn_get h
  rw [mn_of c]; exact s b o e
theorem mn_anti (k : ∀ a, O a = true → O' a = true) : Same (mn H O') (mn H O) := same_mk fun b o h => by
  obtain ⟨c, e⟩ := mn_get h
  have : O b = false := by
    cases z : O b with
    | false => rfl
    | true => rw [k b z] at c; cases c
  rw [mn_of this]; exact e
noncomputable def hide (a : Addr) (O : Addr → Bool) : Addr → Bool := fun b => b == a || O b
theorem hide_ne (h : b ≠ a) : hide a O b = O b := by unfold hide; simp [h]
theorem hide_self : hide a O a = true := by unfold hide; simp
theorem hide_le : ∀ b, O b = true → hide a O b = true := fun b h => by unfold hide; simp [h]
/-- a new address is hidden: what could be seen is still seen -/
theorem mn_hide (s : Same H H') (ha : H a = none) : Same (mn H O) (mn H' (hide a O)) := fun b o h => by
  obtain ⟨c, e⟩ := mn_get h
  rw [mn_of (by rw [hide_ne (ne_of_none e ha)]; exact c)]; exact s b o e
theorem mn_upd (h : O a = true) : mn (upd H a o) O = mn H O := by
  funext b
  unfold mn
  by_cases c : O b = true
  · rw [if_pos c, if_pos c]
  · rw [if_neg c, if_neg c, upd_ne (fun z => c (by rw [z]; exact h))]
/-- slots: not bound; bound to what nobody changes; to a list of one's own; to a list of two such lists -/
inductive Sl where
  | un | fr (p : PV) | ow (p : PV) | o2 (xs ys : List Int)
noncomputable abbrev En := List Sl
structure Bs where
  H0 : Hp
  Oc : Addr → Bool
noncomputable def OwnAt (K : PySem.W.Frag) (G : Gx) (H : Hp) : PV → List V → Prop
  | .ints ns, vs => vs = ns.map V.int
  | .lst xs, vs => AtL K G H xs vs
  | _, _ => False
theorem OwnAt.mono {K : PySem.W.Frag} {G : Gx} {H H' : Hp} (s : Same H H') {p : PV} {vs : List V} (h : OwnAt K G H p vs) : OwnAt K G H' p vs := by
  cases p <;> first | exact h | exact AtL.mono s _ _ h
structure O2At (B : Bs) (σ : L2.St) (H : Hp) (ρ : En) (O : Addr → Bool) (i : Nat) (xs ys : List Int) (D a b : Addr) : Prop where
  at_ : σ[i]? = some (some (.ref D))
  oD : O D = true
  oa : O a = true
  ob : O b = true
  nD : B.H0 D = none
  na : B.H0 a = none
  nb : B.H0 b = none
  hD : H D = some (.lst [.ref a, .ref b])
  ha : H a = some (.lst (xs.map V.int))
  hb : H b = some (.lst (ys.map V.int))
  ab : a ≠ b
  un : ∀ (j : Nat) q c, ρ[j]? = some (.ow q) → σ[j]? = some (some (.ref c)) → c ≠ D ∧ c ≠ a ∧ c ≠ b
  one : ∀ (j : Nat) xs' ys', ρ[j]? = some (.o2 xs' ys') → j = i
structure Rep (K : PySem.W.Frag) (G : Gx) (B : Bs) (σ : L2.St) (H : Hp) (ρ : En) (O : Addr → Bool) : Prop where
  same : Same B.H0 H
  cd : ∀ a, B.Oc a = true → B.H0 a ≠ none
  hid : ∀ a, B.Oc a = true → O a = true
  dom : ∀ a, O a = true → H a ≠ none
  vis : ∀ a, O a = true → B.Oc a = true ∨ B.H0 a = none
  fr : ∀ (i : Nat) p, ρ[i]? = some (.fr p) → ∃ v, σ[i]? = some (some v) ∧ At K G (mn H O) p v
  ow : ∀ (i : Nat) p, ρ[i]? = some (.ow p) → ∃ a vs, σ[i]? = some (some (.ref a)) ∧ O a = true ∧ B.H0 a = none ∧ H a = some (.lst vs) ∧ OwnAt K G (mn H O) p vs
  inj : ∀ (i j : Nat) p q a, ρ[i]? = some (.ow p) → ρ[j]? = some (.ow q) → σ[i]? = some (some (.ref a)) → σ[j]? = some (some (.ref a)) → i = j
  len : σ.length = ρ.length
  o2 : ∀ (i : Nat) xs ys, ρ[i]? = some (.o2 xs ys) → ∃ D a b, O2At B σ H ρ O i xs ys D a b
section
variable {K : PySem.W.Frag} {G : Gx} {B : Bs} {σ : L2.St} {H H' : Hp} {ρ : En} {O : Addr → Bool} {i : Nat}
theorem Rep.grow (R : Rep K G B σ H ρ O) (s : Same H H') : Rep K G B σ H' ρ O := by
  refine ⟨R.same.trans s, R.cd, R.hid, fun a h z => R.dom a h (s.free z), R.vis, fun i p e => ?_, fun i p e => ?_, R.inj, R.len, fun i xs ys e => let ⟨D, a, b, q⟩ := R.o2 i xs ys e; ⟨D, a, b, q.at_, q.oD, q.oa, q.ob, q.nD, q.na, q.nb, s _ _ q.hD, s _ _ q.ha, s _ _ q.hb, q.ab, q.un, q.one⟩⟩
  · obtain ⟨v, e1, e2⟩ := R.fr i p e
    exact ⟨v, e1, At.mono (mn_same s) _ _ e2⟩
  · obtain ⟨a, vs, e1, e2, e3, e4, e5⟩ := R.ow i p e
    exact ⟨a, vs, e1, e2, e3, s _ _ e4, e5.mono (mn_same s)⟩
theorem set_at {α : Type} {l : List α} {i j : Nat} {x y : α} (h : (l.set i x)[j]? = some y) : (i = j ∧ y = x ∧ i < l.length) ∨ (i ≠ j ∧ l[j]? = some y) := by
  rw [List.getElem?_set] at h
  by_cases c : i = j
  · rw [if_pos c] at h
    by_cases c2 : i < l.length
    · rw [if_pos c2] at h; exact .inl ⟨c, (Option.some.inj h).symm, c2⟩
    · rw [if_neg c2] at h; cases h
  · rw [if_neg c] at h; exact .inr ⟨c, h⟩
theorem set_ne {α : Type} {l : List α} {i j : Nat} {x : α} (h : i ≠ j) : (l.set i x)[j]? = l[j]? := by rw [List.getElem?_set, if_neg h]
theorem set_eq {α : Type} {l : List α} {i : Nat} {x : α} (h : i < l.length) : (l.set i x)[i]? = some x := by rw [List.getElem?_set, if_pos rfl, if_pos h]
/-- a name is bound to a value that nobody changes -/
theorem Rep.set (R : Rep K G B σ H ρ O) {p : PV} {v : V} (h : At K G (mn H O) p v) : Rep K G B (σ.set i (some v)) H (ρ.set i (.fr p)) O := by
  refine ⟨R.same, R.cd, R.hid, R.dom, R.vis, fun j q e => ?_, fun j q e => ?_, fun j k q r a e1 e2 e3 e4 => ?_, by rw [List.length_set, List.length_set]; exact R.len, fun j xs ys e => ?_⟩
  · rcases set_at e with ⟨rfl, e, l⟩ | ⟨n, e⟩
    · cases e; exact ⟨v, set_eq (by rw [R.len]; exact l), h⟩
    · rw [set_ne n]; exact R.fr j q e
  · rcases set_at e with ⟨rfl, e, l⟩ | ⟨n, e⟩
    · cases e
    · rw [set_ne n]; exact R.ow j q e
  · rcases set_at e1 with ⟨rfl, e, l⟩ | ⟨n, e⟩
    · cases e
    · rcases set_at e2 with ⟨rfl, e', l'⟩ | ⟨n', e'⟩
      · cases e'
      · rw [set_ne n] at e3; rw [set_ne n'] at e4
        exact R.inj j k q r a e e' e3 e4
  · rcases set_at e with ⟨rfl, e, l⟩ | ⟨n, e⟩
    · cases e
    · obtain ⟨D, a, b, q⟩ := R.o2 j xs ys e
      refine ⟨D, a, b, by rw [set_ne n]; exact q.at_, q.oD, q.oa, q.ob, q.nD, q.na, q.nb, q.hD, q.ha, q.hb, q.ab, fun k r c e1 e2 => ?_, fun k xs' ys' e1 => ?_⟩
      · rcases set_at e1 with ⟨_, e', _⟩ | ⟨n', e'⟩
        · cases e'
        · rw [set_ne n'] at e2; exact q.un k r c e' e2
      · rcases set_at e1 with ⟨_, e', _⟩ | ⟨n', e'⟩
        · cases e'
        · exact q.one k xs' ys' e'
/-- a new list comes and is one's own -/
theorem Rep.new (R : Rep K G B σ H ρ O) {p : PV} {a : Addr} {vs : List V} (s : Same H H') (ha : H a = none) (he : H' a = some (.lst vs)) (h : OwnAt K G (mn H' (hide a O)) p vs) : Rep K G B (σ.set i (some (.ref a))) H' (ρ.set i (.ow p)) (hide a O) := by
  refine ⟨R.same.trans s, R.cd, fun b z => hide_le b (R.hid b z), fun b z y => ?_, fun b z => ?_, fun j q e => ?_, fun j q e => ?_, fun j k q r b e1 e2 e3 e4 => ?_, by rw [List.length_set, List.length_set]; exact R.len, fun j xs ys e => ?_⟩
  · by_cases c : b = a
    · subst c; rw [he] at y; cases y
    · rw [hide_ne c] at z; exact R.dom b z (s.free y)
  · by_cases c : b = a
    · subst c; exact .inr (R.same.free ha)
    · rw [hide_ne c] at z; exact R.vis b z
  · rcases set_at e with ⟨rfl, e, l⟩ | ⟨n, e⟩
    · cases e
    · obtain ⟨v, e1, e2⟩ := R.fr j q e
      exact ⟨v, by rw [set_ne n]; exact e1, At.mono (mn_hide s ha) _ _ e2⟩
  · rcases set_at e with ⟨rfl, e, l⟩ | ⟨n, e⟩
    · cases e
      exact ⟨a, vs, set_eq (by rw [R.len]; exact l), hide_self, R.same.free ha, he, h⟩
    · obtain ⟨b, us, e1, e2, e3, e4, e5⟩ := R.ow j q e
      exact ⟨b, us, by rw [set_ne n]; exact e1, hide_le b e2, e3, s _ _ e4, e5.mono (mn_hide s ha)⟩
  · have old : ∀ (m : Nat) q, ρ[m]? = some (.ow q) → σ[m]? = some (some (.ref a)) → False := fun m q e z => by
      obtain ⟨b, us, e1, _, _, e4, _⟩ := R.ow m q e
      rw [z] at e1; cases e1
      rw [ha] at e4; cases e4
    rcases set_at e1 with ⟨rfl, e, l⟩ | ⟨n, e⟩
    · rcases set_at e2 with ⟨rfl, e', l'⟩ | ⟨n', e'⟩
      · rfl
      · rw [set_eq (by rw [R.len]; exact l)] at e3
        cases e3
        rw [set_ne n'] at e4
        exact (old k r e' e4).elim
    · rcases set_at e2 with ⟨rfl, e', l'⟩ | ⟨n', e'⟩
      · rw [set_eq (by rw [R.len]; exact l')] at e4
        cases e4
        rw [set_ne n] at e3
        exact (old j q e e3).elim
      · rw [set_ne n] at e3; rw [set_ne n'] at e4
        exact R.inj j k q r b e e' e3 e4
  · rcases set_at e with ⟨rfl, e, l⟩ | ⟨n, e⟩
    · cases e
    · obtain ⟨D, a1, b1, q⟩ := R.o2 j xs ys e
      refine ⟨D, a1, b1, by rw [set_ne n]; exact q.at_, hide_le _ q.oD, hide_le _ q.oa, hide_le _ q.ob, q.nD, q.na, q.nb, s _ _ q.hD, s _ _ q.ha, s _ _ q.hb, q.ab, fun k r c e1 e2 => ?_, fun k xs' ys' e1 => ?_⟩
      · rcases set_at e1 with ⟨rfl, e', l'⟩ | ⟨n', e'⟩
        · rw [set_eq (by rw [R.len]; exact l')] at e2
          cases e2
          exact ⟨Ne.symm (ne_of_none q.hD ha), Ne.symm (ne_of_none q.ha ha), Ne.symm (ne_of_none q.hb ha)⟩
        · rw [set_ne n'] at e2; exact q.un k r c e' e2
      · rcases set_at e1 with ⟨_, e', _⟩ | ⟨n', e'⟩
        · cases e'
        · exact q.one k xs' ys' e'
/-- a list of one's own changes -/
theorem Rep.change (R : Rep K G B σ H ρ O) {p p' : PV} {a : Addr} {vs : List V} (e : ρ[i]? = some (.ow p)) (ea : σ[i]? = some (some (.ref a))) (h : OwnAt K G (mn H O) p' vs) : Rep K G B σ (upd H a (.lst vs)) (ρ.set i (.ow p')) O := by
  obtain ⟨a', us, e1, e2, e3, e4, e5⟩ := R.ow i p e
  rw [ea] at e1
  cases e1
  have hl : i < ρ.length := (List.getElem?_eq_some_iff.mp e).1
  refine ⟨fun b o z => ?_, R.cd, R.hid, fun b z y => ?_, R.vis, fun j q ej => ?_, fun j q ej => ?_, fun j k q r b j1 j2 j3 j4 => ?_, by rw [List.length_set]; exact R.len, fun j xs ys ej => ?_⟩
  · rw [upd_ne (ne_of_none z e3)]; exact R.same b o z
  · by_cases c : b = a
    · subst c; rw [upd_same] at y; cases y
    · rw [upd_ne c] at y; exact R.dom b z y
  · rw [mn_upd e2]
    rcases set_at ej with ⟨_, e', _⟩ | ⟨_, e'⟩
    · cases e'
    · exact R.fr j q e'
  · rw [mn_upd e2]
    rcases set_at ej with ⟨rfl, e', _⟩ | ⟨n, e'⟩
    · cases e'
      exact ⟨a, vs, ea, e2, e3, upd_same, h⟩
    · obtain ⟨b, ws, f1, f2, f3, f4, f5⟩ := R.ow j q e'
      refine ⟨b, ws, f1, f2, f3, ?_, f5⟩
      rw [upd_ne]
      · exact f4
      · intro z
        subst z
        exact n (R.inj i j p q b e e' ea f1)
  · have back : ∀ (m : Nat) q, (ρ.set i (.ow p'))[m]? = some (.ow q) → ∃ q', ρ[m]? = some (.ow q') := fun m q z => by
      rcases set_at z with ⟨rfl, _, _⟩ | ⟨_, z⟩
      · exact ⟨p, e⟩
      · exact ⟨q, z⟩
    obtain ⟨q', y1⟩ := back j q j1
    obtain ⟨r', y2⟩ := back k r j2
    exact R.inj j k q' r' b y1 y2 j3 j4
  · rcases set_at ej with ⟨rfl, e', _⟩ | ⟨n, e'⟩
    · cases e'
    · obtain ⟨D, a1, b1, q⟩ := R.o2 j xs ys e'
      obtain ⟨u1, u2, u3⟩ := q.un i p a e ea
      refine ⟨D, a1, b1, q.at_, q.oD, q.oa, q.ob, q.nD, q.na, q.nb, by rw [upd_ne (Ne.symm u1)]; exact q.hD, by rw [upd_ne (Ne.symm u2)]; exact q.ha, by rw [upd_ne (Ne.symm u3)]; exact q.hb, q.ab, fun k r c e1 e2 => ?_, fun k xs' ys' e1 => ?_⟩
      · rcases set_at e1 with ⟨rfl, _, _⟩ | ⟨_, e1⟩
        · exact q.un i p c e e2
        · exact q.un k r c e1 e2
      · rcases set_at e1 with ⟨_, e', _⟩ | ⟨n', e'⟩
        · cases e'
        · exact q.one k xs' ys' e'
noncomputable def show' (a : Addr) (O : Addr → Bool) : Addr → Bool := fun b => if b = a then false else O b
theorem show_ne (h : b ≠ a) : show' a O b = O b := by unfold show'; rw [if_neg h]
theorem show_self : show' a O a = false := by unfold show'; rw [if_pos rfl]
theorem show_le : ∀ b, show' a O b = true → O b = true := fun b h => by
  by_cases c : b = a
  · subst c; rw [show_self] at h; cases h
  · rw [show_ne c] at h; exact h
noncomputable def frz (ρ : En) (i : Nat) : En := match ρ[i]? with
  | some (.ow p) => ρ.set i (.fr p)
  | _ => ρ
/-- a list of one's own is changed no more -/
theorem Rep.freeze (R : Rep K G B σ H ρ O) (i : Nat) : ∃ O', Rep K G B σ H (frz ρ i) O' := by
  unfold frz
  split
  · rename_i p e
    obtain ⟨a, vs, e1, e2, e3, e4, e5⟩ := R.ow i p e
    have sub : Same (mn H O) (mn H (show' a O)) := mn_anti show_le
    have sees : Rd (mn H (show' a O)) a (.lst vs) := .inl (by rw [mn_of show_self]; exact e4)
    have hp : At K G (mn H (show' a O)) p (.ref a) := by
      cases p <;> first
        | exact False.elim e5
        | (have e5 := e5.mono sub; exact ⟨a, vs, rfl, sees, e5⟩)
        | (have e5' : vs = _ := e5; subst e5'; exact ⟨a, rfl, sees⟩)
    refine ⟨show' a O, R.same, R.cd, fun b z => ?_, fun b z => R.dom b (show_le b z), fun b z => R.vis b (show_le b z), fun j q ej => ?_, fun j q ej => ?_, fun j k q r b j1 j2 j3 j4 => ?_, by rw [List.length_set]; exact R.len, fun j xs ys ej => ?_⟩
    · rw [show_ne]
      · exact R.hid b z
      · intro y
        subst y
        exact R.cd b z e3
    · rcases set_at ej with ⟨rfl, e', _⟩ | ⟨n, e'⟩
      · cases e'
        exact ⟨.ref a, e1, hp⟩
      · obtain ⟨v, f1, f2⟩ := R.fr j q e'
        exact ⟨v, f1, At.mono sub _ _ f2⟩
    · rcases set_at ej with ⟨rfl, e', _⟩ | ⟨n, e'⟩
      · cases e'
      · obtain ⟨b, ws, f1, f2, f3, f4, f5⟩ := R.ow j q e'
        refine ⟨b, ws, f1, ?_, f3, f4, f5.mono sub⟩
        rw [show_ne]
        · exact f2
        · intro z
          subst z
          exact n (R.inj i j p q b e e' e1 f1)
    · rcases set_at j1 with ⟨_, e', _⟩ | ⟨_, y1⟩
      · cases e'
      · rcases set_at j2 with ⟨_, e', _⟩ | ⟨_, y2⟩
        · cases e'
        · exact R.inj j k q r b y1 y2 j3 j4
    · rcases set_at ej with ⟨rfl, e', _⟩ | ⟨n, e'⟩
      · cases e'
      · obtain ⟨D, a1, b1, q⟩ := R.o2 j xs ys e'
        obtain ⟨u1, u2, u3⟩ := q.un i p a e e1
        refine ⟨D, a1, b1, q.at_, by rw [show_ne (Ne.symm u1)]; exact q.oD, by rw [show_ne (Ne.symm u2)]; exact q.oa, by rw [show_ne (Ne.symm u3)]; exact q.ob, q.nD, q.na, q.nb, q.hD, q.ha, q.hb, q.ab, fun k r c e1 e2 => ?_, fun k xs' ys' e1 => ?_⟩
        · rcases set_at e1 with ⟨_, e', _⟩ | ⟨_, e1⟩
          · cases e'
          · exact q.un k r c e1 e2
        · rcases set_at e1 with ⟨_, e', _⟩ | ⟨n', e'⟩
          · cases e'
          · exact q.one k xs' ys' e'
  · exact ⟨O, R⟩
/-- the base of a loop: all that is not one's own -/
noncomputable def Bs.at (B : Bs) (H : Hp) (O : Addr → Bool) : Bs := ⟨fun b => if (O b && (B.H0 b).isNone) = true then none else H b, B.Oc⟩
theorem Bs.at_of (h : O b = false ∨ B.H0 b ≠ none) : (B.at H O).H0 b = H b := by
  show (if (O b && (B.H0 b).isNone) = true then none else H b) = H b
  rw [if_neg]
  rcases h with h | h
  · rw [h]; simp
  · cases e : B.H0 b with
    | none => exact absurd e h
    | some o => simp
theorem Rep.rebase (R : Rep K G B σ H ρ O) : Rep K G (B.at H O) σ H ρ O := by
  refine ⟨fun b o z => ?_, fun a z => ?_, R.hid, R.dom, fun a z => ?_, R.fr, fun i p e => ?_, R.inj, R.len, fun i xs ys e => ?_⟩
  · have z : (if (O b && (B.H0 b).isNone) = true then none else H b) = some o := z
    by_cases c : (O b && (B.H0 b).isNone) = true
    · rw [if_pos c] at z; cases z
    · rw [if_neg c] at z; exact .of z
  · rw [Bs.at_of (.inr (R.cd a z))]
    exact R.dom a (R.hid a z)
  · rcases R.vis a z with y | y
    · exact .inl y
    · refine .inr ?_
      show (if (O a && (B.H0 a).isNone) = true then none else H a) = none
      rw [if_pos (by rw [z, y]; rfl)]
  · obtain ⟨a, vs, e1, e2, e3, e4, e5⟩ := R.ow i p e
    refine ⟨a, vs, e1, e2, ?_, e4, e5⟩
    show (if (O a && (B.H0 a).isNone) = true then none else H a) = none
    rw [if_pos (by rw [e2, e3]; rfl)]
  · obtain ⟨D, a, b, q⟩ := R.o2 i xs ys e
    have z : ∀ c, O c = true → B.H0 c = none → (B.at H O).H0 c = none := fun c h1 h2 => by
      show (if (O c && (B.H0 c).isNone) = true then none else H c) = none
      rw [if_pos (by rw [h1, h2]; rfl)]
    exact ⟨D, a, b, q.at_, q.oD, q.oa, q.ob, z D q.oD q.nD, z a q.oa q.na, z b q.ob q.nb, q.hD, q.ha, q.hb, q.ab, q.un, q.one⟩
theorem Rep.base_le (R : Rep K G B σ H ρ O) : Same B.H0 (B.at H O).H0 := fun b o z => by
  rw [Bs.at_of (.inr (by rw [z]; exact fun y => by cases y))]
  exact R.same b o z
theorem Rep.base_mn (B : Bs) (H : Hp) (O : Addr → Bool) : Same (mn H O) (B.at H O).H0 := same_mk fun b o z => by
  obtain ⟨c, e⟩ := mn_get z
  rw [Bs.at_of (.inl c)]
  exact e
theorem Rep.unbase (R : Rep K G B σ H ρ O) (R' : Rep K G (B.at H O) σ' H' ρ' O') : Rep K G B σ' H' ρ' O' := by
  refine ⟨R.base_le.trans R'.same, R.cd, R'.hid, R'.dom, fun a z => (R'.vis a z).imp id fun y => R.base_le.free y, R'.fr, fun i p e => ?_, R'.inj, R'.len, fun i xs ys e => ?_⟩
  · obtain ⟨a, vs, e1, e2, e3, e4, e5⟩ := R'.ow i p e
    exact ⟨a, vs, e1, e2, R.base_le.free e3, e4, e5⟩
  · obtain ⟨D, a, b, q⟩ := R'.o2 i xs ys e
    exact ⟨D, a, b, q.at_, q.oD, q.oa, q.ob, R.base_le.free q.nD, R.base_le.free q.na, R.base_le.free q.nb, q.hD, q.ha, q.hb, q.ab, q.un, q.one⟩
/-- what was seen as a loop began is seen in it -/
theorem Rep.seen (R : Rep K G B σ H ρ O) (R' : Rep K G (B.at H O) σ' H' ρ' O') : Same (mn H O) (mn H' O') := fun b o z => by
  obtain ⟨c, e⟩ := mn_get z
  have z0 : (B.at H O).H0 b = some o := by rw [Bs.at_of (.inl c)]; exact e
  rw [mn_of]
  · exact R'.same b o z0
  · cases y : O' b with
    | false => rfl
    | true =>
      rcases R'.vis b y with y | y
      · rw [R.hid b y] at c; cases c
      · rw [z0] at y; cases y
end
/-! what stands in a slot -/
noncomputable def getI (ρ : En) (i : Nat) : Int := match ρ[i]? with
  | some (.fr (.int n)) => n
  | _ => 0
noncomputable def isI (ρ : En) (i : Nat) : Prop := ρ[i]? = some (.fr (.int (getI ρ i)))
noncomputable def getL (ρ : En) (i : Nat) : List Int := match ρ[i]? with
  | some (.fr (.ints ns)) => ns
  | some (.ow (.ints ns)) => ns
  | some (.fr (.scr ns)) => ns
  | _ => []
noncomputable def isL (ρ : En) (i : Nat) : Prop := ρ[i]? = some (.fr (.ints (getL ρ i)))
noncomputable def isO (ρ : En) (i : Nat) : Prop := ρ[i]? = some (.ow (.ints (getL ρ i)))
noncomputable def isLO (ρ : En) (i : Nat) : Prop := isL ρ i ∨ isO ρ i ∨ ρ[i]? = some (.fr (.scr (getL ρ i)))
noncomputable def getP (ρ : En) (i : Nat) : PV := match ρ[i]? with
  | some (.fr p) => p
  | some (.ow p) => p
  | _ => .non
noncomputable def isF (ρ : En) (i : Nat) : Prop := ρ[i]? = some (.fr (getP ρ i))
noncomputable def getS (ρ : En) (i : Nat) : Str := match ρ[i]? with
  | some (.fr (.str s)) => s
  | _ => Str.empty
noncomputable def isS (ρ : En) (i : Nat) : Prop := ρ[i]? = some (.fr (.str (getS ρ i)))
section
variable {K : PySem.W.Frag} {G : Gx} {B : Bs} {σ : L2.St} {H H' : Hp} {ρ : En} {O : Addr → Bool} {i : Nat}
/-- a list read, one's own or not -/
theorem Rep.readL (R : Rep K G B σ H ρ O) (h : isLO ρ i) : ∃ a, σ[i]? = some (some (.ref a)) ∧ SqL K H a ((getL ρ i).map V.int) := by
  rcases h with h | h | h
  · obtain ⟨v, e1, a, e2, e3⟩ := R.fr i _ h
    subst e2
    exact ⟨a, e1, .inl (same_rd mn_le e3)⟩
  · obtain ⟨a, vs, e1, e2, e3, e4, e5⟩ := R.ow i _ h
    subst e5
    exact ⟨a, e1, .inl (.inl e4)⟩
  · obtain ⟨v, e1, a, e2, e3⟩ := R.fr i _ h
    subst e2
    exact ⟨a, e1, mn_le.seq e3⟩
end
/-! ### expressions -/
noncomputable def tX (K : PySem.W.Frag) (G : Gx) (C : En → Prop) (g : En → PV) : TE := fun σ H Q => ∃ B ρ O, Rep K G B σ H ρ O ∧ C ρ ∧ ∀ v H', Same H H' → At K G (mn H' O) (g ρ) v → Q v H'
/-- a new list of numbers -/
noncomputable def tXl (K : PySem.W.Frag) (G : Gx) (C : En → Prop) (g : En → List Int) : TE := fun σ H Q => ∃ B ρ O, Rep K G B σ H ρ O ∧ C ρ ∧ ∀ a H', Same H H' → H a = none → H' a = some (.lst ((g ρ).map V.int)) → Q (.ref a) H'
/-- a new list of any values -/
noncomputable def tXp (K : PySem.W.Frag) (G : Gx) (C : En → Prop) (g : En → List PV) : TE := fun σ H Q => ∃ B ρ O, Rep K G B σ H ρ O ∧ C ρ ∧ ∀ a vs H', Same H H' → H a = none → H' a = some (.lst vs) → AtL K G (mn H' (hide a O)) (g ρ) vs → Q (.ref a) H'
noncomputable def tXs (K : PySem.W.Frag) (G : Gx) (C : En → Prop) (g : En → List PV) : TA := fun σ H Q => ∃ B ρ O, Rep K G B σ H ρ O ∧ C ρ ∧ ∀ vs H', Same H H' → AtL K G (mn H' O) (g ρ) vs → Q vs H'
noncomputable def tXT (K : PySem.W.Frag) (G : Gx) (C : En → Prop) (p : En → Prop) [∀ ρ, Decidable (p ρ)] : TT := fun σ H Q => ∃ B ρ O, Rep K G B σ H ρ O ∧ C ρ ∧ ∀ H', Same H H' → Q (decide (p ρ)) H'
noncomputable abbrev tXI (K : PySem.W.Frag) (G : Gx) (C : En → Prop) (g : En → Int) : TE := tX K G C fun ρ => .int (g ρ)
noncomputable abbrev tXL (K : PySem.W.Frag) (G : Gx) (C : En → Prop) (g : En → List Int) : TE := tX K G C fun ρ => .ints (g ρ)
noncomputable abbrev tXB (K : PySem.W.Frag) (G : Gx) (C : En → Prop) (p : En → Prop) [∀ ρ, Decidable (p ρ)] : TE := tX K G C fun ρ => .bl (decide (p ρ))
noncomputable abbrev tXS (K : PySem.W.Frag) (G : Gx) (C : En → Prop) (g : En → Str) : TE := tX K G C fun ρ => .str (g ρ)
section
variable {X : Cx} {G : Gx} {a b : Expr} {pos : Pos} {Ca Cb : En → Prop} {ga gb : En → Int} {i : Nat} {x : Str} {e : Expr} {t : TE} {C : En → Prop} {g : En → PV} {gl hl : En → List Int}
theorem toX (h : PE X e t) (k : ∀ B σ H ρ O Q, Rep X.K G B σ H ρ O → C ρ → (∀ v H', Same H H' → At X.K G (mn H' O) (g ρ) v → Q v H') → t σ H Q) : PE X e (tX X.K G C g) :=
  fun pins s σ H Q I ⟨B, ρ, O, R, c, q⟩ => h pins s σ H Q I (k B σ H ρ O Q R c q)
theorem toXl (h : PE X e t) (k : ∀ B σ H ρ O Q, Rep X.K G B σ H ρ O → C ρ → (∀ a H', Same H H' → H a = none → H' a = some (.lst ((gl ρ).map V.int)) → Q (.ref a) H') → t σ H Q) : PE X e (tXl X.K G C gl) :=
  fun pins s σ H Q I ⟨B, ρ, O, R, c, q⟩ => h pins s σ H Q I (k B σ H ρ O Q R c q)
/-- a new list, as a value -/
theorem newL (h : PE X e (tXl X.K G C gl)) : PE X e (tXL X.K G C gl) := toX h fun B σ H ρ O Q R c q => ⟨B, ρ, O, R, c, fun a H' s n e => q _ H' s ⟨a, rfl, .inl (by
  rw [mn_of]
  · exact e
  · cases z : O a with
    | false => rfl
    | true => exact absurd n (R.dom a z))⟩⟩
theorem newP (h : PE X e (tXp X.K G C gp)) : PE X e (tX X.K G C fun ρ => .lst (gp ρ)) := toX h fun B σ H ρ O Q R c q => ⟨B, ρ, O, R, c, fun a vs H' s n e al => q _ H' s ⟨a, vs, rfl, .inl (by
  rw [mn_of]
  · exact e
  · cases z : O a with
    | false => rfl
    | true => exact absurd n (R.dom a z)), AtL.mono (mn_anti hide_le) _ _ al⟩⟩
theorem xn_int : PE X (.Constant (.int n) j pos) (tXI X.K G (fun _ => True) fun _ => n) := toX pe_int fun _ _ H _ _ _ _ _ q => q _ H (Same.refl H) rfl
theorem xb_bl : PE X (.Constant (.bool n) j pos) (tX X.K G (fun _ => True) fun _ => .bl n) := toX pe_bl fun _ _ H _ _ _ _ _ q => q _ H (Same.refl H) rfl
theorem xv_non : PE X (.Constant .none j pos) (tX X.K G (fun _ => True) fun _ => .non) := toX pe_non fun _ _ H _ _ _ _ _ q => q _ H (Same.refl H) rfl
theorem xs_str : PE X (.Constant (.str n) j pos) (tXS X.K G (fun _ => True) fun _ => n) := toX pe_str fun _ _ H _ _ _ _ _ q => q _ H (Same.refl H) rfl
theorem xn_glob (hg : Gl X x) (hm : ∃ tk, X.mg x = some (.int n tk)) (hd : (x == ("__debug__" : Str)) = false := by decide) : PE X (.Name x pos) (tXI X.K G (fun _ => True) fun _ => n) :=
  let ⟨_, hm⟩ := hm; toX (pe_glob hg hm (v := .int n) ⟨_, rfl⟩ hd) fun _ _ H _ _ _ _ _ q => q _ H (Same.refl H) rfl
theorem xv_bltn (hg : Gl X x) (hm : X.mg x = none) (hv : bootBuiltins x = some (.type u)) (hn : x ≠ "__name__" := by decide) (hd : (x == ("__debug__" : Str)) = false := by decide) : PE X (.Name x pos) (tX X.K G (fun _ => True) fun _ => .ty u) :=
  toX (pe_bltn (v := .ty u) hg hm hv rfl hn hd) fun _ _ H _ _ _ _ _ q => q _ H (Same.refl H) rfl
theorem xv_glob (hg : Gl X x) (hm : X.mg x = some (.ref c)) (hd : (x == ("__debug__" : Str)) = false := by decide) : PE X (.Name x pos) (tX X.K G (fun _ => True) fun _ => .cls c) :=
  toX (pe_glob (v := .ref c) hg hm rfl hd) fun _ _ H _ _ _ _ _ q => q _ H (Same.refl H) rfl
theorem xv (i : Nat) (hN : X.N[i]? = some x := by rfl) (hv : Vis X.env.scope x := by first | exact Or.inl rfl | exact Or.inr (Or.inl rfl) | exact Or.inr (Or.inr rfl))
    (hd : (x == ("__debug__" : Str)) = false := by decide) (hcd : (x == ("__classdict__" : Str)) = false := by decide) : PE X (.Name x pos) (tX X.K G (fun ρ => isF ρ i) fun ρ => getP ρ i) :=
  toX (pe_var hN hv hd hcd) fun _ _ H _ _ _ R c q => let ⟨v, e, h⟩ := R.fr i _ c; ⟨v, e, q v H (Same.refl H) h⟩
theorem xn (i : Nat) (hN : X.N[i]? = some x := by rfl) (hv : Vis X.env.scope x := by first | exact Or.inl rfl | exact Or.inr (Or.inl rfl) | exact Or.inr (Or.inr rfl))
    (hd : (x == ("__debug__" : Str)) = false := by decide) (hcd : (x == ("__classdict__" : Str)) = false := by decide) : PE X (.Name x pos) (tXI X.K G (fun ρ => isI ρ i) fun ρ => getI ρ i) :=
  toX (pe_var hN hv hd hcd) fun _ _ H _ _ _ R c q => let ⟨v, e, h⟩ := R.fr i _ c; ⟨v, e, q v H (Same.refl H) h⟩
theorem xl (i : Nat) (hN : X.N[i]? = some x := by rfl) (hv : Vis X.env.scope x := by first | exact Or.inl rfl | exact Or.inr (Or.inl rfl) | exact Or.inr (Or.inr rfl))
    (hd : (x == ("__debug__" : Str)) = false := by decide) (hcd : (x == ("__classdict__" : Str)) = false := by decide) : PE X (.Name x pos) (tXL X.K G (fun ρ => isL ρ i) fun ρ => getL ρ i) :=
  toX (pe_var hN hv hd hcd) fun _ _ H _ _ _ R c q => let ⟨v, e, h⟩ := R.fr i _ c; ⟨v, e, q v H (Same.refl H) h⟩
theorem xr (i : Nat) (hN : X.N[i]? = some x := by rfl) (hv : Vis X.env.scope x := by first | exact Or.inl rfl | exact Or.inr (Or.inl rfl) | exact Or.inr (Or.inr rfl))
    (hd : (x == ("__debug__" : Str)) = false := by decide) (hcd : (x == ("__classdict__" : Str)) = false := by decide) : PE X (.Name x pos) (tX X.K G (fun ρ => ρ[i]? = some (.fr (.scr (getL ρ i)))) fun ρ => .scr (getL ρ i)) :=
  toX (pe_var hN hv hd hcd) fun _ _ H _ _ _ R c q => let ⟨v, e, h⟩ := R.fr i _ c; ⟨v, e, q v H (Same.refl H) h⟩
theorem xs (i : Nat) (hN : X.N[i]? = some x := by rfl) (hv : Vis X.env.scope x := by first | exact Or.inl rfl | exact Or.inr (Or.inl rfl) | exact Or.inr (Or.inr rfl))
    (hd : (x == ("__debug__" : Str)) = false := by decide) (hcd : (x == ("__classdict__" : Str)) = false := by decide) : PE X (.Name x pos) (tXS X.K G (fun ρ => isS ρ i) fun ρ => getS ρ i) :=
  toX (pe_var hN hv hd hcd) fun _ _ H _ _ _ R c q => let ⟨v, e, h⟩ := R.fr i _ c; ⟨v, e, q v H (Same.refl H) h⟩
/-- two values, one behind the other -/
theorem two {r : R2} {ga gb : En → PV} {σ : L2.St} {B : Bs} {O : Addr → Bool} (R : Rep X.K G B σ H ρ O) (ca : Ca ρ) (cb : Cb ρ) (q : ∀ v u H1 H2, Same H H1 → Same H1 H2 → At X.K G (mn H2 O) (ga ρ) v → At X.K G (mn H2 O) (gb ρ) u → r v u H2 Q) :
    tOp r (tX X.K G Ca ga) (tX X.K G Cb gb) σ H Q :=
  ⟨B, ρ, O, R, ca, fun v H1 s1 a1 => ⟨B, ρ, O, R.grow s1, cb, fun u H2 s2 a2 => q v u H1 H2 s1 s2 (At.mono (mn_same s2) _ _ a1) a2⟩⟩
theorem xn_op {op : Operator} {C : Int → Int → Prop} {g : Int → Int → Int} (ho : OpR X (binaryOp op) (rI C fun i j => .int (g i j))) (ha : PE X a (tXI X.K G Ca ga)) (hb : PE X b (tXI X.K G Cb gb)) :
    PE X (.BinOp a op b pos) (tXI X.K G (fun ρ => Ca ρ ∧ Cb ρ ∧ C (ga ρ) (gb ρ)) fun ρ => g (ga ρ) (gb ρ)) :=
  toX (pe_op ho ha hb) fun _ _ _ _ _ _ R c q => two R c.1 c.2.1 fun _ _ _ H2 s1 s2 a1 a2 => ⟨_, _, a1, a2, c.2.2, q _ H2 (s1.trans s2) rfl⟩
theorem xn_op0 {op : Operator} {g : Int → Int → Int} (ho : OpR X (binaryOp op) (rI0 fun i j => .int (g i j))) (ha : PE X a (tXI X.K G Ca ga)) (hb : PE X b (tXI X.K G Cb gb)) :
    PE X (.BinOp a op b pos) (tXI X.K G (fun ρ => Ca ρ ∧ Cb ρ) fun ρ => g (ga ρ) (gb ρ)) :=
  toX (pe_op ho ha hb) fun _ _ _ _ _ _ R c q => two R c.1 c.2 fun _ _ _ H2 s1 s2 a1 a2 => ⟨_, _, a1, a2, q _ H2 (s1.trans s2) rfl⟩
theorem xn_add (ha : PE X a (tXI X.K G Ca ga)) (hb : PE X b (tXI X.K G Cb gb)) : PE X (.BinOp a .Add b pos) (tXI X.K G (fun ρ => Ca ρ ∧ Cb ρ) fun ρ => ga ρ + gb ρ) := xn_op0 op_add ha hb
theorem xn_sub (ha : PE X a (tXI X.K G Ca ga)) (hb : PE X b (tXI X.K G Cb gb)) : PE X (.BinOp a .Sub b pos) (tXI X.K G (fun ρ => Ca ρ ∧ Cb ρ) fun ρ => ga ρ - gb ρ) := xn_op0 op_sub ha hb
theorem xn_mul (ha : PE X a (tXI X.K G Ca ga)) (hb : PE X b (tXI X.K G Cb gb)) : PE X (.BinOp a .Mult b pos) (tXI X.K G (fun ρ => Ca ρ ∧ Cb ρ ∧ IntMulOk (ga ρ) (gb ρ)) fun ρ => ga ρ * gb ρ) := xn_op op_mulB ha hb
theorem xn_mod (ha : PE X a (tXI X.K G Ca ga)) (hb : PE X b (tXI X.K G Cb gb)) : PE X (.BinOp a .Mod b pos) (tXI X.K G (fun ρ => Ca ρ ∧ Cb ρ ∧ 0 < gb ρ) fun ρ => ga ρ % gb ρ) := xn_op op_mod ha hb
theorem xn_div (ha : PE X a (tXI X.K G Ca ga)) (hb : PE X b (tXI X.K G Cb gb)) : PE X (.BinOp a .FloorDiv b pos) (tXI X.K G (fun ρ => Ca ρ ∧ Cb ρ ∧ CDivB (ga ρ) (gb ρ)) fun ρ => ga ρ / gb ρ) := xn_op op_fdivB ha hb
theorem xn_pow (ha : PE X a (tXI X.K G Ca ga)) (hb : PE X b (tXI X.K G Cb gb)) : PE X (.BinOp a .Pow b pos) (tXI X.K G (fun ρ => Ca ρ ∧ Cb ρ ∧ CPow (ga ρ) (gb ρ)) fun ρ => ga ρ ^ (gb ρ).toNat) := xn_op op_pow ha hb
theorem xn_neg (ha : PE X a (tXI X.K G Ca ga)) : PE X (.UnaryOp .USub a pos) (tXI X.K G Ca fun ρ => -ga ρ) :=
  toX (pe_un un_neg ha) fun B _ _ ρ O _ R c q => ⟨B, ρ, O, R, c, fun _ H1 s1 a1 => ⟨_, a1, q _ H1 s1 rfl⟩⟩
/-! tests -/
theorem xt_cmp {op : CmpOp} {p : Int → Int → Prop} [∀ i j, Decidable (p i j)] (ho : OpR X (compareOp op) (rI0 fun i j => .bl (decide (p i j)))) (hm : behindInMarks op b = false) (ha : PE X a (tXI X.K G Ca ga)) (hb : PE X b (tXI X.K G Cb gb)) :
    PT X (.Compare a [op] [b] pos) (tXT X.K G (fun ρ => Ca ρ ∧ Cb ρ) fun ρ => p (ga ρ) (gb ρ)) :=
  fun pins s σ H Q I ⟨_, _, _, R, c, q⟩ => pt_cmpR ho ha hb hm pins s σ H Q I (two R c.1 c.2 fun _ _ _ H2 s1 s2 a1 a2 => ⟨_, _, a1, a2, _, rfl, q H2 (s1.trans s2)⟩)
theorem xe_cmp {op : CmpOp} {p : Int → Int → Prop} [∀ i j, Decidable (p i j)] (ho : OpR X (compareOp op) (rI0 fun i j => .bl (decide (p i j)))) (hm : behindInMarks op b = false) (ha : PE X a (tXI X.K G Ca ga)) (hb : PE X b (tXI X.K G Cb gb)) :
    PE X (.Compare a [op] [b] pos) (tXB X.K G (fun ρ => Ca ρ ∧ Cb ρ) fun ρ => p (ga ρ) (gb ρ)) :=
  toX (pe_cmpR ho ha hb hm) fun _ _ _ _ _ _ R c q => two R c.1 c.2 fun _ _ _ H2 s1 s2 a1 a2 => ⟨_, _, a1, a2, q _ H2 (s1.trans s2) rfl⟩
theorem xt_lt (ha : PE X a (tXI X.K G Ca ga)) (hb : PE X b (tXI X.K G Cb gb)) : PT X (.Compare a [.Lt] [b] pos) (tXT X.K G (fun ρ => Ca ρ ∧ Cb ρ) fun ρ => ga ρ < gb ρ) := xt_cmp op_lt (nomark _) ha hb
theorem xt_le (ha : PE X a (tXI X.K G Ca ga)) (hb : PE X b (tXI X.K G Cb gb)) : PT X (.Compare a [.LtE] [b] pos) (tXT X.K G (fun ρ => Ca ρ ∧ Cb ρ) fun ρ => ga ρ ≤ gb ρ) := xt_cmp op_le (nomark _) ha hb
theorem xt_gt (ha : PE X a (tXI X.K G Ca ga)) (hb : PE X b (tXI X.K G Cb gb)) : PT X (.Compare a [.Gt] [b] pos) (tXT X.K G (fun ρ => Ca ρ ∧ Cb ρ) fun ρ => gb ρ < ga ρ) := xt_cmp (p := fun i j => j < i) op_gt (nomark _) ha hb
theorem xt_eq (ha : PE X a (tXI X.K G Ca ga)) (hb : PE X b (tXI X.K G Cb gb)) : PT X (.Compare a [.Eq] [b] pos) (tXT X.K G (fun ρ => Ca ρ ∧ Cb ρ) fun ρ => ga ρ = gb ρ) := xt_cmp op_eqI (nomark _) ha hb
theorem xt_ne (ha : PE X a (tXI X.K G Ca ga)) (hb : PE X b (tXI X.K G Cb gb)) : PT X (.Compare a [.NotEq] [b] pos) (tXT X.K G (fun ρ => Ca ρ ∧ Cb ρ) fun ρ => ¬ ga ρ = gb ρ) := xt_cmp (p := fun i j => ¬ i = j) op_neI (nomark _) ha hb
theorem xe_lt (ha : PE X a (tXI X.K G Ca ga)) (hb : PE X b (tXI X.K G Cb gb)) : PE X (.Compare a [.Lt] [b] pos) (tXB X.K G (fun ρ => Ca ρ ∧ Cb ρ) fun ρ => ga ρ < gb ρ) := xe_cmp op_lt (nomark _) ha hb
variable {pa pb : En → Prop} [∀ ρ, Decidable (pa ρ)] [∀ ρ, Decidable (pb ρ)] {rest : List Expr}
theorem xt_V (h : PE X e (tXB X.K G Ca pa)) (he : ∀ whole, isTrue e X.env whole = (do let v ← whole; standAt e.pos; holding [v] (truthy v)) := by intro _; rfl) : PT X e (tXT X.K G Ca pa) :=
  fun pins s σ H Q I ⟨B, ρ, O, R, c, q⟩ => pt_val h he pins s σ H Q I ⟨B, ρ, O, R, c, fun _ H1 s1 a1 => ⟨_, a1, q H1 s1⟩⟩
theorem xt_not (ha : PT X a (tXT X.K G Ca pa)) : PT X (.UnaryOp .Not a pos) (tXT X.K G Ca fun ρ => ¬ pa ρ) :=
  fun pins s σ H Q I ⟨B, ρ, O, R, c, q⟩ => L2.pt_not ha pins s σ H Q I ⟨B, ρ, O, R, c, fun H1 s1 => by have z := q H1 s1; rw [decide_not] at z; exact z⟩
theorem xw_or1 (ha : PT X a (tXT X.K G Ca pa)) : PW X (.BoolOp .Or [a] pos) (tXT X.K G Ca pa) := pw_or1 ha
theorem xw_and1 (ha : PT X a (tXT X.K G Ca pa)) : PW X (.BoolOp .And [a] pos) (tXT X.K G Ca pa) := pw_and1 ha
theorem xw_or (ha : PT X a (tXT X.K G Ca pa)) (hb : PW X (.BoolOp .Or (b :: rest) pos) (tXT X.K G Cb pb)) : PW X (.BoolOp .Or (a :: b :: rest) pos) (tXT X.K G (fun ρ => Ca ρ ∧ (¬ pa ρ → Cb ρ)) fun ρ => pa ρ ∨ pb ρ) :=
  fun wh pins s σ H Q I ⟨B, ρ, O, R, c, q⟩ => pw_or ha hb wh pins s σ H Q I ⟨B, ρ, O, R, c.1, fun H1 s1 => by
    by_cases d : pa ρ
    · have z := q H1 s1
      rw [decide_eq_true (Or.inl d : pa ρ ∨ pb ρ)] at z
      rw [decide_eq_true d]; refine iteT ?_; exact z
    · rw [decide_eq_false d]; refine iteF ?_
      refine ⟨B, ρ, O, R.grow s1, c.2 d, fun H2 s2 => ?_⟩
      have z := q H2 (s1.trans s2)
      have e : decide (pa ρ ∨ pb ρ) = decide (pb ρ) := by simp [d]
      rw [e] at z; exact z⟩
theorem xw_and (ha : PT X a (tXT X.K G Ca pa)) (hb : PW X (.BoolOp .And (b :: rest) pos) (tXT X.K G Cb pb)) : PW X (.BoolOp .And (a :: b :: rest) pos) (tXT X.K G (fun ρ => Ca ρ ∧ (pa ρ → Cb ρ)) fun ρ => pa ρ ∧ pb ρ) :=
  fun wh pins s σ H Q I ⟨B, ρ, O, R, c, q⟩ => pw_and ha hb wh pins s σ H Q I ⟨B, ρ, O, R, c.1, fun H1 s1 => by
    by_cases d : pa ρ
    · rw [decide_eq_true d]; refine iteT ?_
      refine ⟨B, ρ, O, R.grow s1, c.2 d, fun H2 s2 => ?_⟩
      have z := q H2 (s1.trans s2)
      have e : decide (pa ρ ∧ pb ρ) = decide (pb ρ) := by simp [d]
      rw [e] at z; exact z
    · have z := q H1 s1
      rw [decide_eq_false (fun y => d y.1 : ¬ (pa ρ ∧ pb ρ))] at z
      rw [decide_eq_false d]; refine iteF ?_; exact z⟩
theorem xe_not (ha : PE X a (tXB X.K G Ca pa)) : PE X (.UnaryOp .Not a pos) (tXB X.K G Ca fun ρ => ¬ pa ρ) :=
  toX (pe_not ha) fun B _ _ ρ O _ R c q => ⟨B, ρ, O, R, c, fun _ H1 s1 a1 => ⟨_, a1, q _ H1 s1 (by rw [decide_not]; rfl)⟩⟩
theorem xe_and (ha : PE X a (tXB X.K G Ca pa)) (hb : PE X (.BoolOp .And (b :: rest) pos) (tXB X.K G Cb pb)) : PE X (.BoolOp .And (a :: b :: rest) pos) (tXB X.K G (fun ρ => Ca ρ ∧ (pa ρ → Cb ρ)) fun ρ => pa ρ ∧ pb ρ) :=
  toX (pe_and ha hb) fun B _ _ ρ O _ R c q => ⟨B, ρ, O, R, c.1, fun _ H1 s1 a1 => ⟨_, a1, by
    by_cases d : pa ρ
    · rw [decide_eq_true d]; refine iteT ?_
      refine ⟨B, ρ, O, R.grow s1, c.2 d, fun v H2 s2 a2 => q v H2 (s1.trans s2) ?_⟩
      have e : decide (pa ρ ∧ pb ρ) = decide (pb ρ) := by simp [d]
      rw [e]; exact a2
    · have z := q (.bl false) H1 s1 (by rw [decide_eq_false (fun y => d y.1 : ¬ (pa ρ ∧ pb ρ))]; rfl)
      rw [decide_eq_false d]; refine iteF ?_; exact z⟩⟩
/-! several values -/
variable {es : List Expr} {gs : En → List PV}
theorem xa_nil : PA X [] (tXs X.K G (fun _ => True) fun _ => []) := fun pos pins s σ H Q I ⟨_, _, _, _, _, q⟩ => pa_nil pos pins s σ H Q I (q [] H (Same.refl H) rfl)
theorem xa_cons (ha : PE X e (tX X.K G Ca g)) (hr : PA X es (tXs X.K G Cb gs)) (hs : starEach (e :: es) X.env = (false, eval e X.env) :: starEach es X.env := by rfl) : PA X (e :: es) (tXs X.K G (fun ρ => Ca ρ ∧ Cb ρ) fun ρ => g ρ :: gs ρ) :=
  fun pos pins s σ H Q I ⟨B, ρ, O, R, c, q⟩ => pa_cons ha hr hs pos pins s σ H Q I ⟨B, ρ, O, R, c.1, fun v H1 s1 a1 => ⟨B, ρ, O, R.grow s1, c.2, fun vs H2 s2 a2 => q _ H2 (s1.trans s2) ⟨v, vs, rfl, At.mono (mn_same s2) _ _ a1, a2⟩⟩⟩
end
end L3

/-! ### statements over pure values -/
namespace L3
open PySem PySem.Spec PyProof.Rows L2
structure Ps where
  nx : En → Prop
  rt : PV → Prop
  rl : List Int → Prop := fun _ => False
  rn : PV → Prop := fun _ => False
  bk : En → Prop := fun _ => False
  ct : En → Prop := fun _ => False
  er : Addr → Prop := fun _ => False
noncomputable abbrev Ps.sq (P : Ps) (k : En → Prop) : Ps := { P with nx := k }
noncomputable abbrev Ps.lp (P : Ps) (k : En → Prop) : Ps := { P with nx := k, ct := k, bk := P.nx }
/-- what an error, by its class, owes -/
noncomputable abbrev ER := Addr → Hp → Prop
noncomputable abbrev ER0 : ER := fun _ _ => False
noncomputable abbrev FS := Ps → En → Prop
noncomputable def RepE (K : PySem.W.Frag) (G : Gx) (B : Bs) (σ : L2.St) (H : Hp) (ρ : En) : Prop := ∃ O, Rep K G B σ H ρ O
/-- what the ends of a pure reading owe to the ends of the machine's -/
structure Owe (K : PySem.W.Frag) (G : Gx) (Er : ER) (B : Bs) (P : Ps) (D : Ends) : Prop where
  nx : ∀ σ H ρ, RepE K G B σ H ρ → P.nx ρ → D.nx σ H
  rt : ∀ v H p, Same B.H0 H → At K G (mn H B.Oc) p v → P.rt p → D.rt v H
  rl : ∀ a H ns, Same B.H0 H → B.H0 a = none → H a = some (.lst (ns.map V.int)) → P.rl ns → D.rt (.ref a) H
  rn : ∀ v H p, Same B.H0 H → At K G (mn H fun a => (B.H0 a).isSome) p v → P.rn p → D.rt v H
  bk : ∀ σ H ρ, RepE K G B σ H ρ → P.bk ρ → D.bk σ H
  ct : ∀ σ H ρ, RepE K G B σ H ρ → P.ct ρ → D.ct σ H
  er : ∀ H C, Same B.H0 H → P.er C → Er C H
noncomputable def ts (K : PySem.W.Frag) (G : Gx) (Er : ER) (f : FS) : TS := fun D σ H => ∃ B ρ P, RepE K G B σ H ρ ∧ f P ρ ∧ Owe K G Er B P D
section
variable {X : Cx} {G : Gx} {Er : ER} {pos : Pos} {st : Stmt} {sts : List Stmt} {f f1 f2 : FS} {C : En → Prop} {e : Expr} {t : TS}
theorem toS (h : PS X st t) (k : ∀ B σ H ρ O P D, Rep X.K G B σ H ρ O → f P ρ → Owe X.K G Er B P D → t D σ H) : PS X st (ts X.K G Er f) :=
  fun pins s σ H D I ⟨B, ρ, P, ⟨O, R⟩, c, w⟩ => h pins s σ H D I (k B σ H ρ O P D R c w)
theorem xss_nil : PSs X [] (ts X.K G Er fun P ρ => P.nx ρ) := fun pins s σ H D I ⟨_, ρ, _, R, c, w⟩ => pss_nil pins s σ H D I (w.nx σ H ρ R c)
theorem xss_one (h : PS X st (ts X.K G Er f)) : PSs X [st] (ts X.K G Er f) := pss_one h
theorem xss_cons (h1 : PS X st (ts X.K G Er f1)) (h2 : PSs X sts (ts X.K G Er f2)) : PSs X (st :: sts) (ts X.K G Er fun P ρ => f1 (P.sq (f2 P)) ρ) :=
  fun pins s σ H D I ⟨B, ρ, P, R, c, w⟩ => pss_cons h1 h2 pins s σ H D I ⟨B, ρ, { P with nx := f2 P }, R, c, ⟨fun _ _ ρ' R' c' => ⟨B, ρ', P, R', c', w⟩, w.rt, w.rl, w.rn, w.bk, w.ct, w.er⟩⟩
/-- the same, with a word J for what is true between the two -/
theorem xss_join (h1 : PS X st (ts X.K G Er f1)) (h2 : PSs X sts (ts X.K G Er f2)) : PSs X (st :: sts) (ts X.K G Er fun P ρ => ∃ J : En → Prop, f1 (P.sq J) ρ ∧ ∀ ρ', J ρ' → f2 P ρ') :=
  fun pins s σ H D I ⟨B, ρ, P, R, ⟨J, c, k⟩, w⟩ => pss_cons h1 h2 pins s σ H D I ⟨B, ρ, { P with nx := J }, R, c, ⟨fun _ _ ρ' R' c' => ⟨B, ρ', P, R', k ρ' c', w⟩, w.rt, w.rl, w.rn, w.bk, w.ct, w.er⟩⟩
/-- from here on the list in slot i is not changed -/
theorem xss_freeze (i : Nat) (h : PSs X sts (ts X.K G Er f)) : PSs X sts (ts X.K G Er fun P ρ => f P (frz ρ i)) :=
  fun pins s σ H D I ⟨B, ρ, P, ⟨_, R⟩, c, w⟩ => h pins s σ H D I ⟨B, frz ρ i, P, R.freeze i, c, w⟩
theorem xst_never : PS X st (ts X.K G Er fun _ _ => False) := toS ps_never fun _ _ _ _ _ _ _ _ c _ => c
theorem xst_ret (h : PE X e (tX X.K G C g)) : PS X (.Return (some e) pos) (ts X.K G Er fun P ρ => C ρ ∧ P.rt (g ρ)) :=
  toS (ps_ret h) fun B _ _ ρ O _ _ R c w => ⟨B, ρ, O, R, c.1, fun v H1 s1 a1 => w.rt v H1 _ (R.same.trans s1) (At.mono (mn_anti R.hid) _ _ a1) c.2⟩
theorem xst_retO (i : Nat) (hN : X.N[i]? = some x := by rfl) (hv : Vis X.env.scope x := by first | exact Or.inl rfl | exact Or.inr (Or.inl rfl) | exact Or.inr (Or.inr rfl))
    (hd : (x == ("__debug__" : Str)) = false := by decide) (hcd : (x == ("__classdict__" : Str)) = false := by decide) : PS X (.Return (some (.Name x px)) pos) (ts X.K G Er fun P ρ => isO ρ i ∧ P.rl (getL ρ i)) :=
  toS (ps_ret (pe_var hN hv hd hcd)) fun B _ H ρ O _ _ R c w => by
    obtain ⟨a, vs, e1, e2, e3, e4, e5⟩ := R.ow i _ c.1
    have e5 : vs = (getL ρ i).map V.int := e5
    subst e5
    exact ⟨_, e1, w.rl a H _ R.same e3 e4 c.2⟩
/-- x = a value, a number, a list of numbers that is not changed later -/
theorem xst_set (hN : X.N.Nodup) (hi : X.N[i]? = some x) (hx : Loc X.env.scope x) (he : PE X e (tX X.K G C g)) (hs : swapsWith e (some (.Name x pos')) pos.line X.env = pure false := by rfl)
    (hf : X.fn x = true ∨ X.env.scope.names.lookup x = some .local := by first | exact .inl rfl | exact .inr rfl | assumption) : PS X (.Assign [.Name x pos'] e pos) (ts X.K G Er fun P ρ => C ρ ∧ P.nx (ρ.set i (.fr (g ρ)))) :=
  toS (ps_set hN hi hx he hs hf) fun B σ _ ρ O _ _ R c w => ⟨B, ρ, O, R, c.1, fun _ H1 s1 a1 => w.nx _ H1 _ ⟨O, (R.grow s1).set a1⟩ c.2⟩
theorem xst_setP (hN : X.N.Nodup) (hi : X.N[i]? = some x) (hx : Loc X.env.scope x) (he : PE X e (tX X.K G C g)) (hs : swapsWith e (some (.Name x pos')) pos.line X.env = pure false := by rfl)
    (hf : X.fn x = true ∨ X.env.scope.names.lookup x = some .local := by first | exact .inl rfl | exact .inr rfl | assumption) : PS X (.Assign [.Name x pos'] e pos) (ts X.K G Er fun P ρ => C ρ ∧ ∀ p, p = g ρ → P.nx (ρ.set i (.fr p))) :=
  toS (xst_set hN hi hx he hs hf) fun B σ _ ρ O P D R c w => ⟨B, ρ, P, ⟨O, R⟩, ⟨c.1, c.2 _ rfl⟩, w⟩
theorem xst_setI (hN : X.N.Nodup) (hi : X.N[i]? = some x) (hx : Loc X.env.scope x) (he : PE X e (tXI X.K G C g)) (hs : swapsWith e (some (.Name x pos')) pos.line X.env = pure false := by rfl)
    (hf : X.fn x = true ∨ X.env.scope.names.lookup x = some .local := by first | exact .inl rfl | exact .inr rfl | assumption) : PS X (.Assign [.Name x pos'] e pos) (ts X.K G Er fun P ρ => C ρ ∧ ∀ n, n = g ρ → P.nx (ρ.set i (.fr (.int n)))) :=
  toS (xst_set hN hi hx he hs hf) fun B σ _ ρ O P D R c w => ⟨B, ρ, P, ⟨O, R⟩, ⟨c.1, c.2 _ rfl⟩, w⟩
theorem xst_setL (hN : X.N.Nodup) (hi : X.N[i]? = some x) (hx : Loc X.env.scope x) (he : PE X e (tXL X.K G C g)) (hs : swapsWith e (some (.Name x pos')) pos.line X.env = pure false := by rfl)
    (hf : X.fn x = true ∨ X.env.scope.names.lookup x = some .local := by first | exact .inl rfl | exact .inr rfl | assumption) : PS X (.Assign [.Name x pos'] e pos) (ts X.K G Er fun P ρ => C ρ ∧ ∀ ns, ns = g ρ → P.nx (ρ.set i (.fr (.ints ns)))) :=
  toS (xst_set hN hi hx he hs hf) fun B σ _ ρ O P D R c w => ⟨B, ρ, P, ⟨O, R⟩, ⟨c.1, c.2 _ rfl⟩, w⟩
/-- x = a new list of numbers, one's own from here on -/
theorem xst_own (hN : X.N.Nodup) (hi : X.N[i]? = some x) (hx : Loc X.env.scope x) (he : PE X e (tXl X.K G C g)) (hs : swapsWith e (some (.Name x pos')) pos.line X.env = pure false := by rfl)
    (hf : X.fn x = true ∨ X.env.scope.names.lookup x = some .local := by first | exact .inl rfl | exact .inr rfl | assumption) : PS X (.Assign [.Name x pos'] e pos) (ts X.K G Er fun P ρ => C ρ ∧ ∀ ns, ns = g ρ → P.nx (ρ.set i (.ow (.ints ns)))) :=
  toS (ps_set hN hi hx he hs hf) fun B σ _ ρ O _ _ R c w => ⟨B, ρ, O, R, c.1, fun a H1 s1 n1 e1 => w.nx _ H1 _ ⟨hide a O, R.new (p := .ints (g ρ)) s1 n1 e1 rfl⟩ (c.2 _ rfl)⟩
theorem xst_ownP (hN : X.N.Nodup) (hi : X.N[i]? = some x) (hx : Loc X.env.scope x) (he : PE X e (tXp X.K G C g)) (hs : swapsWith e (some (.Name x pos')) pos.line X.env = pure false := by rfl)
    (hf : X.fn x = true ∨ X.env.scope.names.lookup x = some .local := by first | exact .inl rfl | exact .inr rfl | assumption) : PS X (.Assign [.Name x pos'] e pos) (ts X.K G Er fun P ρ => C ρ ∧ ∀ ns, ns = g ρ → P.nx (ρ.set i (.ow (.lst ns)))) :=
  toS (ps_set hN hi hx he hs hf) fun B σ _ ρ O _ _ R c w => ⟨B, ρ, O, R, c.1, fun a vs H1 s1 n1 e1 al => w.nx _ H1 _ ⟨hide a O, R.new (p := .lst (g ρ)) s1 n1 e1 al⟩ (c.2 _ rfl)⟩
theorem xst_if [∀ ρ, Decidable (p ρ)] (hc : PT X c (tXT X.K G C p)) (ha : PSs X a (ts X.K G Er f1)) (hb : PSs X b (ts X.K G Er f2)) : PS X (.If c a b pos) (ts X.K G Er fun P ρ => C ρ ∧ (p ρ → f1 P ρ) ∧ (¬ p ρ → f2 P ρ)) :=
  toS (ps_if hc ha hb) fun B σ _ ρ O P D R c w => ⟨B, ρ, O, R, c.1, fun H1 s1 => by
    by_cases d : p ρ
    · rw [decide_eq_true d]; refine iteT ?_; exact ⟨B, ρ, P, ⟨O, R.grow s1⟩, c.2.1 d, w⟩
    · rw [decide_eq_false d]; refine iteF ?_; exact ⟨B, ρ, P, ⟨O, R.grow s1⟩, c.2.2 d, w⟩⟩
theorem xst_while [∀ ρ, Decidable (p ρ)] (hp : PassesOwn (model X.prog X.w) X.A X.env X.xe) (hc : PT X c (tXT X.K G C p)) (hb : PSs X body (ts X.K G Er f)) :
    PS X (.While c body [] pos) (ts X.K G Er fun P ρ => ∃ (W : En → Prop) (μ : En → Nat), W ρ ∧ ∀ ρ, W ρ → C ρ ∧ (p ρ → f (P.lp fun ρ' => W ρ' ∧ μ ρ' < μ ρ) ρ) ∧ (¬ p ρ → P.nx ρ)) :=
  toS (ps_while hp hc hb) fun B σ H ρ O P D R c w => by
    obtain ⟨W, μ, w0, st⟩ := c
    refine ⟨fun m σ H => ∃ ρ, RepE X.K G B σ H ρ ∧ W ρ ∧ m = μ ρ, ⟨μ ρ, ρ, ⟨O, R⟩, w0, rfl⟩, ?_⟩
    rintro m σ H ⟨ρ, ⟨O, R⟩, hw, rfl⟩
    obtain ⟨c1, c2, c3⟩ := st ρ hw
    refine ⟨B, ρ, O, R, c1, fun H1 s1 => ?_⟩
    by_cases d : p ρ
    · rw [decide_eq_true d]; refine iteT ?_
      refine ⟨fun σ' H' => ∃ ρ', RepE X.K G B σ' H' ρ' ∧ W ρ' ∧ μ ρ' < μ ρ, fun σ' H' ⟨ρ', R', h1, h2⟩ => ⟨_, h2, ρ', R', h1, rfl⟩, B, ρ, _, ⟨O, R.grow s1⟩, c2 d, ⟨fun σ' H' ρ' R' h => ⟨ρ', R', h⟩, w.rt, w.rl, w.rn, w.nx, fun σ' H' ρ' R' h => ⟨ρ', R', h⟩, w.er⟩⟩
    · rw [decide_eq_false d]; refine iteF ?_; exact w.nx σ H1 ρ ⟨O, R.grow s1⟩ (c3 d)
theorem owe_base {B : Bs} {σ : L2.St} {H : Hp} {ρ : En} {O : Addr → Bool} {K : PySem.W.Frag} {P : Ps} {D : Ends} (R : Rep K G B σ H ρ O) (w : Owe K G Er B P D) : Owe K G Er (B.at H O) P D :=
  ⟨fun σ' H' ρ' ⟨O', R'⟩ h => w.nx σ' H' ρ' ⟨O', R.unbase R'⟩ h, fun v H' p s a h => w.rt v H' p (R.base_le.trans s) a h, fun a H' ns s n e h => w.rl a H' ns (R.base_le.trans s) (R.base_le.free n) e h, fun v H' p s a h => w.rn v H' p (R.base_le.trans s) (At.mono (mn_anti fun b z => by
    obtain ⟨o, e⟩ := Option.isSome_iff_exists.mp z
    exact Option.isSome_iff_exists.mpr (R.base_le _ _ e).some) _ _ a) h, fun σ' H' ρ' ⟨O', R'⟩ h => w.bk σ' H' ρ' ⟨O', R.unbase R'⟩ h, fun σ' H' ρ' ⟨O', R'⟩ h => w.ct σ' H' ρ' ⟨O', R.unbase R'⟩ h, fun H' C s h => w.er H' C (R.base_le.trans s) h⟩
end
end L3

/-! ### lists, calls, changes over pure values -/
namespace L3
open PySem PySem.Spec PyProof.Rows L2
theorem getD_at {ns : List Int} {i : Int} (h1 : -(ns.length : Int) ≤ i) (h2 : i < ns.length) : atI (ns.map V.int) i = some (V.int (ns.getD (if 0 ≤ i then i else i + ns.length).toNat 0)) := by
  by_cases c0 : 0 ≤ i
  · rw [if_pos c0]; exact atI_int c0 h2
  · rw [if_neg c0]
    have q2 := atI_int (ns := ns) (i := i + ns.length) (by omega) (by omega)
    unfold atI ixN at q2 ⊢
    rw [List.length_map] at q2 ⊢
    rw [if_pos (show 0 ≤ i + (ns.length : Int) by omega), if_pos (show i + (ns.length : Int) < (ns.length : Int) by omega)] at q2
    rw [if_neg c0, if_pos h1]
    exact q2
/-- the place that an index means -/
noncomputable def ixO (n : Nat) (i : Int) : Nat := (if 0 ≤ i then i else i + n).toNat
theorem ixN_ok {n : Nat} (h1 : -(n : Int) ≤ i) (h2 : i < n) : ixN n i = some (ixO n i) := by
  unfold ixN ixO
  by_cases c : 0 ≤ i
  · rw [if_pos c, if_pos h2, if_pos c]
  · rw [if_neg c, if_pos h1, if_neg c]
theorem ixO_lt {n : Nat} (h1 : -(n : Int) ≤ i) (h2 : i < n) : ixO n i < n := by
  unfold ixO
  by_cases c : 0 ≤ i
  · rw [if_pos c]; omega
  · rw [if_neg c]; omega
section
variable {X : Cx} {G : Gx} {Er : ER} {a b e : Expr} {pos p px : Pos} {C Ca Cb : En → Prop} {ga gb : En → Int} {i : Nat} {es : List Expr}
/-- x[k], x a list of numbers -/
theorem xn_item (i : Nat) (hb : PE X b (tXI X.K G Cb gb)) (hs : PlainIx b) (hN : X.N[i]? = some x := by rfl) (hv : Vis X.env.scope x := by first | exact Or.inl rfl | exact Or.inr (Or.inl rfl) | exact Or.inr (Or.inr rfl))
    (hd : (x == ("__debug__" : Str)) = false := by decide) (hcd : (x == ("__classdict__" : Str)) = false := by decide) :
    PE X (.Subscript (.Name x px) b pos) (tXI X.K G (fun ρ => isLO ρ i ∧ Cb ρ ∧ -((getL ρ i).length : Int) ≤ gb ρ ∧ gb ρ < ((getL ρ i).length : Int)) fun ρ => (getL ρ i).getD (ixO (getL ρ i).length (gb ρ)) 0) :=
  toX (pe_ix ix_list (pe_var hN hv hd hcd) hb hs) fun B σ H ρ O Q R c q => by
    obtain ⟨a, e1, e2⟩ := R.readL c.1
    exact ⟨_, e1, B, ρ, O, R, c.2.1, fun u H1 s1 a1 => ⟨a, _, _, _, rfl, a1, s1.seq e2, getD_at c.2.2.1 c.2.2.2, q _ H1 s1 rfl⟩⟩
theorem xn_len (i : Nat) (hm : X.mg "len" = none) (hN : X.N[i]? = some x := by rfl) (hg : Gl X "len" := by rfl) (hv : Vis X.env.scope x := by first | exact Or.inl rfl | exact Or.inr (Or.inl rfl) | exact Or.inr (Or.inr rfl))
    (hd : (x == ("__debug__" : Str)) = false := by decide) (hcd : (x == ("__classdict__" : Str)) = false := by decide) (he : starEach [.Name x px] X.env = [(false, eval (.Name x px) X.env)] := by rfl) :
    PE X (.Call (.Name "len" p) [.Name x px] [] pos) (tXI X.K G (fun ρ => isLO ρ i) fun ρ => ((getL ρ i).length : Int)) :=
  toX (pe_callB call_len_seq hg hm bt_len (pa_cons (pe_var hN hv hd hcd) pa_nil he) (by decide) (by decide) he rfl) fun B σ H ρ O Q R c q => by
    obtain ⟨a, e1, e2⟩ := R.readL c
    exact ⟨_, e1, a, _, rfl, .inl e2, by rw [List.length_map]; exact q _ H (Same.refl H) rfl⟩
/-- len of any list or tuple -/
noncomputable def lenP : PV → Int
  | .ints ns => (ns.length : Int)
  | .scr ns => (ns.length : Int)
  | .lst xs => (xs.length : Int)
  | .tup xs => (xs.length : Int)
  | _ => 0
noncomputable def hasLen : PV → Prop
  | .ints _ => True
  | .scr _ => True
  | .lst _ => True
  | .tup _ => True
  | _ => False
theorem At.len {K : PySem.W.Frag} {H : Hp} {p : PV} {v : V} (h : At K G H p v) (hl : hasLen p) : ∃ a ys, v = .ref a ∧ (SqL K H a ys ∨ SqT K H a ys) ∧ (ys.length : Int) = lenP p := by
  cases p <;> first | exact hl.elim | skip
  · obtain ⟨a, e, q⟩ := h; exact ⟨a, _, e, .inl (.inl q), by rw [List.length_map]; rfl⟩
  · obtain ⟨a, e, q⟩ := h; exact ⟨a, _, e, .inl q, by rw [List.length_map]; rfl⟩
  · obtain ⟨a, vs, e, q, r⟩ := h; exact ⟨a, vs, e, .inl (.inl q), by rw [← r.length]; rfl⟩
  · obtain ⟨a, vs, e, q, r⟩ := h; exact ⟨a, vs, e, .inr (SqT.of q), by rw [← r.length]; rfl⟩
theorem xn_lenP {g : En → PV} (hm : X.mg "len" = none) (ha : PE X a (tX X.K G C g)) (hg : Gl X "len" := by rfl) (he : starEach [a] X.env = [(false, eval a X.env)] := by rfl) :
    PE X (.Call (.Name "len" p) [a] [] pos) (tXI X.K G (fun ρ => C ρ ∧ hasLen (g ρ)) fun ρ => lenP (g ρ)) :=
  toX (pe_callB call_len_seq hg hm bt_len (pa_cons ha pa_nil he) (by decide) (by decide) he rfl) fun B σ H ρ O Q R c q => ⟨B, ρ, O, R, c.1, fun v H1 s1 a1 => by
    obtain ⟨a, ys, e, s, l⟩ := a1.len c.2
    exact ⟨a, ys, by rw [e], s.imp (fun z => mn_le.seq z) (fun z => same_tup mn_le z), by rw [l]; exact q _ H1 s1 rfl⟩⟩
/-- an item of a list or tuple of values -/
noncomputable def itP : PV → Int → PV
  | .lst xs, k => xs.getD (ixO xs.length k) .non
  | .tup xs, k => xs.getD (ixO xs.length k) .non
  | .ints ns, k => .int (ns.getD (ixO ns.length k) 0)
  | _, _ => .non
noncomputable def hasIt : PV → Int → Prop
  | .lst xs, k => -(xs.length : Int) ≤ k ∧ k < xs.length
  | .tup xs, k => -(xs.length : Int) ≤ k ∧ k < xs.length
  | .ints xs, k => -(xs.length : Int) ≤ k ∧ k < xs.length
  | _, _ => False
theorem AtL.item {K : PySem.W.Frag} {H : Hp} {ps : List PV} {vs : List V} {k : Int} (h : AtL K G H ps vs) (h1 : -(ps.length : Int) ≤ k) (h2 : k < ps.length) : ∃ v, atI vs k = some v ∧ At K G H (ps.getD (ixO ps.length k) .non) v := by
  have l := ixO_lt h1 h2
  have e : ps[ixO ps.length k]? = some (ps.getD (ixO ps.length k) .non) := by rw [List.getD_eq_getElem?_getD, List.getElem?_eq_getElem l]; rfl
  obtain ⟨v, ev, av⟩ := h.at e
  refine ⟨v, ?_, av⟩
  unfold atI
  rw [← h.length, ixN_ok h1 h2]
  exact ev
theorem xp_item {g : En → PV} (ha : PE X a (tX X.K G Ca g)) (hb : PE X b (tXI X.K G Cb gb)) (hs : PlainIx b) : PE X (.Subscript a b pos) (tX X.K G (fun ρ => Ca ρ ∧ Cb ρ ∧ hasIt (g ρ) (gb ρ)) fun ρ => itP (g ρ) (gb ρ)) :=
  toX (pe_ix ix_seq ha hb hs) fun B σ H ρ O Q R c q => two R c.1 c.2.1 fun v u H1 H2 s1 s2 a1 a2 => by
    have h := c.2.2
    revert a1 h q
    generalize g ρ = pg
    intro q a1 h
    cases pg <;> first | exact h.elim | skip
    · obtain ⟨p, e, r⟩ := a1
      exact .inl ⟨p, _, _, _, e, a2, .inl (same_rd mn_le r), getD_at h.1 h.2, q _ H2 (s1.trans s2) rfl⟩
    · obtain ⟨p, vs, e, r, t⟩ := a1
      obtain ⟨v', e', a'⟩ := t.item h.1 h.2
      exact .inl ⟨p, vs, _, v', e, a2, .inl (same_rd mn_le r), e', q _ H2 (s1.trans s2) a'⟩
    · obtain ⟨p, vs, e, r, t⟩ := a1
      obtain ⟨v', e', a'⟩ := t.item h.1 h.2
      exact .inr (.inl ⟨p, vs, _, v', e, a2, SqT.of (mn_le _ _ r), e', q _ H2 (s1.trans s2) a'⟩)
/-- the truth of a list's name -/
theorem xt_list (i : Nat) (hN : X.N[i]? = some x := by rfl) (hv : Vis X.env.scope x := by first | exact Or.inl rfl | exact Or.inr (Or.inl rfl) | exact Or.inr (Or.inr rfl))
    (hd : (x == ("__debug__" : Str)) = false := by decide) (hcd : (x == ("__classdict__" : Str)) = false := by decide) : PT X (.Name x pos) (tXT X.K G (fun ρ => isLO ρ i) fun ρ => ¬ getL ρ i = []) :=
  fun pins s σ H Q I ⟨B, ρ, O, R, c, q⟩ => pt_truth (pe_var hN hv hd hcd) (fun _ => rfl) pins s σ H Q I (by
    obtain ⟨a, e1, e2⟩ := R.readL c
    refine ⟨_, e1, _, .inl ⟨_, e2, rfl⟩, ?_⟩
    have z := q H (Same.refl H)
    have e : (!((getL ρ i).map V.int).isEmpty) = decide (¬ getL ρ i = []) := by cases getL ρ i <;> simp
    rw [e]; exact z)
/-- [a, b, ..] of numbers -/
noncomputable def allI : List PV → List Int
  | .int n :: r => n :: allI r
  | _ => []
noncomputable def areI : List PV → Prop
  | [] => True
  | .int _ :: r => areI r
  | _ => False
theorem AtL.ints {K : PySem.W.Frag} {H : Hp} : ∀ {ps : List PV} {vs : List V}, AtL K G H ps vs → areI ps → vs = (allI ps).map V.int
  | [], _, h, _ => h
  | p :: ps, _, h, c => by
    cases p <;> first | exact c.elim | skip
    obtain ⟨v, r, rfl, e, t⟩ := h
    rw [e, AtL.ints t c]
    rfl
theorem xl_lst {gs : En → List PV} (h : PA X es (tXs X.K G C gs)) (hz : ∀ ρ, (gs ρ).length ≤ 1000 := by intro _; exact Nat.le_of_ble_eq_true rfl) : PE X (.List es pos) (tXl X.K G (fun ρ => C ρ ∧ areI (gs ρ)) fun ρ => allI (gs ρ)) :=
  toXl (pe_lst h) fun B σ H ρ O Q R c q => ⟨B, ρ, O, R, c.1, fun vs H1 s1 a1 => ⟨by rw [← a1.length]; exact Nat.le_of_lt (small1000 (hz ρ)), fun a ha => by
    have e := a1.ints c.2
    refine q a _ (s1.trans (same_new ha _)) (s1.free ha) ?_
    rw [upd_same, e]⟩⟩
theorem xp_lst (h : PA X es (tXs X.K G C gs)) (hz : ∀ ρ, (gs ρ).length ≤ 1000 := by intro _; exact Nat.le_of_ble_eq_true rfl) : PE X (.List es pos) (tXp X.K G C gs) :=
  fun pins s σ H Q I ⟨B, ρ, O, R, c, q⟩ => pe_lst h pins s σ H Q I ⟨B, ρ, O, R, c, fun vs H1 s1 a1 => ⟨by rw [← a1.length]; exact Nat.le_of_lt (small1000 (hz ρ)), fun a ha =>
    q a vs _ (s1.trans (same_new ha _)) (s1.free ha) upd_same (AtL.mono (mn_hide (same_new ha _) ha) _ _ a1)⟩⟩
theorem xp_tup (h : PA X es (tXs X.K G C gs)) (hz : ∀ ρ, (gs ρ).length ≤ 1000 := by intro _; exact Nat.le_of_ble_eq_true rfl) : PE X (.Tuple es x1 pos) (tX X.K G C fun ρ => .tup (gs ρ)) :=
  toX (pe_tup h) fun B σ H ρ O Q R c q => ⟨B, ρ, O, R, c, fun vs H1 s1 a1 => ⟨by rw [← a1.length]; exact Nat.le_of_lt (small1000 (hz ρ)), fun a ha => by
    have o : O a = false := by
      cases z : O a with
      | false => rfl
      | true => exact absurd (s1.free ha) (R.dom a z)
    refine q (.ref a) _ (s1.trans (same_new ha _)) ⟨a, vs, rfl, by rw [mn_of o]; exact upd_same, AtL.mono (mn_same (same_new ha _)) _ _ a1⟩⟩⟩
/-- list(x) of numbers -/
theorem xl_list (hm : X.mg "list" = none) (ha : PE X a (tX X.K G C g)) (hn : ∀ ρ, g ρ = .ints (ns ρ) ∨ g ρ = .scr (ns ρ)) (hg : Gl X "list" := by rfl) (he : starEach [a] X.env = [(false, eval a X.env)] := by rfl) :
    PE X (.Call (.Name "list" p) [a] [] pos) (tXl X.K G C ns) :=
  toXl (pe_callTy call_list_of hg hm bt_list (pa_cons ha pa_nil he) (by decide) (by decide) he rfl) fun B σ H ρ O Q R c q => ⟨B, ρ, O, R, c, fun v H1 s1 a1 => by
    have key : ∃ p, v = .ref p ∧ SqL X.K H1 p ((ns ρ).map V.int) := by
      rcases hn ρ with z | z
      · rw [z] at a1; obtain ⟨p, e, r⟩ := a1; exact ⟨p, e, .inl (same_rd mn_le r)⟩
      · rw [z] at a1; obtain ⟨p, e, r⟩ := a1; exact ⟨p, e, mn_le.seq r⟩
    obtain ⟨p, rfl, r⟩ := key
    exact ⟨p, _, rfl, .inl r, fun l hl => q l _ (s1.trans (same_new hl _)) (s1.free hl) upd_same⟩⟩
noncomputable def tXo (K : PySem.W.Frag) (G : Gx) (C : En → Prop) (g : En → Option Int) : TO := fun σ H Q => ∃ B ρ O, Rep K G B σ H ρ O ∧ C ρ ∧ ∀ H', Same H H' → Q (g ρ) H'
theorem xo_none : PO X none (tXo X.K G (fun _ => True) fun _ => none) := fun pins s σ H Q I ⟨_, _, _, _, _, q⟩ => po_none pins s σ H Q I (q H (Same.refl H))
theorem xo_some (h : PE X e (tXI X.K G C ga)) : PO X (some e) (tXo X.K G C fun ρ => some (ga ρ)) := fun pins s σ H Q I ⟨B, ρ, O, R, c, q⟩ => po_some h pins s σ H Q I ⟨B, ρ, O, R, c, fun _ H1 s1 a1 => ⟨_, a1, q H1 s1⟩⟩
/-- a list of numbers behind another -/
theorem Inv.lstR {X : Cx} {pins : List (Addr × Obj)} {σ : L2.St} {H : Hp} {s : Shared} {l : Addr} {xs : List V} (I : Inv X pins σ H s) (hH : Rd H l (.lst xs)) : xs.length ≤ sizeLine ∧ ∃ (its : List Value) (n : Nat), Vals xs its ∧ xs.length = its.length ∧ s.heap.get? l = some { cls := .type "list", data := .seq its.toArray n } := by
  obtain ⟨z, its, n, r, e⟩ := hH.ok I.hok
  exact ⟨z, its, n, r, r.length, e⟩
noncomputable def rCatR : R2 := fun x y H Q => ∃ l b xs zs, x = .ref l ∧ y = .ref b ∧ Rd H l (.lst xs) ∧ Rd H b (.lst zs) ∧ xs.length + zs.length ≤ sizeLine ∧ ∀ p, H p = none → Q (.ref p) (upd H p (.lst (xs ++ zs)))
theorem op_catR : OpR X (binaryOp .Add) rCatR := by
  intro pins s σ H x y v u Q I rx ry h
  obtain ⟨l, b, xs, zs, rfl, rfl, hH, hB, hz, q⟩ := h
  cases rx
  cases ry
  obtain ⟨z, its, n, r, hl, e⟩ := Inv.lstR I hH
  obtain ⟨z2, its2, n2, r2, hl2, e2⟩ := Inv.lstR I hB
  refine PySem.P.add_list e e2 ?_ (by rw [List.size_toArray, List.size_toArray]; omega)
  have ea : its.toArray ++ its2.toArray = (its ++ its2).toArray := by simp
  rw [ea]
  exact ⟨.ref _, _, I.lnew (t' := s.toks) (r.append r2) (by rw [List.length_append]; omega), rfl, q _ I.fresh⟩
theorem xl_cat (ha : PE X a (tXL X.K G Ca gl)) (hb : PE X b (tXL X.K G Cb hl)) : PE X (.BinOp a .Add b pos) (tXl X.K G (fun ρ => Ca ρ ∧ Cb ρ ∧ (gl ρ).length + (hl ρ).length ≤ sizeLine) fun ρ => gl ρ ++ hl ρ) :=
  toXl (pe_op op_catR ha hb) fun B σ H ρ O Q R c q => two R c.1 c.2.1 fun v u H1 H2 s1 s2 a1 a2 => by
    obtain ⟨l, rfl, r1⟩ := a1
    obtain ⟨b, rfl, r2⟩ := a2
    refine ⟨l, b, _, _, rfl, rfl, same_rd mn_le r1, same_rd mn_le r2, by rw [List.length_map, List.length_map]; exact c.2.2, fun p hp => q p _ ((s1.trans s2).trans (same_new hp _)) ((s1.trans s2).free hp) ?_⟩
    rw [upd_same, List.map_append]
theorem flat_rep {α : Type} (x : α) : ∀ k : Nat, (List.replicate k [x]).flatten = List.replicate k x
  | 0 => rfl
  | k + 1 => by rw [List.replicate_succ, List.flatten_cons, flat_rep x k]; rfl
/-- [x] * k -/
theorem xl_rep {gl : En → List Int} {n : En → Int} (ha : PE X a (tXl X.K G Ca gl)) (hb : PE X b (tXI X.K G Cb gb)) (hn : ∀ ρ, gl ρ = [n ρ]) : PE X (.BinOp a .Mult b pos) (tXl X.K G (fun ρ => Ca ρ ∧ Cb ρ ∧ -(2 ^ 63) ≤ gb ρ ∧ (gb ρ).toNat ≤ 1000) fun ρ => List.replicate (gb ρ).toNat (n ρ)) :=
  toXl (pe_op op_rep ha hb) fun B σ H ρ O Q R c q => ⟨B, ρ, O, R, c.1, fun l H1 s1 n1 e1 => ⟨B, ρ, O, R.grow s1, c.2.1, fun u H2 s2 a2 => by
    rw [hn ρ] at e1
    refine ⟨l, _, _, rfl, a2, s2 _ _ e1, c.2.2.1, by have := c.2.2.2; omega, ?_, fun p hp => q p _ ((s1.trans s2).trans (same_new hp _)) ((s1.trans s2).free hp) ?_⟩
    · rw [List.map_cons, List.map_nil, List.length_singleton, Nat.one_mul]
      exact Nat.le_of_lt (small1000 c.2.2.2)
    · rw [upd_same, List.map_cons, List.map_nil, flat_rep, List.map_replicate]⟩⟩
/-! calls of defs -/
end
/-- values in, a value out; nothing that stood is changed -/
noncomputable def spF (K : PySem.W.Frag) (G : Gx) (pre : List PV → Prop) (F : List PV → PV) : Sp := fun vs H Q _ => ∃ as O, (∀ a, O a = true → H a ≠ none) ∧ AtL K G (mn H O) as vs ∧ pre as ∧ ∀ v H', Same H H' → At K G (mn H' O) (F as) v → Q v H'
/-- values in, a new list of numbers out -/
noncomputable def spL (K : PySem.W.Frag) (G : Gx) (pre : List PV → Prop) (F : List PV → List Int) : Sp := fun vs H Q _ => ∃ as O, (∀ a, O a = true → H a ≠ none) ∧ AtL K G (mn H O) as vs ∧ pre as ∧ ∀ a H', Same H H' → H a = none → H' a = some (.lst ((F as).map V.int)) → Q (.ref a) H'
section
variable {X : Cx} {G : Gx} {Er : ER} {e : Expr} {es : List Expr} {pos p : Pos} {j k : Nat} {x : Str} {ps : List Str} {pre : List PV → Prop} {C : En → Prop} {gs : En → List PV}
theorem xc (o : Ok X.prog X.w X.K X.mg X.base j x ps (spF X.K G pre F)) (hr : Room k X.A) (ha : PA X (e :: es) (tXs X.K G C gs)) (hj : j ≤ k := by decide) (hg : Gl X x := by rfl) (hdb : (x == ("__debug__" : Str)) = false := by decide)
    (he : starEach (e :: es) X.env = (false, eval e X.env) :: starEach es X.env := by rfl) (hpl : (backTo pos (starEach es X.env)).any (·.1) = false := by rfl) :
    PE X (.Call (.Name x p) (e :: es) [] pos) (tX X.K G (fun ρ => C ρ ∧ pre (gs ρ)) fun ρ => F (gs ρ)) :=
  toX (pe_callO o hr ha hj hg hdb he hpl) fun B σ H ρ O Q R c q => ⟨B, ρ, O, R, c.1, fun vs H1 s1 a1 => by
    dsimp only
    rw [List.append_nil]
    exact ⟨gs ρ, O, (R.grow s1).dom, a1, c.2, fun v H2 s2 a2 => q v H2 (s1.trans s2) a2⟩⟩
theorem xcl (o : Ok X.prog X.w X.K X.mg X.base j x ps (spL X.K G pre F)) (hr : Room k X.A) (ha : PA X (e :: es) (tXs X.K G C gs)) (hj : j ≤ k := by decide) (hg : Gl X x := by rfl) (hdb : (x == ("__debug__" : Str)) = false := by decide)
    (he : starEach (e :: es) X.env = (false, eval e X.env) :: starEach es X.env := by rfl) (hpl : (backTo pos (starEach es X.env)).any (·.1) = false := by rfl) :
    PE X (.Call (.Name x p) (e :: es) [] pos) (tXl X.K G (fun ρ => C ρ ∧ pre (gs ρ)) fun ρ => F (gs ρ)) :=
  toXl (pe_callO o hr ha hj hg hdb he hpl) fun B σ H ρ O Q R c q => ⟨B, ρ, O, R, c.1, fun vs H1 s1 a1 => by
    dsimp only
    rw [List.append_nil]
    exact ⟨gs ρ, O, (R.grow s1).dom, a1, c.2, fun a H2 s2 n2 e2 => q a H2 (s1.trans s2) (s1.free n2) e2⟩⟩
end
/-! a def begins -/
noncomputable def startR (N : List Str) (as : List PV) : En := as.map Sl.fr ++ List.replicate (N.length - as.length) .un
theorem rep_start {K : PySem.W.Frag} {G : Gx} {H : Hp} {O : Addr → Bool} {as : List PV} {vs : List V} {N : List Str} (hd : ∀ a, O a = true → H a ≠ none) (h : AtL K G (mn H O) as vs) : Rep K G ⟨H, O⟩ (L2.start N vs) H (startR N as) O := by
  have hl := h.length
  refine ⟨Same.refl H, hd, fun _ z => z, hd, fun _ z => .inl z, fun i p e => ?_, fun i p e => ?_, fun i j p q a e => ?_, by unfold L2.start startR; simp [hl], fun i xs ys e => ?_⟩
  · unfold startR at e
    by_cases c : i < as.length
    · rw [List.getElem?_append_left (by rw [List.length_map]; exact c), List.getElem?_map] at e
      cases e' : as[i]? with
      | none => rw [e'] at e; cases e
      | some p' =>
        rw [e'] at e
        cases e
        obtain ⟨v, ev, av⟩ := h.at e'
        refine ⟨v, ?_, av⟩
        unfold L2.start
        rw [List.getElem?_append_left (by rw [List.length_map, ← hl]; exact c), List.getElem?_map, ev]
        rfl
    · rw [List.getElem?_append_right (by rw [List.length_map]; omega), List.getElem?_replicate] at e
      split at e <;> cases e
  · exfalso
    unfold startR at e
    by_cases c : i < as.length
    · rw [List.getElem?_append_left (by rw [List.length_map]; exact c), List.getElem?_map] at e
      cases e' : as[i]? <;> rw [e'] at e <;> cases e
    · rw [List.getElem?_append_right (by rw [List.length_map]; omega), List.getElem?_replicate] at e
      split at e <;> cases e
  · exfalso
    unfold startR at e
    by_cases c : i < as.length
    · rw [List.getElem?_append_left (by rw [List.length_map]; exact c), List.getElem?_map] at e
      cases e' : as[i]? <;> rw [e'] at e <;> cases e
    · rw [List.getElem?_append_right (by rw [List.length_map]; omega), List.getElem?_replicate] at e
      split at e <;> cases e
  · exfalso
    unfold startR at e
    by_cases c : i < as.length
    · rw [List.getElem?_append_left (by rw [List.length_map]; exact c), List.getElem?_map] at e
      cases e' : as[i]? <;> rw [e'] at e <;> cases e
    · rw [List.getElem?_append_right (by rw [List.length_map]; omega), List.getElem?_replicate] at e
      split at e <;> cases e
section
variable {P : Program} {w : World} {K : PySem.W.Frag} {mg : Str → Option Value} {base : Heap} {G : Gx}
/-- a def that tells a value -/
theorem okF {x : Str} {st : Stmt} {N ps : List Str} {k : Nat} {pre : List PV → Prop} {F : List PV → PV} (d : Def K mg x st ps) (S : FnScope N ps (defScope st)) (len : ∀ as, pre as → as.length = ps.length)
    (hbody : ∀ (f : Addr) (cdv : Value) (A : Around) (outer : List Env) (s : Shared) (H : Hp) (E : XK), Room k (A.deeper (envOfC x (defScope st) s.heap.objs.size f cdv)) →
      ∃ fs, PSs (cxOf CX0 P w K mg base N x (defScope st) f cdv A outer s H E).nox (defBody st) (ts K G ER0 fs) ∧ ∀ as, pre as → fs { nx := fun _ => F as = .non, rt := fun p => p = F as, rl := fun ns => F as = .ints ns } (startR N as)) : Ok P w K mg base (k + 1) x ps (spF K G pre F) := by
  refine Def.ok d S (fun vs H Q E h => ?_) fun f cdv A outer s H vs Q E hr h => ?_
  · obtain ⟨as, O, _, al, hp, _⟩ := h
    rw [← al.length]; exact len as hp
  obtain ⟨as, O, hd, al, hp, q⟩ := h
  obtain ⟨fs, b, c⟩ := hbody f cdv A outer s H E hr
  refine ⟨_, b, ⟨H, O⟩, startR N as, _, ⟨O, rep_start hd al⟩, c as hp, ⟨fun σ' H' ρ' R' h => ?_, fun v H' p s' a' h => ?_, fun a H' ns s' n e h => ?_, fun _ _ _ _ _ h => h.elim, fun _ _ _ _ h => h, fun _ _ _ _ h => h, fun _ _ _ h => h⟩⟩
  · obtain ⟨O', R'⟩ := R'
    exact q .non H' R'.same (by rw [show F as = .non from h]; rfl)
  · subst h
    exact q v H' s' a'
  · refine q _ H' s' ?_
    rw [h]
    exact ⟨a, rfl, .inl (by
      rw [mn_of]
      · exact e
      · cases z : O a with
        | false => rfl
        | true => exact absurd n (hd a z))⟩
/-- a def that tells a new list of numbers -/
theorem okL {x : Str} {st : Stmt} {N ps : List Str} {k : Nat} {pre : List PV → Prop} {F : List PV → List Int} (d : Def K mg x st ps) (S : FnScope N ps (defScope st)) (len : ∀ as, pre as → as.length = ps.length)
    (hbody : ∀ (f : Addr) (cdv : Value) (A : Around) (outer : List Env) (s : Shared) (H : Hp) (E : XK), Room k (A.deeper (envOfC x (defScope st) s.heap.objs.size f cdv)) →
      ∃ fs, PSs (cxOf CX0 P w K mg base N x (defScope st) f cdv A outer s H E).nox (defBody st) (ts K G ER0 fs) ∧ ∀ as, pre as → fs { nx := fun _ => False, rt := fun _ => False, rl := fun ns => ns = F as } (startR N as)) : Ok P w K mg base (k + 1) x ps (spL K G pre F) := by
  refine Def.ok d S (fun vs H Q E h => ?_) fun f cdv A outer s H vs Q E hr h => ?_
  · obtain ⟨as, O, _, al, hp, _⟩ := h
    rw [← al.length]; exact len as hp
  obtain ⟨as, O, hd, al, hp, q⟩ := h
  obtain ⟨fs, b, c⟩ := hbody f cdv A outer s H E hr
  refine ⟨_, b, ⟨H, O⟩, startR N as, _, ⟨O, rep_start hd al⟩, c as hp, ⟨fun _ _ _ _ h => h.elim, fun _ _ _ _ _ h => h.elim, fun a H' ns s' n e h => ?_, fun _ _ _ _ _ h => h.elim, fun _ _ _ _ h => h, fun _ _ _ _ h => h, fun _ _ _ h => h⟩⟩
  subst h
  exact q a H' s' n e
end
/-! ### changes of a list of one's own -/
/-- a def that changes the list of numbers it is handed alone -/
noncomputable def spM (pre : List Int → Prop) (F : List Int → List Int) : Sp := fun vs H Q _ => ∃ a ns, vs = [.ref a] ∧ H a = some (.lst (ns.map V.int)) ∧ pre ns ∧ ∀ H', (∀ b o, b ≠ a → H b = some o → H' b = some o) → H' a = some (.lst ((F ns).map V.int)) → Q .non H'
theorem upd_le (h : ∀ b o, b ≠ a → H b = some o → H' b = some o) (e : H' a = some o) : Same (upd H a o) H' := same_mk fun b u z => by
  by_cases c : b = a
  · subst c; rw [upd_same] at z; cases z; exact e
  · rw [upd_ne c] at z; exact h b u c z
section
variable {X : Cx} {G : Gx} {Er : ER} {e b : Expr} {pos px pa pc : Pos} {i j k : Nat} {x y : Str} {C Cb : En → Prop} {g gb : En → Int}
theorem xst_pop (i : Nat) (hN : X.N[i]? = some x := by rfl) (hv : Vis X.env.scope x := by first | exact Or.inl rfl | exact Or.inr (Or.inl rfl) | exact Or.inr (Or.inr rfl))
    (hd : (x == ("__debug__" : Str)) = false := by decide) (hcd : (x == ("__classdict__" : Str)) = false := by decide)
    (hbase : attributeBase (.Name x px) "pop" X.env (eval (.Name x px) X.env) = eval (.Name x px) X.env := by rfl) (hline : (pa.endLine == pc.line) = true := by rfl)
    (hsw : swapsWith (.Call (.Attribute (.Name x px) "pop" pa) [] [] pc) none pos.line X.env = pure false := by rfl) :
    PS X (.Expr (.Call (.Attribute (.Name x px) "pop" pa) [] [] pc) pos) (ts X.K G Er fun P ρ => isO ρ i ∧ getL ρ i ≠ [] ∧ P.nx (ρ.set i (.ow (.ints (getL ρ i).dropLast)))) :=
  toS (ps_expr (pe_bm0 PySem.F.plainAttrs_list PySem.F.slot_list_pop PySem.F.type_list_pop mt_pop (pe_var hN hv hd hcd) hbase hline) hsw) fun B σ H ρ O P D R c w => by
    obtain ⟨c0, c1, c3⟩ := c
    obtain ⟨a, vs, e1, e2, e3, e4, e5⟩ := R.ow i _ c0
    subst e5
    have hl : 0 < (getL ρ i).length := List.length_pos_iff.mpr c1
    refine ⟨_, e1, .inl ⟨rfl, _, SqL.of e4⟩, a, _, V.int ((getL ρ i)[(getL ρ i).length - 1]'(by omega)), rfl, rfl, e4, ?_, w.nx σ _ _ ⟨O, R.change c0 e1 (p' := .ints (getL ρ i).dropLast) ?_⟩ c3⟩
    · rw [List.length_map, List.getElem?_map, List.getElem?_eq_getElem (by omega)]
      rfl
    · show _ = (getL ρ i).dropLast.map V.int
      rw [List.map_dropLast]
/-- a call of a def that changes the list of one's own in slot i -/
theorem xst_mut (i : Nat) (o : Ok X.prog X.w X.K X.mg X.base j y ps (spM pre F)) (hr : Room k X.A) (hj : j ≤ k := by decide) (hg : Gl X y := by rfl)
    (hN : X.N[i]? = some x := by rfl) (hv : Vis X.env.scope x := by first | exact Or.inl rfl | exact Or.inr (Or.inl rfl) | exact Or.inr (Or.inr rfl)) (hd : (x == ("__debug__" : Str)) = false := by decide) (hcd : (x == ("__classdict__" : Str)) = false := by decide)
    (hdb : (y == ("__debug__" : Str)) = false := by decide) (he : starEach (.Name x px :: []) X.env = (false, eval (.Name x px) X.env) :: starEach [] X.env := by rfl) (hpl : (backTo pc (starEach [] X.env)).any (·.1) = false := by rfl)
    (hsw : swapsWith (.Call (.Name y pa) [.Name x px] [] pc) none pos.line X.env = pure false := by rfl) :
    PS X (.Expr (.Call (.Name y pa) [.Name x px] [] pc) pos) (ts X.K G Er fun P ρ => isO ρ i ∧ pre (getL ρ i) ∧ P.nx (ρ.set i (.ow (.ints (F (getL ρ i)))))) :=
  toS (ps_expr (pe_callO o hr (pa_cons (pe_var hN hv hd hcd) pa_nil he) hj hg hdb he hpl) hsw) fun B σ H ρ O P D R c w => by
    obtain ⟨c0, c1, c3⟩ := c
    obtain ⟨a, vs, e1, e2, e3, e4, e5⟩ := R.ow i _ c0
    subst e5
    exact ⟨_, e1, a, _, rfl, e4, c1, fun H' k1 k2 => w.nx σ H' _ ⟨O, (R.change c0 e1 (p' := .ints _) rfl).grow (upd_le k1 k2)⟩ c3⟩
end
end L3

/-! ### comprehensions over pure values -/
namespace L3
open PySem PySem.Spec PyProof.Rows L2
noncomputable def capR (cap : List (Option Nat)) (ρ : En) : En := cap.map fun o => match o with
  | some i => (match ρ[i]? with
    | some (.fr p) => .fr p
    | _ => .un)
  | none => .un
section
variable {K : PySem.W.Frag} {G : Gx} {B : Bs} {σ : L2.St} {H H1 : Hp} {ρ : En} {O : Addr → Bool} {D : Addr} {cap : List (Option Nat)}
theorem rep_block (R : Rep K G B σ H1 ρ O) (hD : H1 D = none) (s : Same H1 H) (hn : H D ≠ none) : Rep K G ⟨H1, O⟩ (capS cap σ) H (capR cap ρ) (hide D O) := by
  refine ⟨s, R.dom, hide_le, fun a z y => ?_, fun a z => ?_, fun j p e => ?_, fun j p e => ?_, fun i j p q a e => ?_, by unfold capS capR; rw [List.length_map, List.length_map], fun j xs ys e => ?_⟩
  · by_cases c : a = D
    · subst c; exact hn y
    · rw [hide_ne c] at z; exact R.dom a z (s.free y)
  · by_cases c : a = D
    · subst c; exact .inr hD
    · rw [hide_ne c] at z; exact .inl z
  · unfold capR at e
    rw [List.getElem?_map] at e
    cases ec : cap[j]? with
    | none => rw [ec] at e; cases e
    | some o =>
      rw [ec] at e
      cases o with
      | none => cases e
      | some i =>
        have e := Option.some.inj e
        dsimp only at e
        split at e
        · rename_i p' er
          cases e
          obtain ⟨v, e1, e2⟩ := R.fr i p er
          refine ⟨v, ?_, At.mono (mn_hide s hD) _ _ e2⟩
          unfold capS
          rw [List.getElem?_map, ec]
          show some ((σ[i]?).join) = some (some v)
          rw [e1]
          rfl
        · cases e
  · exfalso
    unfold capR at e
    rw [List.getElem?_map] at e
    cases ec : cap[j]? with
    | none => rw [ec] at e; cases e
    | some o =>
      rw [ec] at e
      cases o with
      | none => cases e
      | some i =>
        have e := Option.some.inj e
        dsimp only at e
        split at e <;> cases e
  · exfalso
    unfold capR at e
    rw [List.getElem?_map] at e
    cases ec : cap[i]? with
    | none => rw [ec] at e; cases e
    | some o =>
      rw [ec] at e
      cases o with
      | none => cases e
      | some i =>
        have e := Option.some.inj e
        dsimp only at e
        split at e <;> cases e
  · exfalso
    unfold capR at e
    rw [List.getElem?_map] at e
    cases ec : cap[j]? with
    | none => rw [ec] at e; cases e
    | some o =>
      rw [ec] at e
      cases o with
      | none => cases e
      | some i =>
        have e := Option.some.inj e
        dsimp only at e
        split at e <;> cases e
theorem ext_refl : ∀ σ : L2.St, ExtS σ σ
  | [] => True.intro
  | none :: r => ext_refl r
  | some _ :: r => ⟨rfl, ext_refl r⟩
variable {α : Type} {J : It} {g : TG} {C : En → Prop} {gb : En → PV} {Q : VK}
theorem lc_main (items : List α) (setσ : α → V → L2.St) (setr : α → En) (val : α → V) (R : Rep K G B σ H1 ρ O) (hD : H1 D = none) (hlen : items.length ≤ 1000) (hgo : ∀ i H, i < items.length → Same H1 H → J.go i H)
    (hyld : ∀ i it x H H', items[i]? = some it → Same H1 H → J.yld i H x H' → Same H H' ∧ ∀ k : L2.St → Hp → Prop, k (setσ it (val it)) H' → g x (capS cap σ) H' k) (hstop : ∀ H, Same H1 H → J.stop items.length H)
    (hset : ∀ it H, it ∈ items → Same H1 H → Rep K G ⟨H1, O⟩ (capS cap σ) H (capR cap ρ) (hide D O) → Rep K G ⟨H1, O⟩ (setσ it (val it)) H (setr it) (hide D O)) (hext : ∀ it, ExtS (capS cap σ) (setσ it (val it))) (hC : ∀ it ∈ items, C (setr it))
    (hQ : ∀ H' ys, Same H1 H' → H' D = some (.lst ys) → AtL K G (mn H' (hide D O)) (items.map fun it => gb (setr it)) ys → Q (.ref D) H') :
    ∃ W : Nat → Nat → List V → Hp → Prop, (∃ m, W 0 m [] (upd H1 D (.lst []))) ∧ lcW D J (capS cap σ) g noTest (tX K G C gb) Q W := by
  refine ⟨fun i m ys H => m = items.length - i ∧ i ≤ items.length ∧ Same H1 H ∧ H D = some (.lst ys) ∧ AtL K G (mn H (hide D O)) ((items.take i).map fun it => gb (setr it)) ys, ⟨items.length, by simp, Nat.zero_le _, same_new hD _, upd_same, rfl⟩, ?_⟩
  rintro i m ys H ⟨rfl, hi, hs, hd, al⟩
  have hl : ys.length = i := by rw [← al.length, List.length_map, List.length_take]; omega
  refine ⟨hd, small1000 (by omega), ?_⟩
  by_cases hlt : i < items.length
  · refine .inr ⟨hgo i H hlt hs, ?_⟩
    intro x H' hy
    have en : items[i]? = some items[i] := List.getElem?_eq_getElem hlt
    obtain ⟨s1, kk⟩ := hyld i _ x H H' en hs hy
    refine kk _ ⟨hext _, ?_⟩
    refine iteT ?_
    have hd' := s1 _ _ hd
    have R2 := hset items[i] H' (List.getElem_mem hlt) (hs.trans s1) (rep_block R hD (hs.trans s1) (by rw [hd']; exact fun z => by cases z))
    refine ⟨_, _, _, R2, hC _ (List.getElem_mem hlt), fun v H2 s2 a2 => ⟨s2 _ _ hd', items.length - (i + 1), by omega, rfl, hlt, ?_, upd_same, ?_⟩⟩
    · intro b o z
      rw [upd_ne (ne_of_none z hD)]
      exact ((hs.trans s1).trans s2) b o z
    · rw [mn_upd hide_self, take_at en, List.map_append]
      exact AtL.snoc (AtL.mono (mn_same (s1.trans s2)) _ _ al) a2
  · have e : i = items.length := by omega
    subst e
    refine .inl ⟨hstop H hs, hQ H ys hs hd ?_⟩
    rw [List.take_length] at al
    exact al
theorem atL_ints : ∀ {l : List α} {ys : List V}, AtL K G H (l.map fun x => .int (gi x)) ys → ys = (l.map gi).map V.int
  | [], _, h => h
  | x :: r, _, h => by
    obtain ⟨v, t, rfl, e, q⟩ := h
    rw [e, atL_ints q]
    rfl
end
section
variable {K : PySem.W.Frag} {G : Gx} {σ : L2.St} {H : Hp} {Q : VK} {Cs Cb : En → Prop} {gs : En → List Int} {gi : En → Int} {gp : En → PV} {cap : List (Option Nat)}
/-- over a list of numbers -/
theorem lc_L (h : tXp K G (fun ρ => Cs ρ ∧ (gs ρ).length ≤ 1000 ∧ ∀ n ∈ gs ρ, Cb ((capR (none :: cap) ρ).set 0 (.fr (.int n)))) (fun ρ => (gs ρ).map fun n => gp ((capR (none :: cap) ρ).set 0 (.fr (.int n)))) σ H Q) :
    tLC (none :: cap) (iList K (tXL K G Cs gs)) (gName 0) noTest (tX K G Cb gp) σ H Q := by
  obtain ⟨B, ρ, O, R, ⟨c1, c2, c3⟩, q⟩ := h
  refine ⟨B, ρ, O, R, c1, fun v H1 s1 a1 => ?_⟩
  obtain ⟨a, rfl, hq⟩ := a1
  have hq1 : SqL K H1 a ((gs ρ).map V.int) := .inl (same_rd mn_le hq)
  refine ⟨a, rfl, ⟨_, hq1⟩, fun D hD => ?_⟩
  refine lc_main (gs ρ) (fun _ v => (capS (none :: cap) σ).set 0 (some v)) (fun n => (capR (none :: cap) ρ).set 0 (.fr (.int n))) V.int (R.grow s1) hD c2 (fun i H hi s => ⟨_, .int (gs ρ)[i], s.seq hq1, by simp [hi]⟩) ?_ (fun H s => ⟨_, s.seq hq1, by simp⟩) (fun n H _ s R' => R'.set (p := .int n) rfl) ?_ c3 ?_
  · rintro i n x H H' en s ⟨rfl, hx⟩
    obtain ⟨n', rfl, hn⟩ := int_at (hx _ (s.seq hq1))
    rw [hn] at en
    cases en
    exact ⟨Same.refl _, fun k hk => hk⟩
  · intro n
    exact ext_refl _
  · intro H' ys s hd al
    exact q D ys H' (s1.trans s) (s1.free hD) hd al
/-- a list of numbers comes -/
theorem p_of_l {C : En → Prop} {α : Type} {src : En → List α} {gi : En → α → Int} (h : tXl K G C (fun ρ => (src ρ).map (gi ρ)) σ H Q) : tXp K G C (fun ρ => (src ρ).map fun x => .int (gi ρ x)) σ H Q := by
  obtain ⟨B, ρ, O, R, c, q⟩ := h
  refine ⟨B, ρ, O, R, c, fun a vs H' s n e al => q a H' s n ?_⟩
  rw [e, atL_ints al]
end
section
variable {X : Cx} {G : Gx} {Er : ER} {N' : List Str} {sc : Scope} {cl : List (Str × Addr)} {cap : List (Option Nat)} {el tg src : Expr} {at' spos px : Pos} {Cs Cb : En → Prop} {gs : En → List Int} {gn gi : En → Int} {gp : En → PV} {i : Nat} {x : Str}
theorem xl_lcL (L : LcOk X N' sc cl (none :: cap)) (hc : X.calm = true) (hi : PE X src (tXL X.K G Cs gs)) (hg : ∀ s H fp, PG (cxComp X N' sc cl s H fp) tg (gName 0)) (he : ∀ s H fp, PE (cxComp X N' sc cl s H fp) el (tXI X.K G Cb gi)) (hs : ∀ x, foldedSetIterable src X.env x = pure x := by intro _; rfl) :
    PE X (.ListComp el [⟨tg, src, [], 0⟩] sc at') (tXl X.K G (fun ρ => Cs ρ ∧ (gs ρ).length ≤ 1000 ∧ ∀ n ∈ gs ρ, Cb ((capR (none :: cap) ρ).set 0 (.fr (.int n)))) fun ρ => (gs ρ).map fun n => gi ((capR (none :: cap) ρ).set 0 (.fr (.int n)))) :=
  fun pins s σ H Q I h => pe_lc L hc (pi_list hi) hg (fun _ _ _ => pts_nil) he hs pins s σ H Q I (lc_L (p_of_l h))
/-- x = [..], the machine's own way: a list of one's own -/
theorem own_of {t : TE} {st : Stmt} {C : En → Prop} {g : En → List Int} (h : PS X st (tAsg t (gName i))) (k : ∀ σ H Q, tXl X.K G C g σ H Q → t σ H Q) : PS X st (ts X.K G Er fun P ρ => C ρ ∧ ∀ ns, ns = g ρ → P.nx (ρ.set i (.ow (.ints ns)))) :=
  toS h fun B σ H ρ O P D R c w => k σ H _ ⟨B, ρ, O, R, c.1, fun a H1 s1 n1 e1 => w.nx _ H1 _ ⟨hide a O, R.new (p := .ints (g ρ)) s1 n1 e1 rfl⟩ (c.2 _ rfl)⟩
theorem fr_of {t : TE} {st : Stmt} {C : En → Prop} {g : En → List Int} (h : PS X st (tAsg t (gName i))) (k : ∀ σ H Q, tXl X.K G C g σ H Q → t σ H Q) : PS X st (ts X.K G Er fun P ρ => C ρ ∧ ∀ ns, ns = g ρ → P.nx (ρ.set i (.fr (.ints ns)))) :=
  toS h fun B σ H ρ O P D R c w => k σ H _ ⟨B, ρ, O, R, c.1, fun a H1 s1 n1 e1 => w.nx _ H1 _ ⟨O, (R.grow s1).set (p := .ints _) ⟨a, rfl, .inl (by
    rw [mn_of]
    · exact e1
    · cases z : O a with
      | false => rfl
      | true => exact absurd n1 (R.dom a z))⟩⟩ (c.2 _ rfl)⟩
theorem xst_lcL (hN : X.N.Nodup) (hi' : X.N[i]? = some x) (hx : X.env.scope.names.lookup x = some .local) (L : LcOk X N' sc cl (none :: cap)) (hc : X.calm = true) (hi : PE X src (tXL X.K G Cs gs)) (hg : ∀ s H fp, PG (cxComp X N' sc cl s H fp) tg (gName 0)) (he : ∀ s H fp, PE (cxComp X N' sc cl s H fp) el (tXI X.K G Cb gi))
    (hsw : swapsWith (.ListComp el [⟨tg, src, [], 0⟩] sc at') (some (.Name x px)) spos.line X.env = pure true) (hs : ∀ x, foldedSetIterable src X.env x = pure x := by intro _; rfl) :
    PS X (.Assign [.Name x px] (.ListComp el [⟨tg, src, [], 0⟩] sc at') spos) (ts X.K G Er fun P ρ => (Cs ρ ∧ (gs ρ).length ≤ 1000 ∧ ∀ n ∈ gs ρ, Cb ((capR (none :: cap) ρ).set 0 (.fr (.int n)))) ∧ ∀ ns, ns = ((gs ρ).map fun n => gi ((capR (none :: cap) ρ).set 0 (.fr (.int n)))) → P.nx (ρ.set i (.ow (.ints ns)))) :=
  own_of (ps_lc hN hi' hx L hc (pi_list hi) hg (fun _ _ _ => pts_nil) he hsw hs) fun σ H Q h => lc_L (p_of_l h)
end
/-- the slots, written out -/
theorem to_lit {k : En → Prop} (h : ρ = ρ') (q : k ρ') : k ρ := by rw [h]; exact q
end L3

/-! ### isinstance, small built-ins, kinds over pure values -/
namespace L3
open PySem PySem.Spec PyProof.Rows L2
noncomputable def tyP : PV → Option Value
  | .int _ => some (.type "int")
  | .bl _ => some (.type "bool")
  | .non => some (.type "NoneType")
  | .str _ => some (.type "str")
  | .ints _ => some (.type "list")
  | .lst _ => some (.type "list")
  | .tup _ => some (.type "tuple")
  | _ => none
noncomputable def clsP : PV → Option Value
  | .ty n => some (.type n)
  | .cls a => some (.ref a)
  | _ => none
theorem At.ty {K : PySem.W.Frag} {G : Gx} {H : Hp} {p : PV} {v : V} {t : Value} (h : At K G H p v) (e : tyP p = some t) : TyOf K H v t := by
  cases p <;> first | cases e | skip
  · cases (show v = _ from h); exact .int _
  · cases (show v = _ from h); exact .bl _
  · cases (show v = _ from h); exact .non
  · cases (show v = _ from h); exact .str _
  · obtain ⟨a, rfl, r | ⟨o, r⟩⟩ := h
    · exact .lst r
    · exact .frz r
  · obtain ⟨a, vs, rfl, r | ⟨o, r⟩, _⟩ := h
    · exact .lst r
    · exact .frz r
  · obtain ⟨a, vs, rfl, r, _⟩ := h
    exact .tup r
theorem At.cls {K : PySem.W.Frag} {G : Gx} {H : Hp} {p : PV} {v : V} {t : Value} (h : At K G H p v) (e : clsP p = some t) : clsV v = some t := by
  cases p <;> first | cases e | skip
  · cases (show v = _ from h); rfl
  · cases (show v = _ from h); rfl
/-- isinstance(p, c) -/
noncomputable def instP (K : PySem.W.Frag) (p c : PV) : Bool := match tyP p, clsP c with
  | some t, some cv => PySem.W.kitOne K t cv == some true
  | _, _ => false
noncomputable def instOk (K : PySem.W.Frag) (p c : PV) : Prop := ∃ t cv b, tyP p = some t ∧ clsP c = some cv ∧ PySem.W.kitOne K t cv = some b
theorem instP_of {K : PySem.W.Frag} {p c : PV} {t cv : Value} {b : Bool} (h1 : tyP p = some t) (h2 : clsP c = some cv) (h : PySem.W.kitOne K t cv = some b) : instP K p c = b := by
  unfold instP
  rw [h1, h2]
  show (PySem.W.kitOne K t cv == some true) = b
  rw [h]
  cases b <;> rfl
theorem TyOf.up {K : PySem.W.Frag} {H H' : Hp} {v : V} {t : Value} (s : Same H H') (h : TyOf K H v t) : TyOf K H' v t := by
  cases h with
  | non => exact .non
  | bl x => exact .bl x
  | int x => exact .int x
  | str x => exact .str x
  | flt x => exact .flt x
  | lst e => exact .lst (s _ _ e)
  | frz e => exact .frz (s _ _ e)
  | tup e => exact .tup (s _ _ e)
  | dK e => exact .dK (s _ _ e)
  | dT e => exact .dT (s _ _ e)
  | ins e a b c d f => exact .ins (s _ _ e) a b c d f
section
variable {X : Cx} {G : Gx} {a b c e : Expr} {es : List Expr} {pos p px apos : Pos} {C Ca Cb Cc : En → Prop} {ga gc : En → PV} {gi gj : En → Int} {i j k n : Nat} {x m : Str}
theorem xe_isinst (hm : X.mg "isinstance" = none) (ha : PE X a (tX X.K G Ca ga)) (hc : PE X c (tX X.K G Cc gc)) (hg : Gl X "isinstance" := by rfl) (he : starEach [a, c] X.env = (false, eval a X.env) :: starEach [c] X.env := by rfl) (he2 : starEach [c] X.env = [(false, eval c X.env)] := by rfl) (hpl : (backTo pos (starEach [c] X.env)).any (·.1) = false := by rfl) :
    PE X (.Call (.Name "isinstance" p) [a, c] [] pos) (tXB X.K G (fun ρ => Ca ρ ∧ Cc ρ ∧ instOk X.K (ga ρ) (gc ρ)) fun ρ => instP X.K (ga ρ) (gc ρ) = true) :=
  toX (pe_callB call_isinst hg hm bt_isinstance (pa_cons ha (pa_cons hc pa_nil he2) he) (by decide) (by decide) he hpl) fun B σ H ρ O Q R cc q => ⟨B, ρ, O, R, cc.1, fun v H1 s1 a1 => ⟨B, ρ, O, R.grow s1, cc.2.1, fun u H2 s2 a2 => by
    obtain ⟨t, cv, b, e1, e2, e3⟩ := cc.2.2
    refine ⟨v, u, t, cv, b, rfl, a2.cls e2, TyOf.up (mn_le.trans s2) (a1.ty e1), e3, q _ H2 (s1.trans s2) ?_⟩
    have z : instP X.K (ga ρ) (gc ρ) = b := instP_of e1 e2 e3
    show V.bl b = V.bl (decide (instP X.K (ga ρ) (gc ρ) = true))
    rw [z, Bool.decide_eq_true]⟩⟩
theorem xn_abs (hm : X.mg "abs" = none) (ha : PE X a (tXI X.K G Ca gi)) (hg : Gl X "abs" := by rfl) (he : starEach [a] X.env = [(false, eval a X.env)] := by rfl) : PE X (.Call (.Name "abs" p) [a] [] pos) (tXI X.K G Ca fun ρ => if gi ρ < 0 then -gi ρ else gi ρ) :=
  toX (pe_callB call_abs hg hm bt_abs (pa_cons ha pa_nil he) (by decide) (by decide) he rfl) fun B σ H ρ O Q R c q => ⟨B, ρ, O, R, c, fun v H1 s1 a1 => by
    subst a1
    exact ⟨_, rfl, q _ H1 s1 rfl⟩⟩
theorem xn_min (hcm : X.calm = true) (hm : X.mg "min" = none) (ha : PE X a (tXI X.K G Ca gi)) (hb : PE X b (tXI X.K G Cb gj)) (hg : Gl X "min" := by rfl) (he : starEach [a, b] X.env = (false, eval a X.env) :: starEach [b] X.env := by rfl) (he2 : starEach [b] X.env = [(false, eval b X.env)] := by rfl) (hpl : (backTo pos (starEach [b] X.env)).any (·.1) = false := by rfl) :
    PE X (.Call (.Name "min" p) [a, b] [] pos) (tXI X.K G (fun ρ => Ca ρ ∧ Cb ρ) fun ρ => if gj ρ < gi ρ then gj ρ else gi ρ) :=
  toX (pe_callB (call_min2 hcm) hg hm bt_min (pa_cons ha (pa_cons hb pa_nil he2) he) (by decide) (by decide) he hpl) fun B σ H ρ O Q R c q => ⟨B, ρ, O, R, c.1, fun v H1 s1 a1 => ⟨B, ρ, O, R.grow s1, c.2, fun u H2 s2 a2 => by
    subst a1 a2
    exact ⟨_, _, rfl, q _ H2 (s1.trans s2) rfl⟩⟩⟩
/-! calls that tell a number, a truth -/
noncomputable abbrev spFI (K : PySem.W.Frag) (G : Gx) (pre : List PV → Prop) (F : List PV → Int) : Sp := spF K G pre fun as => .int (F as)
noncomputable abbrev spFB (K : PySem.W.Frag) (G : Gx) (pre : List PV → Prop) (F : List PV → Bool) : Sp := spF K G pre fun as => .bl (F as)
noncomputable abbrev spFL (K : PySem.W.Frag) (G : Gx) (pre : List PV → Prop) (F : List PV → List Int) : Sp := spF K G pre fun as => .ints (F as)
variable {ps : List Str} {pre : List PV → Prop} {gs : En → List PV}
theorem xcL (o : Ok X.prog X.w X.K X.mg X.base j x ps (spFL X.K G pre F)) (hr : Room k X.A) (ha : PA X (e :: es) (tXs X.K G C gs)) (hj : j ≤ k := by decide) (hg : Gl X x := by rfl) (hdb : (x == ("__debug__" : Str)) = false := by decide)
    (he : starEach (e :: es) X.env = (false, eval e X.env) :: starEach es X.env := by rfl) (hpl : (backTo pos (starEach es X.env)).any (·.1) = false := by rfl) :
    PE X (.Call (.Name x p) (e :: es) [] pos) (tXL X.K G (fun ρ => C ρ ∧ pre (gs ρ)) fun ρ => F (gs ρ)) := xc o hr ha hj hg hdb he hpl
theorem xci (o : Ok X.prog X.w X.K X.mg X.base j x ps (spFI X.K G pre F)) (hr : Room k X.A) (ha : PA X (e :: es) (tXs X.K G C gs)) (hj : j ≤ k := by decide) (hg : Gl X x := by rfl) (hdb : (x == ("__debug__" : Str)) = false := by decide)
    (he : starEach (e :: es) X.env = (false, eval e X.env) :: starEach es X.env := by rfl) (hpl : (backTo pos (starEach es X.env)).any (·.1) = false := by rfl) :
    PE X (.Call (.Name x p) (e :: es) [] pos) (tXI X.K G (fun ρ => C ρ ∧ pre (gs ρ)) fun ρ => F (gs ρ)) := xc o hr ha hj hg hdb he hpl
theorem xcb (o : Ok X.prog X.w X.K X.mg X.base j x ps (spFB X.K G pre F)) (hr : Room k X.A) (ha : PA X (e :: es) (tXs X.K G C gs)) (hj : j ≤ k := by decide) (hg : Gl X x := by rfl) (hdb : (x == ("__debug__" : Str)) = false := by decide)
    (he : starEach (e :: es) X.env = (false, eval e X.env) :: starEach es X.env := by rfl) (hpl : (backTo pos (starEach es X.env)).any (·.1) = false := by rfl) :
    PE X (.Call (.Name x p) (e :: es) [] pos) (tXB X.K G (fun ρ => C ρ ∧ pre (gs ρ)) fun ρ => F (gs ρ) = true) :=
  toX (xc o hr ha hj hg hdb he hpl) fun B σ H ρ O Q R c q => ⟨B, ρ, O, R, c, fun v H' s a => q v H' s (by dsimp only; rw [Bool.decide_eq_true]; exact a)⟩
/-! kinds: the sort 0 of own objects -/
noncomputable def getZ (ρ : En) (i : Nat) : Int := match ρ[i]? with
  | some (.fr (.ob 0 z)) => z
  | _ => 0
noncomputable def isK (ρ : En) (i : Nat) : Prop := ρ[i]? = some (.fr (.ob 0 (getZ ρ i)))
theorem xn_kmeth {KA : Hp → Addr → Int → Prop} {preK : Int → List Int → Prop} {F : Int → List Int → Int} {pl : Sem Bool} (i : Nat) (M : KM X.prog X.w X.K X.mg X.base j KA m n preK F) (hr : Room k X.A) (ha : PA X (e :: es) (tXs X.K G C gs)) (hn : ∀ ρ, (gs ρ).length = n := by intro _; rfl) (hG : ∀ H a z, G.ob 0 H a z → KA H a z := by first | exact fun _ _ _ h => h.2 | exact fun _ _ _ h => h.elim (fun z => z.2) fun z => absurd z.1 (by decide)) (hGm : ∀ {H H' : Hp} {a : Addr} {z : Int}, KA H a z → Same H H' → KA H' a z := by first | exact fun h s => KAt.same h s | exact fun h s => h.same s) (hj : j ≤ k := by decide)
    (hN : X.N[i]? = some x := by rfl) (hv : Vis X.env.scope x := by first | exact Or.inl rfl | exact Or.inr (Or.inl rfl) | exact Or.inr (Or.inr rfl)) (hd : (x == ("__debug__" : Str)) = false := by decide) (hcd : (x == ("__classdict__" : Str)) = false := by decide)
    (hst : starEach (e :: es) X.env = (false, eval e X.env) :: starEach es X.env := by rfl) (hpl : (backTo pos (starEach es X.env)).any (·.1) = false := by rfl)
    (ht : eval (.Call (.Attribute (.Name x px) m apos) (e :: es) [] pos) X.env = (do
      let ov ← eval (.Name x px) X.env
      standAt apos.atName
      let (f, first) ← holding [ov] (getMethod ov m pl)
      callWith pos f first (backTo pos (starEach (e :: es) X.env)) (backToKw pos (keywordEach [] X.env))) := by rfl) :
    PE X (.Call (.Attribute (.Name x px) m apos) (e :: es) [] pos) (tXI X.K G (fun ρ => isK ρ i ∧ C ρ ∧ areI (gs ρ) ∧ preK (getZ ρ i) (allI (gs ρ))) fun ρ => F (getZ ρ i) (allI (gs ρ))) := by
  intro pins s σ H Q I h
  obtain ⟨B, ρ, O, R, ⟨c0, c1, c2, c3⟩, q⟩ := h
  obtain ⟨v, e1, a, rfl, ka⟩ := R.fr i _ c0
  have ka1 : KA H a (getZ ρ i) := hGm (hG _ _ _ ka) mn_le
  obtain ⟨Cl, dx, fs, ps, f1, f2, M'⟩ := M.ex H a _ ka1
  obtain ⟨f, fd, FF, bb, mm, cc⟩ := M'.ex
  refine pe_meth (pe_var hN hv hd hcd) cc mm (FF.mono hj) hr bb .nil pass0 ha hst hpl ht pins s σ H Q I ⟨_, e1, a, dx, fs, rfl, f1, f2, B, ρ, O, R, c1, fun vs H1 s1 a1 => ?_⟩
  have ev := a1.ints c2
  have el : (allI (gs ρ)).length = n := by rw [← hn ρ, a1.length, ev, List.length_map]
  exact ⟨allI (gs ρ), el, by rw [List.append_nil, ev], hGm ka1 s1, c3, q _ H1 s1 rfl⟩
end
end L3

/-! ### promises of the hand layer, as promises over pure values -/
namespace L3
open PySem PySem.Spec PyProof.Rows L2
theorem areI_len : ∀ {as : List PV}, areI as → (allI as).length = as.length
  | [], _ => rfl
  | p :: r, h => by
    cases p <;> first | exact h.elim | skip
    show (allI r).length + 1 = r.length + 1
    rw [areI_len (as := r) h]
section
variable {P : Program} {w : World} {K : PySem.W.Frag} {mg : Str → Option Value} {base : Heap} {G : Gx} {k n : Nat} {x : Str} {ps : List Str}
/-- the script, then numbers -/
noncomputable def scrI : List PV → List Int
  | .scr ns :: _ => ns
  | _ => []
noncomputable def preS (n : Nat) (pre : List Int → List Int → Prop) : List PV → Prop
  | .scr ns :: r => areI r ∧ r.length = n ∧ pre ns (allI r)
  | _ => False
theorem liftS (o : Ok P w K mg base k x ps (spS K n pre F)) : Ok P w K mg base k x ps (spFI K G (preS n pre) fun as => F (scrI as) (allI as.tail)) :=
  o.imp fun vs H Q E ⟨as, O, _, al, hp, q⟩ => by
    match as, hp, al, q with
    | .scr ns :: r, ⟨h1, h2, h3⟩, al, q =>
      obtain ⟨v, t, rfl, ⟨a, rfl, hs⟩, al2⟩ := al
      exact ⟨a, ns, allI r, by rw [areI_len h1, h2], by rw [al2.ints h1], mn_le.seq hs, h3, q _ H (Same.refl H) rfl⟩
end
end L3

/-! ### x[k] op= e over a list of one's own -/
namespace L3
open PySem PySem.Spec PyProof.Rows L2
section
variable {X : Cx} {G : Gx} {Er : ER} {b e : Expr} {px ps pos : Pos} {C Cb : En → Prop} {g gb : En → Int}
theorem get_list : PGet X (rIxL X.K) := by
  intro pins s σ H x y v u Q I rx ry h
  obtain ⟨p, xs, i, z, rfl, rfl, hq, he, q⟩ := h
  cases rx
  obtain ⟨t, rfl⟩ := ry
  obtain ⟨its, r, pl, hz⟩ := I.list hq
  obtain ⟨j, h1, h2, h3, h4, h5⟩ := atI_get he
  obtain ⟨w, ew, rw'⟩ := r.get h2
  have hl := r.length
  have hn := line63
  have fin : EP X pins σ Q w s := ⟨z, H, I, rw', q⟩
  by_cases h0 : 0 ≤ i
  · have hj : i.toNat = j := by
      rw [seqIndex_of h0 h5] at h1
      exact Option.some.inj h1
    exact wpAny_getItem_list pl.isList h0 (by omega) (by rw [hj]; simpa using ew) fin
  · have hj : (i + (its.toArray.size : Int)).toNat = j := by
      rw [seqIndex_neg (by omega) h4] at h1
      rw [List.size_toArray, ← hl]
      exact Option.some.inj h1
    exact wpAny_getItem_list_neg pl.isList (by omega) (by rw [List.size_toArray] <;> omega) (by omega) (by rw [hj]; simpa using ew) fin
end
end L3

/-! ### slices of lists of numbers; sizes of numbers -/
namespace L3
open PySem PyProof.Rows L2 FM
end L3

/-! ### slices with a step -/
namespace L2
open PySem PySem.Spec PyProof.Rows
section
variable {X : Cx} {e st : Expr} {te : TE} {lo hi : Option Expr} {tl th tt : TO} {pos p2 : Pos}
end
end L2
namespace L3
open PySem PySem.Spec PyProof.Rows L2
section
variable {X : Cx} {G : Gx} {a : Expr} {pos p2 : Pos} {C : En → Prop}
end
end L3

/-! ### polynomials by their numbers: sums, products -/
namespace FM
open L2
theorem getD_ge {xs : List Int} {n : Nat} (h : xs.length ≤ n) : xs.getD n 0 = 0 := by rw [List.getD_eq_getElem?_getD, List.getElem?_eq_none h]; rfl
theorem getD_lt {xs : List Int} {n : Nat} (h : n < xs.length) : xs.getD n 0 = xs[n] := by rw [List.getD_eq_getElem?_getD, List.getElem?_eq_getElem h]; rfl
theorem getD_mem {xs : List Int} {n : Nat} (h : n < xs.length) : xs.getD n 0 ∈ xs := by rw [getD_lt h]; exact List.getElem_mem h
theorem snoc_get (xs : List Int) (x : Int) (n : Nat) : (xs ++ [x]).getD n 0 = if n = xs.length then x else xs.getD n 0 := by
  by_cases h : n < xs.length
  · rw [getD_lt (by rw [List.length_append]; omega), List.getElem_append_left h, if_neg (by omega), getD_lt h]
  · by_cases h2 : n = xs.length
    · subst h2
      rw [if_pos rfl, getD_lt (by rw [List.length_append, List.length_singleton]; omega), List.getElem_append_right (Nat.le_refl _)]
      simp
    · rw [if_neg h2, getD_ge (by rw [List.length_append, List.length_singleton]; omega), getD_ge (by omega)]
theorem snoc_or (xs : List Int) : xs = [] ∨ ∃ ys x, xs = ys ++ [x] := by
  by_cases h : xs = []
  · exact .inl h
  · exact .inr ⟨_, _, (List.dropLast_concat_getLast h).symm⟩
theorem trimZ_get : ∀ (k : Nat) (xs : List Int), xs.length = k → ∀ n, (trimZ xs).getD n 0 = xs.getD n 0
  | 0, xs, h, n => by
    have : xs = [] := List.length_eq_zero_iff.mp h
    subst this
    rfl
  | k + 1, xs, h, n => by
    rcases snoc_or xs with rfl | ⟨ys, x, rfl⟩
    · rfl
    · by_cases hx : x = 0
      · subst hx
        have hl : ys.length = k := by rw [List.length_append, List.length_singleton] at h; omega
        rw [trimZ_zero, trimZ_get k ys hl n, snoc_get]
        by_cases h2 : n = ys.length
        · rw [if_pos h2, getD_ge (by omega)]
        · rw [if_neg h2]
      · rw [trimZ_ne _ hx]
theorem trim_get (xs : List Int) (n : Nat) : (trimZ xs).getD n 0 = xs.getD n 0 := trimZ_get _ xs rfl n
/-- in form: no nought at the end -/
noncomputable def InForm (xs : List Int) : Prop := xs ≠ [] → xs.getD (xs.length - 1) 0 ≠ 0
theorem trimZ_form : ∀ (k : Nat) (xs : List Int), xs.length = k → InForm (trimZ xs)
  | 0, xs, h => by
    have : xs = [] := List.length_eq_zero_iff.mp h
    subst this
    intro h; exact absurd rfl h
  | k + 1, xs, h => by
    rcases snoc_or xs with rfl | ⟨ys, x, rfl⟩
    · intro h; exact absurd rfl h
    · by_cases hx : x = 0
      · subst hx
        rw [trimZ_zero]
        exact trimZ_form k ys (by rw [List.length_append, List.length_singleton] at h; omega)
      · rw [trimZ_ne _ hx]
        intro _
        rw [snoc_get, if_pos (by rw [List.length_append, List.length_singleton]; omega)]
        exact hx
theorem trim_form (xs : List Int) : InForm (trimZ xs) := trimZ_form _ xs rfl
theorem form_ext {a b : List Int} (ha : InForm a) (hb : InForm b) (h : ∀ n, a.getD n 0 = b.getD n 0) : a = b := by
  have le : ∀ {a b : List Int}, InForm a → (∀ n, a.getD n 0 = b.getD n 0) → a.length ≤ b.length := fun {a b} ha h => by
    by_cases c : a.length ≤ b.length
    · exact c
    · have hne : a ≠ [] := fun z => by subst z; exact c (Nat.zero_le _)
      exact absurd (by rw [h, getD_ge (by omega)]) (ha hne)
  have hl : a.length = b.length := Nat.le_antisymm (le ha h) (le hb fun n => (h n).symm)
  refine List.ext_getElem hl fun i h1 h2 => ?_
  have := h i
  rw [getD_lt h1, getD_lt h2] at this
  exact this
/-- brought to the kind, noughts cut -/
noncomputable def Tz (z : Int) (f : List Int) : List Int := trimZ (f.map (pl z))
/-! sums -/
noncomputable def sm : Nat → (Nat → Int) → Int
  | 0, _ => 0
  | n + 1, f => sm n f + f n
/-! products -/
end FM

/-! ### arguments that are only read; a list of two lists of one's own -/
namespace L3
open PySem PySem.Spec PyProof.Rows L2
theorem mn_no (H : Hp) : mn H (fun _ => false) = H := by funext b; exact mn_of rfl
noncomputable def tXr (K : PySem.W.Frag) (G : Gx) (C : En → Prop) (g : En → PV) : TE := fun σ H Q => ∃ B ρ O, Rep K G B σ H ρ O ∧ C ρ ∧ ∀ v H', Same H H' → At K G H' (g ρ) v → Q v H'
section
variable {X : Cx} {G : Gx} {Er : ER} {a b c e : Expr} {es : List Expr} {pos p px ps pa pc : Pos} {C Ca Cb : En → Prop} {g : En → PV} {gs : En → List PV} {gi : En → Int} {i j k : Nat} {x : Str} {pl : List Str} {pre : List PV → Prop}
theorem rdX (h : PE X e (tX X.K G C g)) : PE X e (tXr X.K G C g) := fun pins s σ H Q I ⟨B, ρ, O, R, c, q⟩ => h pins s σ H Q I ⟨B, ρ, O, R, c, fun v H' s a => q v H' s (At.mono mn_le _ _ a)⟩
end
section
variable {K : PySem.W.Frag} {G : Gx} {B : Bs} {σ : L2.St} {H : Hp} {ρ : En} {O : Addr → Bool} {i : Nat} {xs ys zs : List Int} {D a b : Addr}
end
section
variable {X : Cx} {G : Gx} {Er : ER} {a b e : Expr} {pos px pl ps pk pa pc : Pos} {i n : Nat} {x : Str} {C Ca Cb : En → Prop} {ga gb : En → List Int} {g : En → Int}
end
end L3

/-! ### Euclid's steps, turned numbers, primes -/
namespace FM
open L2
/-- where turned stands: before, rest and their shares -/
structure Eu (n z b r sb s : Int) : Prop where
  r0 : 0 ≤ r
  rb : r < b
  bz : b ≤ z
  db : z ∣ b - sb * n
  dr : z ∣ r - s * n
  gc : Int.gcd b r = Int.gcd n z
  sg : (sb ≤ 0 ∧ 0 ≤ s) ∨ (0 ≤ sb ∧ s ≤ 0)
  id : (s.natAbs : Int) * b + (sb.natAbs : Int) * r = z
/-! primes -/
end FM

/-! ### a try around a call, an except with a name -/
namespace L2
open PySem PySem.Spec PyProof.Rows
section
variable {X : Cx} {pins : List (Addr × Obj)} {σ : St} {H : Hp} {s : Shared} {h' : Heap} {ch : List Addr}
/-- records that the entry did not know have changed, the frames up to their slots -/
theorem Inv.noted (I : Inv X pins σ H s) (hl : X.env.locals ∈ frs X.stack)
    (hch : ∀ b ∈ ch, X.s₀.heap.get? b = none ∧ H b = none ∧ b ∉ frs X.stack ∧ (∀ x c, X.env.cells.lookup x = some c → c ≠ b) ∧ ∀ p ∈ X.pn ++ pins, p.1 ≠ b)
    (keep : ∀ b o, b ∉ ch → b ∉ frs X.stack → s.heap.get? b = some o → h'.get? b = some o) (slot : ∀ b o, b ∈ frs X.stack → s.heap.get? b = some o → ∃ sl, h'.get? b = some { o with slots := sl }) : Inv X pins σ H { s with heap := h', toks := t' } := by
  have any : ∀ b o, b ∉ ch → s.heap.get? b = some o → ∃ sl, h'.get? b = some { o with slots := sl } := fun b o hb e => by
    by_cases c : b ∈ frs X.stack
    · exact slot b o c e
    · exact ⟨o.slots, keep b o hb c e⟩
  have noC : ∀ b o, X.s₀.heap.get? b = some o → b ∉ ch := fun b o e z => by rw [(hch b z).1] at e; cases e
  have neL : ∀ b o, X.s₀.heap.get? b = some o → b ≠ X.env.locals := fun b o e => Nat.ne_of_lt (Nat.lt_of_lt_of_le (Heap.lt_size e) I.ok.above)
  have cellK : ∀ x c, X.env.cells.lookup x = some c → ∀ v, s.heap.IsCell c v → h'.IsCell c v := fun x c e v ⟨o, ho, hd⟩ => by
    obtain ⟨sl, q⟩ := any c o (fun z => (hch c z).2.2.2.1 x c e rfl) ho
    exact ⟨_, q, hd⟩
  refine ⟨I.ok, I.os, I.bare, ⟨fun b o e n hbf hx => ?_, fun b o e n hbf hx => ?_, I.base.free, fun b o e hx => ?_, I.base.tups, I.base.frzs, I.base.tbls⟩, ?_, fun x c e => ?_, I.free, I.freeC, fun p hp => ?_, fun b o e => ?_, I.len⟩
  · refine keep b o (noC b o e) (fun z => ?_) (I.base.keep b o e n hbf hx)
    rcases List.mem_cons.mp (I.stkSub b z) with q | q
    · exact neL b o e q
    · exact hbf q
  · obtain ⟨sl, e1⟩ := I.base.slot b o e n hbf hx
    obtain ⟨sl2, e2⟩ := any b _ (noC b o e) e1
    exact ⟨sl2, e2⟩
  · obtain ⟨o', e1⟩ := I.base.there b o e hx
    obtain ⟨sl2, e2⟩ := any b o' (noC b o e) e1
    exact ⟨_, e2⟩
  · obtain ⟨m, ⟨o, es, ep, ho, r⟩, hloc⟩ := I.loc
    obtain ⟨sl, e⟩ := slot _ o hl ho
    refine ⟨m, ⟨_, es, ep, e, r⟩, fun i x v h1 h2 h3 => ?_⟩
    obtain ⟨u, ru, l⟩ := hloc i x v h1 h2 h3
    refine ⟨u, ru, ?_⟩
    rcases l with l | ⟨k, c, hc, ic⟩
    · exact .inl l
    · exact .inr ⟨k, c, hc, cellK x c hc _ ic⟩
  · obtain ⟨v, ic⟩ := I.cell x c e
    exact ⟨v, cellK x c e v ic⟩
  · obtain ⟨a1, a2, a3, a4, a5⟩ := I.pin p hp
    refine ⟨keep p.1 p.2 (fun z => (hch _ z).2.2.2.2 p hp rfl) (fun z => ?_) a1, a2, a3, a4, a5⟩
    rcases List.mem_cons.mp (I.stkSub _ z) with q | q
    · exact a3 q
    · exact a4 q
  · refine (I.hok b o e).stay (fun c u hc q => keep c u (fun z => ?_) (fun z => ?_) q) (fun _ q => q) fun _ _ q => q
    · have hn := (hch c z).2.1
      rcases hc with rfl | hc
      · rw [hn] at e; cases e
      · rw [hn] at hc; cases hc
    · have hn := I.stkFree c z
      rcases hc with rfl | hc
      · rw [hn] at e; cases e
      · rw [hn] at hc; cases hc
/-- what is new since a state of this body is not the body's own -/
theorem Inv.newAt (I : Inv X pins σ H s) (hex : X.ex = []) (hb : s.heap.get? b = none) : X.s₀.heap.get? b = none ∧ b ∉ frs X.stack ∧ (∀ x c, X.env.cells.lookup x = some c → c ≠ b) ∧ ∀ p ∈ X.pn ++ pins, p.1 ≠ b := by
  refine ⟨?_, fun z => ?_, fun x c e z => ?_, fun p hp z => ?_⟩
  · cases q : X.s₀.heap.get? b with
    | none => rfl
    | some o =>
      obtain ⟨o', e⟩ := I.base.there b o q (by rw [hex]; simp)
      rw [hb] at e; cases e
  · obtain ⟨_, o, e, _⟩ := I.stack.mem z
    rw [hb] at e; cases e
  · obtain ⟨v, o, e', _⟩ := I.cell x c e
    rw [z, hb] at e'; cases e'
  · have e := (I.pin p hp).1
    rw [z, hb] at e; cases e
end
section
variable {X : Cx} {pins : List (Addr × Obj)} {σ : St} {H1 H' : Hp} {s1 s' : Shared} {a : Addr} {cls : Value} {dd : Option Addr}
/-- the error is looked at in this frame: noted, landed -/
theorem catch_in {M : Model} {Q : Shared → Prop} {E' : Value → Shared → Prop} (I : Inv X pins σ H1 s1) (hst : X.stack = X.env :: X.outer) (hfr : X.env.frame = some X.env.locals) (hex : X.ex = []) (ho : s'.os = s1.os) (hb : AllBare s'.gens)
    (u : Un (frs X.stack) [] H1 H' s1.heap s'.heap) (hok : HOk X.prog X.w H' s'.heap) (F : Fly s1.heap H' s'.heap a cls dd)
    (hQ : ∀ h', Inv X pins σ H' { s' with heap := h' } → Fly s1.heap H' h' a cls dd → Q { s' with heap := h' }) :
    wpAny M X.A (noteFrame (.ref a) X.env) (fun _ s2 => wpAny M X.A (setFlight (.ref a) none) (fun _ s3 => Q s3) E' s2) E' s' := by
  have J : Inv X pins σ H' s' := I.call' (ch := []) ho u hok hb (fun b z => absurd z (by simp))
  obtain ⟨oe, vs, T, oT, ts, he, hcls, hdi, hd, h1, hTe, hT, hdT, h3, hHT, hsT⟩ := F.ex
  subst hcls
  have hA : X.A.frames = some (X.env :: X.outer) := by rw [← hst]; exact I.ok.frames
  have FF := J.stack
  have na := I.newAt hex F.new
  have nT := I.newAt hex hsT
  have hl : X.env.locals ∈ frs X.stack := by rw [hst]; unfold frs; rw [List.filterMap_cons, hfr]; exact List.mem_cons_self
  refine note_next (as := a :: T :: frs X.stack) (Q := fun _ s3 => Q s3) hA (by rw [← hst]; exact FF) hfr he hdi hd h1 hTe hT hdT h3 List.mem_cons_self (List.mem_cons_of_mem _ List.mem_cons_self) (fun b z => List.mem_cons_of_mem _ (List.mem_cons_of_mem _ (by rw [hst]; exact z))) fun h3' L => ?_
  rw [← hst] at L
  obtain ⟨oe', vs', T', oT', ts', he', hc', hdi', hd', h1', hnT', hTe', hT', hdT', h3''⟩ := L.ex
  have J3 : Inv X pins σ H' { s' with heap := h3' } := J.noted (t' := s'.toks) (ch := [a, T]) hl (fun b z => by
      rcases List.mem_cons.mp z with rfl | z
      · exact ⟨na.1, F.un, na.2.1, na.2.2.1, na.2.2.2⟩
      · have e : b = T := by simpa using z
        subst e
        exact ⟨nT.1, hHT, nT.2.1, nT.2.2.1, nT.2.2.2⟩)
    (fun b o hb hf e => L.keep b o e (by
      intro z
      rcases List.mem_cons.mp z with q | z
      · exact hb (by simp [q])
      · rcases List.mem_cons.mp z with q | z
        · exact hb (by simp [q])
        · exact hf z)) L.slot
  have tn : H' T' = none ∧ s1.heap.get? T' = none := by
    refine ⟨J.untracked hnT', ?_⟩
    cases q : s1.heap.get? T' with
    | none => rfl
    | some o => obtain ⟨o', e'⟩ := u.there T' o q (by simp); rw [hnT'] at e'; cases e'
  exact hQ h3' J3 ⟨⟨oe', vs', T', oT', ts', he', hc', hdi', hd', h1', hTe', hT', hdT', h3'', tn.1, tn.2⟩, F.un, F.new⟩
end

section
variable {X : Cx} {pins : List (Addr × Obj)} {σ : St} {H H' : Hp} {s : Shared} {h0 : Heap} {a : Addr} {cls : Value} {dd : Option Addr}
/-- landed once more: nothing new -/
theorem land_again {M : Model} {A : Around} {Q : Unit → Shared → Prop} {E' : Value → Shared → Prop} (J : Inv X pins σ H' s) (hst : X.stack = X.env :: X.outer) (hfr : X.env.frame = some X.env.locals) (F : Fly h0 H' s.heap a cls dd)
    (nw : ∀ b, h0.get? b = none → X.s₀.heap.get? b = none ∧ b ∉ frs X.stack ∧ (∀ x c, X.env.cells.lookup x = some c → c ≠ b) ∧ ∀ p ∈ X.pn ++ pins, p.1 ≠ b)
    (hQ : ∀ h', Inv X pins σ H' { s with heap := h' } → Fly h0 H' h' a cls dd → Q () { s with heap := h' }) : wpAny M A (setFlight (.ref a) none) Q E' s := by
  obtain ⟨oe, vs, T, oT, ts, he, hcls, hdi, hd, h1, hTe, hT, hdT, h3, hHT, hsT⟩ := F.ex
  have FF := J.stack
  have hsz3 : 3 < ts.size := (Array.getElem?_eq_some_iff.mp h3).1
  have other : ∀ b, b ≠ T → (s.heap.update T (Obj.mapFields (·.setIfInBounds 3 .none))).get? b = s.heap.get? b := fun b hb => Heap.get?_update_other _ _ (Ne.symm hb)
  have nT := nw T hsT
  have hl : X.env.locals ∈ frs X.stack := by rw [hst]; unfold frs; rw [List.filterMap_cons, hfr]; exact List.mem_cons_self
  refine wpAny_setFlight_none he hd h1 hT hdT hsz3 (hQ _ ?_ ?_)
  · exact J.noted (t' := s.toks) (ch := [T]) hl (fun b z => by
      have e : b = T := by simpa using z
      subst e
      exact ⟨nT.1, hHT, nT.2.1, nT.2.2.1, nT.2.2.2⟩) (fun b o hb hf e => (other b (fun z => hb (by simp [z]))).trans e)
      (fun b o z e => ⟨o.slots, (other b (fun q => nT.2.1 (by rw [← q]; exact z))).trans e⟩)
  · refine ⟨⟨oe, vs, T, _, _, (other a (Ne.symm hTe)).trans he, hcls, hdi, hd, h1, hTe, Heap.get?_update_self _ hT (Obj.isFreed_of_fields (Obj.data_mapFields hdT _)), Obj.data_mapFields hdT _, by simp [hsz3], hHT, hsT⟩, F.un, F.new⟩
/-- one name alone is kept, another has gone -/
theorem Inv.gone (I : Inv X pins σ H s) (hN : X.N.Nodup) (hj : X.N[j]? = some y) (hny : y ≠ n) (hl : ∀ (i : Nat) (x : Str) (v : V), X.N[i]? = some x → σ[i]? = some (some v) → Vis X.env.scope x → ∃ u, RelV v u ∧ Look X.env s.heap m x u)
    (hn : h'.Ns X.env.locals (fun x => if x = n then v else m x)) (hs : Heap.SameBut X.env.locals s.heap h') (hw : σ[j]? = some (some w)) : Inv X pins ((List.replicate X.N.length none).set j (some w)) H { s with heap := h', toks := t' } := by
  have neL : ∀ b o, X.s₀.heap.get? b = some o → b ≠ X.env.locals := fun b o e => Nat.ne_of_lt (Nat.lt_of_lt_of_le (Heap.lt_size e) I.ok.above)
  refine ⟨I.ok, I.os, I.bare, ⟨fun b o e q hb hx => (hs.2 b (neL b o e)).trans (I.base.keep b o e q hb hx), fun b o e q hb hx => ?_, I.base.free, fun b o e hx => ?_, I.base.tups, I.base.frzs, I.base.tbls⟩, ⟨_, hn, fun k x u e1 e2 e3 => ?_⟩, fun x c e => ?_, I.free, I.freeC, fun p hp => ?_, fun b o e => ?_, by rw [List.length_set, List.length_replicate]⟩
  · obtain ⟨sl, e1⟩ := I.base.slot b o e q hb hx
    exact ⟨sl, (hs.2 b (neL b o e)).trans e1⟩
  · obtain ⟨o', e1⟩ := I.base.there b o e hx
    exact ⟨o', (hs.2 b (neL b o e)).trans e1⟩
  · have kj : k = j ∧ u = w := by
      rw [List.getElem?_set] at e2
      split at e2
      · rename_i z
        split at e2
        · cases e2; exact ⟨z.symm, rfl⟩
        · cases e2
      · rw [List.getElem?_replicate] at e2
        split at e2 <;> cases e2
    obtain ⟨rfl, rfl⟩ := kj
    rw [hj] at e1
    cases e1
    obtain ⟨u', r', q⟩ := hl k y u hj hw e3
    refine ⟨u', r', ?_⟩
    rcases q with ⟨kk, e⟩ | ⟨kk, c, e, z⟩
    · exact .inl ⟨kk, by dsimp only; rw [if_neg hny]; exact e⟩
    · exact .inr ⟨kk, c, e, z.sameBut hs (I.cne y c e)⟩
  · obtain ⟨w', z⟩ := I.cell x c e
    exact ⟨w', z.sameBut hs (I.cne x c e)⟩
  · obtain ⟨e, q, ne, nf, d⟩ := I.pin p hp
    exact ⟨(hs.2 p.1 ne).trans e, q, ne, nf, d⟩
  · refine (I.hok b o e).stay (fun c u hc q => (hs.2 c (fun z => ?_)).trans q) (fun _ q => q) fun _ _ q => q
    subst z
    rcases hc with rfl | hc
    · rw [I.free] at e; cases e
    · rw [I.free] at hc; cases hc
/-- a caught error, by its class -/
noncomputable def excO (a : Addr) (cls : Value) (dd : Option Addr := none) : HO := .ext fun h => ∃ o vs, h.get? a = some o ∧ o.cls = cls ∧ o.dict = dd ∧ o.data = .fields vs
theorem Inv.trackN (I : Inv X pins σ H s) (f0 : H T = none) (f1 : T ≠ X.env.locals) (f3 : X.s₀.heap.get? T = none) (f4 : ∀ x c, X.env.cells.lookup x = some c → c ≠ T) (f5 : ∀ p ∈ X.pn ++ pins, p.1 ≠ T)
    (new : ObjOk X.prog X.w (upd H T o) s.heap T o) : Inv X pins σ (upd H T o) s := by
  have ne : ∀ {b : Addr} {u : HO}, H b = some u → b ≠ T := fun e => ne_of_none e f0
  refine ⟨I.ok, I.os, I.bare, ⟨I.base.keep, I.base.slot, fun b ob e n x => ?_, I.base.there, fun b xs e => ?_, fun b ob u e => ?_, fun b ps e => ?_⟩, I.loc, I.cell, by rw [upd_ne (Ne.symm f1)]; exact I.free, fun x c e => ?_, fun p hp => ?_, fun b u e => ?_, I.len⟩
  · have hb : b ≠ T := fun z => by rw [z, f3] at e; cases e
    rw [upd_ne hb]; exact I.base.free b ob e n x
  · have q := I.base.tups b xs e
    rw [upd_ne (ne q)]; exact q
  · have q := I.base.frzs b ob u e
    rw [upd_ne (ne q)]; exact q
  · obtain ⟨m, q⟩ := I.base.tbls b ps e
    exact ⟨m, by rw [upd_ne (ne q)]; exact q⟩
  · rw [upd_ne (f4 x c e)]; exact I.freeC x c e
  · obtain ⟨a1, a2, a3⟩ := I.pin p hp
    exact ⟨a1, by rw [upd_ne (f5 p hp)]; exact a2, a3⟩
  · by_cases c : b = T
    · subst c; rw [upd_same] at e; cases e; exact new
    · rw [upd_ne c] at e
      exact (I.hok b u e).stay (fun _ _ _ q => q) (fun d q => by rw [upd_ne (ne q)]; exact q) (fun d xs q => by rw [upd_ne (ne q)]; exact q) fun d _ _ q => by rw [upd_ne (ne q)]; exact q
theorem Inv.toPn (I : Inv X pins σ H s) (E : Value → Shared → Prop) : Inv { X with pn := X.pn ++ pins, xe := E } [] σ H s :=
  ⟨⟨I.ok.mod, I.ok.kind, I.ok.glob, I.ok.blt, I.ok.above, I.ok.inj, I.ok.has, I.ok.cab, I.ok.hd, I.ok.frames, I.ok.stk, I.ok.exf, I.ok.bs, I.ok.bsz, I.ok.noex, I.ok.exfs, I.ok.funs, I.ok.frf⟩, I.os, I.bare, I.base, I.loc, I.cell, I.free, I.freeC, fun p hp => I.pin p (by simpa using hp), I.hok, I.len⟩
theorem Inv.ofPn (I : Inv { X with pn := X.pn ++ pins, xe := E } ps σ H s) : Inv X pins σ H s :=
  ⟨⟨I.ok.mod, I.ok.kind, I.ok.glob, I.ok.blt, I.ok.above, I.ok.inj, I.ok.has, I.ok.cab, I.ok.hd, I.ok.frames, I.ok.stk, I.ok.exf, I.ok.bs, I.ok.bsz, I.ok.noex, I.ok.exfs, I.ok.funs, I.ok.frf⟩, I.os, I.bare, I.base, I.loc, I.cell, I.free, I.freeC, fun p hp => I.pin p (List.mem_append_left _ hp), I.hok, I.len⟩
/-- within the except suite -/
theorem Inv.mark (I : Inv X pins σ H s) (v : Value) (E : Value → Shared → Prop) : Inv { X with A := X.A.mark (some v), calm := false, xe := E } pins σ H s :=
  ⟨⟨I.ok.mod, I.ok.kind, I.ok.glob, I.ok.blt, I.ok.above, I.ok.inj, I.ok.has, I.ok.cab, (fun z => by cases z), I.ok.frames, I.ok.stk, I.ok.exf, I.ok.bs, I.ok.bsz, I.ok.noex, I.ok.exfs, I.ok.funs, I.ok.frf⟩, I.os, I.bare, I.base, I.loc, I.cell, I.free, I.freeC, I.pin, I.hok, I.len⟩
theorem Inv.unmark (hd : X.calm = true → X.A.handled = none) (I : Inv { X with A := X.A.mark (some v), calm := false, xe := E } pins σ H s) : Inv X pins σ H s :=
  ⟨⟨I.ok.mod, I.ok.kind, I.ok.glob, I.ok.blt, I.ok.above, I.ok.inj, I.ok.has, I.ok.cab, hd, I.ok.frames, I.ok.stk, I.ok.exf, I.ok.bs, I.ok.bsz, I.ok.noex, I.ok.exfs, I.ok.funs, I.ok.frf⟩, I.os, I.bare, I.base, I.loc, I.cell, I.free, I.freeC, I.pin, I.hok, I.len⟩
end

/-- try: f(..) / except C as n: y = n. Behind an error all names but y are forgotten -/
noncomputable def tTry (K : PySem.W.Frag) (N : Nat) (C : Addr) (j : Nat) (te : XK → TE) : TS := fun D σ H =>
  te (fun cls dd H' => PySem.W.exmOne K cls (.ref C) = some true ∧ ∀ a, H' a = none → D.nx ((List.replicate N none).set j (some (.ref a))) (upd H' a (excO a cls dd))) σ H fun _ H1 => D.nx σ H1
section
variable {X : Cx} {call : Expr} {te : XK → TE} {x n y : Str} {C : Addr} {i j : Nat} {px py pn hp p1 p2 pos : Pos}
theorem ps_try (hc : X.calm = true) (hst : X.stack = X.env :: X.outer) (hfr : X.env.frame = some X.env.locals) (hex : X.ex = []) (hg : Gl X x) (hm : X.mg x = some (.ref C)) (hN : X.N.Nodup) (hi : X.N[i]? = some n) (hj : X.N[j]? = some y) (hln : X.env.scope.names.lookup n = some .local) (hly : X.env.scope.names.lookup y = some .local)
    (hkn : X.env.kindOf n = some .local) (hny : y ≠ n) (hij : i ≠ j)
    (he : ∀ (pn : List (Addr × Obj)) (E' : Value → Shared → Prop) (Ec : XK), Passes (CXe X.prog X.w) { X with pn := pn, xe := E' } Ec → PE { X with pn := pn, xe := E' } call (te Ec))
    (hs : swapsWith call none p1.line X.env = pure false := by rfl) (hs2 : swapsWith (.Name n pn) (some (.Name y py)) p2.line X.env = pure false := by rfl) (hdx : (x == ("__debug__" : Str)) = false := by decide) (hdn : (n == ("__debug__" : Str)) = false := by decide) (hdc : (n == ("__classdict__" : Str)) = false := by decide) :
    PS X (.Try [.Expr call p1] [.ExceptHandler (some (.Name x px)) (some n) [.Assign [.Name y py] (.Name n pn) p2] hp] [] [] pos) (tTry X.K X.N.length C j te) := by
  intro pins s σ H D I h
  have hx : Passes (CXe X.prog X.w) { X with pn := X.pn ++ pins, xe := fun e s' => ∃ σ1 H1 s1, Inv X pins σ1 H1 s1 ∧ CXe X.prog X.w X.stack H1 s1 (fun cls dd H' => PySem.W.exmOne X.K cls (.ref C) = some true ∧ ∀ a, H' a = none → D.nx ((List.replicate X.N.length none).set j (some (.ref a))) (upd H' a (excO a cls dd))) e s' } (fun cls dd H' => PySem.W.exmOne X.K cls (.ref C) = some true ∧ ∀ a, H' a = none → D.nx ((List.replicate X.N.length none).set j (some (.ref a))) (upd H' a (excO a cls dd))) :=
    fun _ σ1 H1 s1 e s' I1 q => ⟨σ1, H1, s1, I1.ofPn, q⟩
  have body := pss_one (ps_expr (pos := p1) (he _ _ _ hx) hs) [] s σ H { nx := D.nx, rt := fun _ _ => False } (I.toPn _) h
  refine wpAny_Try_except (wpAny_mono body (fun f s1 q => ?_) fun e s' q => ?_)
  · cases f with
    | next =>
      obtain ⟨σ', H', I', q⟩ := q
      exact wpAny_execs_nil ⟨σ', H', I'.ofPn, q⟩
    | ret v => obtain ⟨_, _, _, _, _, q⟩ := q; exact q.elim
    | brk => obtain ⟨_, _, _, q⟩ := q; exact q.elim
    | cont => obtain ⟨_, _, _, q⟩ := q; exact q.elim
  · obtain ⟨σ1, H1, s1, I1, a, cls, dd, H', rfl, ho, hb, u, hok, F, hx1, hE⟩ := q
    have nw := fun b (hb : s1.heap.get? b = none) => I1.newAt hex hb
    refine catch_in I1 hst hfr hex ho hb u hok F fun h3 J F3 => ?_
    refine wpAny_handleBy_cons (codeAny_handlers_test ?_) (by intro q; cases q)
    have J2 := J.mark (.ref a) X.xe
    refine ld_glob (X := { X with A := X.A.mark (some (.ref a)), calm := false, xe := X.xe }) J2 hg hm ?_ hdx
    obtain ⟨oe, vs, T, oT, ts, hae, hcls, hrest⟩ := F3.ex
    have LT : PySem.W.Looks (model X.prog X.w) h3 (typeOf (.ref a)) cls := by
      rw [← hcls]
      exact (PySem.W.Looks.ld hae).andThen .now
    have KI : X.K.In h3 := J.kIn
    refine (PySem.W.exm_one KI LT hx1).here (s := { s' with heap := h3 }) ?_
    refine codeAny_handlers_suite_as ?_
    refine land_again J hst hfr F3 nw fun h4 J4 F4 => ?_
    obtain ⟨oe4, vs4, T4, oT4, ts4, hae4, hcls4, hdi4, hd4, _⟩ := F4.ex
    have na := nw a F.new
    have hl : X.env.locals ∈ frs X.stack := by rw [hst]; unfold frs; rw [List.filterMap_cons, hfr]; exact List.mem_cons_self
    have aL : a ≠ X.env.locals := fun z => na.2.1 (by rw [z]; exact hl)
    have aF : a ∉ X.fs := fun z => na.2.1 (by rw [hst]; unfold frs; rw [List.filterMap_cons, hfr]; exact List.mem_cons_of_mem _ z)
    have Jp : Inv X (pins ++ [(a, oe4)]) σ1 H' { s' with heap := h4 } := J4.pins_of fun p hp => by
      rcases List.mem_append.mp hp with z | z
      · exact J4.pin p (List.mem_append_right _ z)
      · have e : p = (a, oe4) := by simpa using z
        subst e
        exact ⟨hae4, F.un, aL, aF, fun v z => by rw [hd4] at z; cases z⟩
    have J5 := Jp.mark (.ref a) X.xe
    refine store_ok (X := { X with A := X.A.mark (some (.ref a)), calm := false, xe := X.xe }) J5 hN hi (.inl hln) (v := .ref a) rfl (fun s5 J6 => ?_) (.inr hln)
    have il : i < σ1.length := by rw [J4.len]; exact (List.getElem?_eq_some_iff.mp hi).1
    have jl : j < σ1.length := by rw [J4.len]; exact (List.getElem?_eq_some_iff.mp hj).1
    have suite : ∀ Err : Value → Shared → Prop, PSs { X with A := X.A.mark (some (.ref a)), calm := false, xe := Err } [.Assign [.Name y py] (.Name n pn) p2] (tAsg (tVar i) (gName j)) := fun Err =>
      pss_one (ps_set (X := { X with A := X.A.mark (some (.ref a)), calm := false, xe := Err }) (i := j) hN hj (.inl hly) (pe_var (X := { X with A := X.A.mark (some (.ref a)), calm := false, xe := Err }) hi (.inl hln) hdn hdc) hs2 (.inr hly))
    have J6' : ∀ Err : Value → Shared → Prop, Inv { X with A := X.A.mark (some (.ref a)), calm := false, xe := Err } (pins ++ [(a, oe4)]) (σ1.set i (some (.ref a))) H' s5 := fun Err => (J6.unmark I.ok.hd).mark _ Err
    refine wpAny_mono (suite _ _ s5 _ H' { nx := fun σ2 H2 => σ2[j]? = some (some (.ref a)) ∧ H2 = H', rt := fun _ _ => False } (J6' _) ⟨_, by rw [List.getElem?_set, if_pos rfl, if_pos il], by
      show ((σ1.set i (some (.ref a))).set j (some (.ref a)))[j]? = some (some (.ref a)) ∧ H' = H'
      exact ⟨by rw [List.getElem?_set, if_pos rfl, if_pos (by rw [List.length_set]; exact jl)], rfl⟩⟩) (fun f s6 q => ?_) fun _ _ q => q
    cases f with
    | ret v => obtain ⟨_, _, _, _, _, q⟩ := q; exact q.elim
    | brk => obtain ⟨_, _, _, q⟩ := q; exact q.elim
    | cont => obtain ⟨_, _, _, q⟩ := q; exact q.elim
    | next =>
      obtain ⟨σ2, H2, J7, hw, rfl⟩ := q
      have J7 := J7.unmark I.ok.hd
      obtain ⟨m, hm', hloc⟩ := J7.loc
      refine wpAny_nameGoes_keeps hkn hm' (by rw [I.ok.kind]; rfl) fun h7 v hn7 hs7 => ?_
      have J8 := J7.gone (t' := s6.toks + 1) hN hj hny hloc hn7 hs7 hw
      have e8 := (J8.pin (a, oe4) (List.mem_append_right _ (List.mem_append_right _ (by simp)))).1
      have J9 : Inv X pins ((List.replicate X.N.length none).set j (some (.ref a))) H2 { s6 with heap := h7, toks := s6.toks + 1 } := J8.pins_of fun p hp => J8.pin p (List.mem_append_right _ (List.mem_append_left _ hp))
      refine ⟨_, _, J9.trackN (o := excO a cls dd) F.un aL na.1 na.2.2.1 na.2.2.2 ?_, hE a F.un⟩
      exact ⟨⟨oe4, vs4, e8, hcls4, hdi4, hd4⟩, ⟨oe4, e8⟩, fun g1 g2 ⟨o, vs, q1, q2⟩ k => ⟨o, vs, k o q1, q2⟩⟩
end
end L2

/-! ### defs that may refuse, read over pure values -/
namespace L3
open PySem PySem.Spec PyProof.Rows L2
/-- what a call comes to: a value, or an error of a class -/
inductive Rs where
  | val (p : PV) | err (C : Addr)
structure OkE (P : Program) (w : World) (K : PySem.W.Frag) (mg : Str → Option Value) (base : Heap) (k : Nat) (x : Str) (ps : List Str) (sp : Sp) : Prop where
  ex : ∃ f fd, FnOk P w K mg base (CXe P w) k f fd ps sp ∧ Binds K fd ps [] ∧ PySem.W.keepIn K (.ref f) = true ∧ mg x = some (.ref f)
noncomputable abbrev erE (E : XK) : ER := fun C H => E (.ref C) none H
section
variable {P : Program} {w : World} {K : PySem.W.Frag} {mg : Str → Option Value} {base : Heap} {G : Gx}
end
section
variable {X : Cx} {G : Gx} {E : XK} {e : Expr} {es : List Expr} {pos p cpos np pos' : Pos} {i j k : Nat} {x y : Str} {ps : List Str} {pre : List PV → Prop} {C : En → Prop} {gs : En → List PV} {F : List PV → Rs} {Cc : Addr}
theorem pe_callE (o : OkE X.prog X.w X.K X.mg X.base j x ps sp) (hx : Passes (CXe X.prog X.w) X E) (hr : Room k X.A) (ha : PA X (e :: es) t) (hj : j ≤ k := by decide) (hg : Gl X x := by rfl) (hdb : (x == ("__debug__" : Str)) = false := by decide)
    (he : starEach (e :: es) X.env = (false, eval e X.env) :: starEach es X.env := by rfl) (hpl : (backTo pos (starEach es X.env)).any (·.1) = false := by rfl) : PE X (.Call (.Name x p) (e :: es) [] pos) (tCall sp [] E t) := by
  obtain ⟨f, fd, F, b, kp, m⟩ := o.ex
  exact pe_call (F.mono hj) hr hg m kp b .nil hx ha hdb he hpl
theorem passE0 : Passes (CXe X.prog X.w) X E0 := fun _ _ _ _ _ _ _ h => by obtain ⟨_, _, _, _, _, _, _, _, _, _, q⟩ := h; exact q.elim
/-- a call that does not refuse here -/
noncomputable def Rs.get : Rs → PV
  | .val p => p
  | .err _ => .non
noncomputable def Rs.isV : Rs → Prop
  | .val _ => True
  | .err _ => False
/-- raise C(..) -/
theorem xst_raise (hn : NewTo X E) (hc : X.calm = true) (q : ExcC X.K Cc) (hg : Gl X x) (hm : X.mg x = some (.ref Cc)) (ha : PA X (e :: es) (tXs X.K G C gs)) (hlen : ∀ ρ, (gs ρ).length = (e :: es).length := by intro _; rfl) (hz : (e :: es).length ≤ 1000 := by decide)
    (hdb : (x == ("__debug__" : Str)) = false := by decide) (he : starEach (e :: es) X.env = (false, eval e X.env) :: starEach es X.env := by rfl) (hpl : (backTo cpos (starEach (e :: es) X.env)).any (·.1) = false := by rfl) :
    PS X (.Raise (some (.Call (.Name x np) (e :: es) [] cpos)) none pos) (ts X.K G (erE E) fun P ρ => C ρ ∧ P.er Cc) :=
  toS (ps_raise hn hc q hg hm ha hz hdb he hpl fun σ H Q ⟨B, ρ, O, R, c, q⟩ => ⟨B, ρ, O, R, c, fun vs H1 s1 a1 => ⟨by rw [← a1.length]; exact hlen ρ, q vs H1 s1 a1⟩⟩) fun B σ H ρ O P D R c w => ⟨B, ρ, O, R, c.1, fun _ H1 s1 _ => w.er H1 Cc (R.same.trans s1) c.2⟩
end
end L3

/-! ### isinstance of a caught error; a try read over pure values -/
namespace L2
open PySem PySem.Spec PyProof.Rows
theorem err_class {prog : Program} {w : World} {A : Around} {E : Value → Shared → Prop} {s : Shared} {K : PySem.W.Frag} {x C : Addr} {o : Obj} {Q : Option Value → Shared → Prop} (X : K.In s.heap) (I : PySem.W.InstAt s.heap x o C none)
    (hga : PySem.W.findIn K (.ref C) "__getattribute__" = some (some (.builtin "BaseException.__getattribute__"))) (hk : PySem.W.findIn K (.ref C) "__getattr__" = some none) (hb : PySem.W.mroIn K C (.type "BaseException") = some true)
    (hf : PySem.W.findObj K C none "__class__" = some (.bind (.builtin "getset_descriptor.__get__") (.builtin "object.__class__"))) (hm : PySem.W.mroIn K C (.type "object") = some true)
    (k : Q (some (.ref C)) { s with toks := s.toks + 1 }) : wpAny (model prog w) A (getAttr? (.ref x) "__class__") Q E s := by
  obtain ⟨hh, g, d, t, os⟩ := s
  have L0 := I.type (M := model prog w)
  have L1 := PySem.W.looks_findIn (M := model prog w) X hga
  have Lk := PySem.W.looks_findIn (M := model prog w) X hk
  have Lb := PySem.W.looks_mroIn (M := model prog w) X hb
  have Lf := PySem.W.looks_find (M := model prog w) X I hf
  have bnd := (PySem.F.attr_ValueError.ga).bind (.ref x)
  unfold getAttr? getAttrBy? getAttrBy
  refine wpAny_bind (wpAny_mkText (wpAny_bind (wpAny_attempt (wpAny_holding (wpAny_bind (L0.at (wpAny_bind (L1.at ?_))))))))
  unfold getAttrByItsOwn hookBefore
  rw [if_pos (show onTheHeap (.ref C) = true from rfl)]
  refine wpAny_bind (Lk.at ?_)
  refine wpAny_bind (wpAny_attempt (wpAny_holding ?_))
  show wpAny _ _ (boundAndCalled _ _ _) _ _ _
  unfold boundAndCalled
  rw [bnd]
  refine wpAny_bind (wpAny_pure ?_)
  refine wpAny_call (codeAny_call_builtin PySem.F.attr_ValueError.ga.plain PySem.F.entry_bexc_ga ?_)
  have hkk : builtinKind "BaseException.__getattribute__" = some .slot := by decide +kernel
  have hsplit : splitId "BaseException.__getattribute__" = some ("BaseException", "__getattribute__") := by decide +kernel
  have haa := PySem.F.args_bexc_ga (.ref x) (.str "__class__" t)
  simp only [checkBuiltinCall, hkk, hsplit]
  have LI : PySem.W.Looks (model prog w) hh (isInstance (.ref x) (.type "BaseException")) true := L0.andThen Lb
  refine wpAny_bind (LI.at ?_)
  rw [if_neg (by decide)]
  refine wpAny_of_eq (a := ()) haa ?_
  unfold Builtin.«object.__getattribute__»
  refine wpAny_bind (wpAny_of_eq (a := (.ref x, [.str "__class__" t])) rfl ?_)
  refine wpAny_bind (wpAny_pure (wpAny_bind (L0.at (wpAny_bind (Lf.at ?_)))))
  refine wpAny_bind (wpAny_holding (wpAny_call ?_))
  refine PySem.W.class_get (s := ⟨hh, g, d, t + 1, os⟩) (ox := o) (od := none) X I hm ?_
  exact wpAny_pure (PySem.W.handed_on rfl (wpAny_pure k))
/-- what isinstance asks of an error's own class -/
structure ErrK (K : PySem.W.Frag) (C : Addr) : Prop where
  hg : PySem.W.findIn K (.ref C) "__getattribute__" = some (some (.builtin "BaseException.__getattribute__"))
  hk : PySem.W.findIn K (.ref C) "__getattr__" = some none
  hb : PySem.W.mroIn K C (.type "BaseException") = some true
  hd : PySem.W.hasDictIn K C = true
  ha : PySem.W.findIn K (.ref C) "__class__" = some (some (.builtin "object.__class__"))
  hn : PySem.W.specialIn K (.builtin "object.__class__") "__get__" = some (some (.builtin "getset_descriptor.__get__"))
  htk : PySem.W.takesIn K (.builtin "object.__class__") = some true
  hm : PySem.W.mroIn K C (.type "object") = some true
noncomputable abbrev excP (a : Addr) (cls : Value) : Heap → Prop := fun h => ∃ o vs, h.get? a = some o ∧ o.cls = cls ∧ o.dict = none ∧ o.data = .fields vs
theorem ErrK.lk {K : PySem.W.Frag} {C : Addr} (F : ErrK K C) : ∃ c d cd sl, K.lookup C = some ⟨c, d, .cls cd, sl⟩ := by
  obtain ⟨cd, hc, _⟩ := PySem.W.any_some F.hd
  unfold PySem.W.clsIn at hc
  split at hc
  · rename_i c' d' cd' sl' ho
    exact ⟨c', d', cd', sl', ho⟩
  · cases hc
theorem kitx_err {K : PySem.W.Frag} {x C : Addr} (F : ErrK K C) : PySem.W.KitX K (.ref x) (.ref C) (excP x (.ref C)) where
  ty := fun _ _ _ ⟨_, _, e, hc, _⟩ => by
    rw [← hc]
    exact (PySem.W.Looks.ld e).andThen .now
  it := fun _ _ X _ => by
    obtain ⟨c, d, cd, sl, ho⟩ := F.lk
    intro A Q E s k q
    unfold isType loadHead
    exact wpAny_bind (wpAny_loadPart (k _ _ (X _ _ ho)) (wpAny_pure q))
  ne := fun h tp dd its n sl X htp => by
    obtain ⟨c, d, cd, sl', ho⟩ := F.lk
    refine Bool.eq_false_iff.mpr fun q => ?_
    obtain rfl : C = tp := Value.ref.inj (beq_iff_eq.mp q)
    have z := (X _ _ ho).symm.trans htp
    cases z
  ca := fun {_ _ _ _ _ s} X ⟨o, vs, e, hc, hdi, hd⟩ k => by
    have I : PySem.W.InstAt s.heap x o C none := ⟨e, hc, by unfold PySem.W.notCls; rw [hd], by rw [hdi]; exact True.intro⟩
    have hf : PySem.W.findObj K C none "__class__" = some (.bind (.builtin "getset_descriptor.__get__") (.builtin "object.__class__")) := by
      obtain ⟨cd, hc', _⟩ := PySem.W.any_some F.hd
      unfold PySem.W.findObj
      rw [hc', Option.bind_some, F.ha, Option.bind_some]
      simp [F.hn, F.htk]
    exact err_class X I F.hg F.hk F.hb hf F.hm k
noncomputable def rIsx (K : PySem.W.Frag) : List V → Hp → VK → Prop := fun xs H Q => (∃ x c t cv b, xs = [x, c] ∧ clsV c = some cv ∧ TyOf K H x t ∧ PySem.W.kitOne K t cv = some b ∧ Q (.bl b) H) ∨
  ∃ a c C cv b, xs = [.ref a, c] ∧ clsV c = some cv ∧ H a = some (excO a (.ref C)) ∧ ErrK K C ∧ PySem.W.kitOne K (.ref C) cv = some b ∧ Q (.bl b) H
theorem call_isx : CallR X (.builtin "isinstance") (rIsx X.K) := by
  intro pins s σ H xs us Q I r h
  rcases h with h | ⟨a, c, C, cv, b, rfl, hc, ha, F, e, q⟩
  · exact call_isinst pins s σ H xs us Q I r h
  · obtain ⟨u, w', rfl, r1, r2⟩ := vals2 r
    obtain rfl := clsV_rel hc r2
    obtain rfl : u = .ref a := r1
    exact PySem.W.kia_one (kitx_err F) I.kIn (I.hok a _ ha).1 e (fun z => nomatch z) fun tk => ⟨.bl b, H, I.tok tk, rfl, q⟩
end L2
namespace L3
open PySem PySem.Spec PyProof.Rows L2
/-- objects of sort 1 are caught errors, numbered by their class -/
structure GErr (G : Gx) : Prop where
  into : ∀ (H : Hp) (a C : Addr), H a = some (excO a (.ref C)) → G.ob 1 H a (C : Nat)
  get : ∀ (H : Hp) (a : Addr) (z : Int), G.ob 1 H a z → ∃ C : Addr, z = (C : Nat) ∧ H a = some (excO a (.ref C))
noncomputable def instOkX (K : PySem.W.Frag) (p c : PV) : Prop := instOk K p c ∨ ∃ C cv b, p = .ob 1 ((C : Nat) : Int) ∧ ErrK K C ∧ clsP c = some cv ∧ PySem.W.kitOne K (.ref C) cv = some b
noncomputable def instPX (K : PySem.W.Frag) : PV → PV → Bool
  | .ob _ z, c => match clsP c with
    | some cv => PySem.W.kitOne K (.ref z.toNat) cv == some true
    | none => false
  | p, c => instP K p c
theorem instPX_err {K : PySem.W.Frag} {c : PV} {k C : Nat} {cv : Value} {b : Bool} (h2 : clsP c = some cv) (h : PySem.W.kitOne K (.ref C) cv = some b) : instPX K (.ob k ((C : Nat) : Int)) c = b := by
  show (match clsP c with | some cv => PySem.W.kitOne K (.ref ((C : Nat) : Int).toNat) cv == some true | none => false) = b
  rw [h2]
  show (PySem.W.kitOne K (.ref ((C : Nat) : Int).toNat) cv == some true) = b
  rw [Int.toNat_natCast, h]
  cases b <;> rfl
theorem instPX_of {K : PySem.W.Frag} {p c : PV} {t : Value} (h1 : tyP p = some t) : instPX K p c = instP K p c := by
  cases p <;> first | rfl | cases h1
section
variable {X : Cx} {G : Gx} {a c e : Expr} {es : List Expr} {pos p : Pos} {Ca Cc C : En → Prop} {ga gc : En → PV}
theorem xe_isx (hG : GErr G) (hm : X.mg "isinstance" = none) (ha : PE X a (tX X.K G Ca ga)) (hc : PE X c (tX X.K G Cc gc)) (hg : Gl X "isinstance" := by rfl) (he : starEach [a, c] X.env = (false, eval a X.env) :: starEach [c] X.env := by rfl) (he2 : starEach [c] X.env = [(false, eval c X.env)] := by rfl)
    (hpl : (backTo pos (starEach [c] X.env)).any (·.1) = false := by rfl) :
    PE X (.Call (.Name "isinstance" p) [a, c] [] pos) (tXB X.K G (fun ρ => Ca ρ ∧ Cc ρ ∧ instOkX X.K (ga ρ) (gc ρ)) fun ρ => instPX X.K (ga ρ) (gc ρ) = true) :=
  toX (pe_callB call_isx hg hm bt_isinstance (pa_cons ha (pa_cons hc pa_nil he2) he) (by decide) (by decide) he hpl) fun B σ H ρ O Q R cc q => ⟨B, ρ, O, R, cc.1, fun v H1 s1 a1 => ⟨B, ρ, O, R.grow s1, cc.2.1, fun u H2 s2 a2 => by
    rcases cc.2.2 with ⟨t, cv, b, h1, h2, h3⟩ | ⟨C, cv, b, h1, F, h2, h3⟩
    · refine .inl ⟨v, u, t, cv, b, rfl, At.cls a2 h2, TyOf.up (mn_le.trans s2) (a1.ty h1), h3, q _ H2 (s1.trans s2) ?_⟩
      show V.bl b = V.bl (decide (instPX X.K (ga ρ) (gc ρ) = true))
      rw [instPX_of h1, instP_of h1 h2 h3, Bool.decide_eq_true]
    · have a1' := At.mono (mn_same s2) _ _ a1
      rw [h1] at a1'
      obtain ⟨ad, rfl, ob⟩ := a1'
      obtain ⟨C', ez, hx⟩ := hG.get _ _ _ ob
      obtain rfl : C = C' := Int.ofNat.inj ez
      refine .inr ⟨ad, u, C, cv, b, rfl, At.cls a2 h2, mn_le _ _ hx, F, h3, q _ H2 (s1.trans s2) ?_⟩
      show V.bl b = V.bl (decide (instPX X.K (ga ρ) (gc ρ) = true))
      rw [h1, instPX_err h2 h3, Bool.decide_eq_true]⟩⟩
end
section
variable {X : Cx} {G : Gx} {Er : ER} {e : Expr} {es : List Expr} {C : En → Prop} {gs : En → List PV} {pre : List PV → Prop} {F : List PV → Rs} {f x n y : Str} {Cc : Addr} {i j k l : Nat} {ps : List Str} {px py pn hp p1 p2 pos p cpos : Pos}
/-- behind a caught error: y alone, the error -/
noncomputable abbrev onlyE (N : Nat) (j : Nat) (C : Addr) : En := (List.replicate N Sl.un).set j (.fr (.ob 1 ((C : Nat) : Int)))
theorem rep_only {B : Bs} {σ : L2.St} {H H' : Hp} {ρ : En} {O : Addr → Bool} {a : Addr} {N : Nat} (hG : GErr G) {K : PySem.W.Frag} (R : Rep K G B σ H ρ O) (s : Same H H') (ha : H' a = none) : Rep K G B ((List.replicate N none).set j (some (.ref a))) (upd H' a (excO a (.ref Cc))) (onlyE N j Cc) O := by
  have R1 := (R.grow s).grow (same_new ha (excO a (.ref Cc)))
  have oa : O a = false := by
    cases z : O a with
    | false => rfl
    | true => exact absurd ha ((R.grow s).dom a z)
  have un : ∀ (m : Nat) (q : Sl), (List.replicate N Sl.un)[m]? = some q → q = .un := fun m q e => by
    rw [List.getElem?_replicate] at e
    split at e
    · cases e; rfl
    · cases e
  refine ⟨R1.same, R1.cd, R1.hid, R1.dom, R1.vis, fun m q e => ?_, fun m q e => ?_, fun m m' q q' b e => ?_, by simp, fun m xs ys e => ?_⟩
  · rcases set_at e with ⟨rfl, e, l⟩ | ⟨_, e⟩
    · cases e
      rw [List.length_replicate] at l
      refine ⟨.ref a, set_eq (by rw [List.length_replicate]; exact l), a, rfl, hG.into _ _ _ ?_⟩
      rw [mn_of oa]; exact upd_same
    · cases un m _ e
  · rcases set_at e with ⟨_, e, _⟩ | ⟨_, e⟩
    · cases e
    · cases un m _ e
  · rcases set_at e with ⟨_, e, _⟩ | ⟨_, e⟩
    · cases e
    · cases un m _ e
  · rcases set_at e with ⟨_, e, _⟩ | ⟨_, e⟩
    · cases e
    · cases un m _ e
end
end L3

/-! ### lists compared, sums, kinds made, comprehensions with a test, zip, a tuple taken apart -/
namespace L2
open PySem PySem.Spec PyProof.Rows
theorem ints_are : ∀ {ns : List Int} {its : List Value}, Vals (ns.map V.int) its → IntsAre its ns
  | [], _, h => by cases h; exact .nil
  | n :: r, _, h => by
    cases h with
    | cons a b =>
      obtain ⟨t, rfl⟩ := a
      exact .cons n t (ints_are b)
noncomputable def rEqL (g : List Int → List Int → Bool) : R2 := fun x y H Q => ∃ a b ns ms, x = .ref a ∧ y = .ref b ∧ Rd H a (.lst (ns.map V.int)) ∧ Rd H b (.lst (ms.map V.int)) ∧ Q (.bl (g ns ms)) H
section
variable {X : Cx}
theorem op_neLs (hu : X.A.units + 64 < cLine) : OpR X (compareOp .NotEq) (rEqL fun ns ms => decide (¬ ns = ms)) := by
  intro pins s σ H x y v u Q I rx ry h
  obtain ⟨a, b, ns, ms, rfl, rfl, ha, hb, q⟩ := h
  cases rx
  cases ry
  obtain ⟨_, its, n, r, _, e⟩ := L3.Inv.lstR I ha
  obtain ⟨_, its2, n2, r2, _, e2⟩ := L3.Inv.lstR I hb
  have q : Q (.bl (decide (¬ ns = ms))) H := q
  rw [decide_not] at q
  exact PySem.W.ke_ne_ints ⟨_, e, rfl, _, rfl⟩ ⟨_, e2, rfl, _, rfl⟩ (ints_are r) (ints_are r2) hu ⟨.bl _, H, I, rfl, q⟩
end
/-- zip(the list at a, the list at b): a pair each turn -/
noncomputable def Itz (K : PySem.W.Frag) (a b : Addr) : It :=
  ⟨fun i H => ∃ xs ys x y, SqL K H a xs ∧ SqL K H b ys ∧ xs[i]? = some x ∧ ys[i]? = some y,
   fun i H v H' => ∃ T x y, v = .ref T ∧ H T = none ∧ H' = upd H T (.tup [x, y]) ∧ (∀ xs, SqL K H a xs → xs[i]? = some x) ∧ ∀ ys, SqL K H b ys → ys[i]? = some y,
   fun i H => ∃ xs ys, SqL K H a xs ∧ SqL K H b ys ∧ (xs.length ≤ i ∨ ys.length ≤ i)⟩
theorem turn_zip {P : Program} {w : World} {K : PySem.W.Frag} {els : List Expr} {kk : Nat} {tp : Pos} (a b z TI TO i1 i2 : Addr) (D : ZipApart z TI TO i1 i2 a b) :
    Turn P w K (.Tuple els kk tp) (Itz K a b) [z, TI, TO, i1, i2] z (fun i h => IsZip h z TI TO .none ∧ IsPair h TI (.ref i1) (.ref i2) ∧ (∃ u v, IsPair h TO u v) ∧ h.IsListIter i1 a i ∧ h.IsListIter i2 b i) where
  mem := by simp
  obj := fun i h st c hc => by
    obtain ⟨hz, hTI, ⟨u, v, hTO⟩, ⟨o1, q1, _, d1⟩, ⟨o2, q2, _, d2⟩⟩ := st
    rcases List.mem_cons.mp hc with rfl | hc
    · exact ⟨_, hz, fun v y => by cases y⟩
    rcases List.mem_cons.mp hc with rfl | hc
    · exact ⟨_, hTI, fun v y => by cases y⟩
    rcases List.mem_cons.mp hc with rfl | hc
    · exact ⟨_, hTO, fun v y => by cases y⟩
    rcases List.mem_cons.mp hc with rfl | hc
    · exact ⟨o1, q1, fun v y => by rw [d1] at y; cases y⟩
    · have e : c = i2 := by simpa using hc
      subst e
      exact ⟨o2, q2, fun v y => by rw [d2] at y; cases y⟩
  keep := fun i h h' st k => by
    obtain ⟨hz, hTI, ⟨u, v, hTO⟩, h1, h2⟩ := st
    exact ⟨k z (by simp) _ hz, k TI (by simp) _ hTI, ⟨u, v, k TO (by simp) _ hTO⟩, h1.at fun o q => k i1 (by simp) o q, h2.at fun o q => k i2 (by simp) o q⟩
  item := by
    intro X hP hw hK hc i pins s σ H E I hf st hg
    subst hP hw hK
    obtain ⟨xs, ys, x, y, hqa, hqb, hx, hy⟩ := hg
    obtain ⟨hz, hTI, ⟨p0, q0, hTO⟩, h1, h2⟩ := st
    obtain ⟨its, rv, pa, hza⟩ := I.list hqa
    obtain ⟨u, hu, ru⟩ := rv.get hx
    obtain ⟨its2, rv2, pb, hzb⟩ := I.list hqb
    obtain ⟨u2, hu2, ru2⟩ := rv2.get hy
    refine wpAny_pyNext_zip_item D hz hTI hTO h1 h2 pa.isList pb.isList (x := u) (y := u2) (by simpa using hu) (by simpa using hu2) fun h' hz' hTO' h1' h2' hT hsz hk => ⟨_, rfl, ?_⟩
    refine wpAny_letOwnedTupleGo_zip hz' fun h2h hz2 hs2 => ?_
    have Tz : s.heap.objs.size ≠ z := Nat.ne_of_gt (Heap.lt_size hz)
    have keep2 : ∀ c o, c ∉ [z, TI, TO, i1, i2] → s.heap.get? c = some o → h2h.get? c = some o := fun c o hc q => by
      have c1 : c ≠ z := fun e => hc (by simp [e])
      exact (hs2.2 c c1).trans (hk c o c1 (fun e => hc (by simp [e])) (fun e => hc (by simp [e])) (fun e => hc (by simp [e])) q)
    have I1 : Inv X pins σ H { s with heap := h2h, toks := s.toks } := I.turnedL hf keep2
    have fT : FpOk X pins H s.heap.objs.size := I.fpOk (Nat.le_refl _) (I.hok.fresh (Nat.le_refl _))
    have I2 := I1.track (o := .tup [x, y]) fT ⟨by show 2 ≤ sizeLine; decide, [u, u2], .cons ru (.cons ru2 .nil), ⟨_, (hs2.2 _ Tz).trans hT, rfl, _, rfl⟩⟩
    have up : ∀ c o, c ≠ z → h'.get? c = some o → h2h.get? c = some o := fun c o c1 q => (hs2.2 c c1).trans q
    refine ⟨.ref s.heap.objs.size, _, I2, rfl, ⟨_, x, y, rfl, fT.1, rfl, fun zs hq => by rw [I.list_inj hq hqa]; exact hx, fun zs hq => by rw [I.list_inj hq hqb]; exact hy⟩, ⟨hz2, ?_, ⟨u, u2, up _ _ D.TOz hTO'⟩, h1'.at fun o q => up _ o D.i1z q, h2'.at fun o q => up _ o D.i2z q⟩, fun c hc => ?_⟩
    · exact up _ _ D.TIz (hk _ _ D.TIz D.TITO D.TIi1 D.TIi2 hTI)
    · have lt : c < s.heap.objs.size := by
        rcases List.mem_cons.mp hc with rfl | hc
        · exact Heap.lt_size hz
        rcases List.mem_cons.mp hc with rfl | hc
        · exact Heap.lt_size hTI
        rcases List.mem_cons.mp hc with rfl | hc
        · exact Heap.lt_size hTO
        rcases List.mem_cons.mp hc with rfl | hc
        · obtain ⟨o, q, _⟩ := h1; exact Heap.lt_size q
        · have e : c = i2 := by simpa using hc
          subst e
          obtain ⟨o, q, _⟩ := h2; exact Heap.lt_size q
      rw [upd_ne (Nat.ne_of_lt lt)]
      exact (hf c hc).1
  done := by
    intro X hP hw hK hc i pins s σ H E I hf st hg
    subst hP hw hK
    obtain ⟨xs, ys, hqa, hqb, hx⟩ := hg
    obtain ⟨hz, hTI, ⟨p0, q0, hTO⟩, h1, h2⟩ := st
    obtain ⟨its, rv, pa, hza⟩ := I.list hqa
    obtain ⟨its2, rv2, pb, hzb⟩ := I.list hqb
    have hl := rv.length
    have hl2 := rv2.length
    refine wpAny_pyNext_zip_end (I.ok.hd hc) D hz hTI hTO h1 h2 pa.isList pb.isList ?_ fun h' hk => ⟨rfl, I.turnedL (t' := s.toks) hf fun c o hc q => hk c o (fun e => hc (by simp [e])) (fun e => hc (by simp [e])) (fun e => hc (by simp [e])) (fun e => hc (by simp [e])) q⟩
    rcases hx with h | h
    · exact .inl (by simp; omega)
    · exact .inr (by simp; omega)
  self := fun A i s Q E st h => wpAny_pyIter_zip st.1 h
theorem bt_zip : bootBuiltins "zip" = some (.type "zip") := by decide +kernel
noncomputable def iZip (K : PySem.W.Frag) (ta : TA) : TI := fun σ H R => ta σ H fun vs H1 => ∃ a b, vs = [.ref a, .ref b] ∧ (∃ xs, SqL K H1 a xs) ∧ (∃ xs, SqL K H1 b xs) ∧ R (Itz K a b) H1
theorem pi_zip {X : Cx} {els : List Expr} {kk : Nat} {tp : Pos} {l l2 : Expr} {ta : TA} {p pos : Pos} (hg : Gl X "zip") (hm : X.mg "zip" = none) (ha : PA X [l, l2] ta) (hs : starEach [l, l2] X.env = (false, eval l X.env) :: starEach [l2] X.env := by rfl) (hpl : (backTo pos (starEach [l2] X.env)).any (·.1) = false := by rfl) :
    PI X (.Tuple els kk tp) (.Call (.Name "zip" p) [l, l2] [] pos) (iZip X.K ta) := by
  intro pins s σ H R I h
  refine Call_ (ld_blt I hg hm bt_zip (PyProof.Rows.callWith_type1 (thn (ha pos pins s σ H _ I h) fun us s1 ⟨vs, H1, I1, r1, q1⟩ => ?_) hs hpl))
  obtain ⟨a, b, rfl, ⟨xs, hqa⟩, ⟨ys, hqb⟩, q⟩ := q1
  obtain ⟨u, u2, rfl, ru, ru2⟩ := vals2 r1
  cases ru
  cases ru2
  obtain ⟨its, rv, pa, hza⟩ := I1.list hqa
  obtain ⟨its2, rv2, pb, hzb⟩ := I1.list hqb
  have la : a < s1.heap.objs.size := by obtain ⟨o, e, _⟩ := pa.isList; exact Heap.lt_size e
  have lb : b < s1.heap.objs.size := by obtain ⟨o, e, _⟩ := pb.isList; exact Heap.lt_size e
  refine call_zip_2 pa.isList pb.isList fun h1 hz hTI hTO h1i h2i hsz hk => ?_
  refine wpAny_pyIter_zip hz ?_
  have I2 : Inv X pins σ H1 { s1 with heap := h1 } := I1.kept (t' := s1.toks) hk
  have D : ZipApart (s1.heap.objs.size + 4) (s1.heap.objs.size + 2) (s1.heap.objs.size + 3) s1.heap.objs.size (s1.heap.objs.size + 1) a b := by
    have la' : @LT.lt Nat _ a s1.heap.objs.size := la
    have lb' : @LT.lt Nat _ b s1.heap.objs.size := lb
    constructor <;> (show @Ne Nat _ _) <;> omega
  refine ⟨_, [s1.heap.objs.size + 4, s1.heap.objs.size + 2, s1.heap.objs.size + 3, s1.heap.objs.size, s1.heap.objs.size + 1], _, _, H1, rfl, I2, turn_zip a b _ _ _ _ _ D, ⟨hz, hTI, ⟨_, _, hTO⟩, h1i, h2i⟩, fun c hc => ?_, q⟩
  have le : s1.heap.objs.size ≤ c := by
    simp only [List.mem_cons, List.not_mem_nil, or_false] at hc
    rcases hc with h | h | h | h | h <;> rw [h] <;> first | exact Nat.le_refl _ | exact Nat.le_add_right _ _
  exact I1.fpOk le (I1.hok.fresh le)
end L2
namespace L3
open PySem PySem.Spec PyProof.Rows L2
section
variable {X : Cx} {G : Gx} {Er : ER} {a b e : Expr} {pos p px apos : Pos} {C Ca Cb : En → Prop} {gl hl : En → List Int} {i j k : Nat} {x : Str}
/-- a list of numbers that is read and let go: one's own, or not -/
theorem rlO (i : Nat) (hN : X.N[i]? = some x := by rfl) (hv : Vis X.env.scope x := by first | exact Or.inl rfl | exact Or.inr (Or.inl rfl) | exact Or.inr (Or.inr rfl))
    (hd : (x == ("__debug__" : Str)) = false := by decide) (hcd : (x == ("__classdict__" : Str)) = false := by decide) : PE X (.Name x pos) (tXr X.K G (fun ρ => isL ρ i ∨ isO ρ i) fun ρ => .ints (getL ρ i)) :=
  fun pins s σ H Q I ⟨B, ρ, O, R, c, q⟩ => pe_var hN hv hd hcd pins s σ H Q I (by
    rcases c with c | c
    · obtain ⟨v, e1, a, rfl, r⟩ := R.fr i _ c
      exact ⟨_, e1, q _ H (Same.refl H) ⟨a, rfl, same_rd mn_le r⟩⟩
    · obtain ⟨a, vs, e1, e2, e3, e4, e5⟩ := R.ow i _ c
      subst e5
      exact ⟨_, e1, q _ H (Same.refl H) ⟨a, rfl, .inl e4⟩⟩)
theorem two_r (R : Rep X.K G B σ H ρ O) (ca : Ca ρ) (cb : Cb ρ) (q : ∀ l m H1 H2, Same H H1 → Same H1 H2 → Rd H2 l (.lst ((gl ρ).map V.int)) → Rd H2 m (.lst ((hl ρ).map V.int)) → r (.ref l) (.ref m) H2 Q) :
    tOp r (tXr X.K G Ca fun ρ => .ints (gl ρ)) (tXr X.K G Cb fun ρ => .ints (hl ρ)) σ H Q :=
  ⟨B, ρ, O, R, ca, fun v H1 s1 a1 => ⟨B, ρ, O, R.grow s1, cb, fun u H2 s2 a2 => by
    obtain ⟨l, rfl, r1⟩ := a1
    obtain ⟨m, rfl, r2⟩ := a2
    exact q l m H1 H2 s1 s2 (same_rd s2 r1) r2⟩⟩
theorem xt_neL (hu : X.A.units + 64 < cLine) (ha : PE X a (tXr X.K G Ca fun ρ => .ints (gl ρ))) (hb : PE X b (tXr X.K G Cb fun ρ => .ints (hl ρ))) : PT X (.Compare a [.NotEq] [b] pos) (tXT X.K G (fun ρ => Ca ρ ∧ Cb ρ) fun ρ => ¬ gl ρ = hl ρ) :=
  fun pins s σ H Q I ⟨_, _, _, R, c, q⟩ => pt_cmpR (op_neLs hu) ha hb (nomark _) pins s σ H Q I (two_r R c.1 c.2 fun l m _ H2 s1 s2 r1 r2 => ⟨l, m, _, _, rfl, rfl, r1, r2, _, rfl, q H2 (s1.trans s2)⟩)
/-! values that are new: told by a def whose caller goes on changing what it handed in -/
/-- an item of a list or tuple of values, known to be a number, a list of numbers -/
noncomputable def pvI : PV → Int
  | .int n => n
  | _ => 0
noncomputable def pvL : PV → List Int
  | .ints ns => ns
  | _ => []
theorem xn_of (h : PE X e (tX X.K G C g)) : PE X e (tXI X.K G (fun ρ => C ρ ∧ g ρ = .int (pvI (g ρ))) fun ρ => pvI (g ρ)) :=
  toX h fun B σ H ρ O Q R c q => ⟨B, ρ, O, R, c.1, fun v H' s a => q v H' s (by rw [← c.2]; exact a)⟩
theorem xl_of (h : PE X e (tX X.K G C g)) : PE X e (tXL X.K G (fun ρ => C ρ ∧ g ρ = .ints (pvL (g ρ))) fun ρ => pvL (g ρ)) :=
  toX h fun B σ H ρ O Q R c q => ⟨B, ρ, O, R, c.1, fun v H' s a => q v H' s (by rw [← c.2]; exact a)⟩
noncomputable def pvP : PV → List PV
  | .lst xs => xs
  | _ => []
theorem xp_of (h : PE X e (tX X.K G C g)) : PE X e (tX X.K G (fun ρ => C ρ ∧ g ρ = .lst (pvP (g ρ))) fun ρ => .lst (pvP (g ρ))) :=
  toX h fun B σ H ρ O Q R c q => ⟨B, ρ, O, R, c.1, fun v H' s a => q v H' s (by rw [← c.2]; exact a)⟩
/-- x, y = a tuple of two -/
theorem xst_unp (he : PE X e (tX X.K G C g)) (hgt : PG X (.Tuple [.Name x px, .Name y py] kk tp) (gTup X.K 2 (gCons (gName i) (gCons (gName j) gNil))))
    (hs : swapsWithSole [.Tuple [.Name x px, .Name y py] kk tp] e pos.line X.env = pure false := by rfl) (hw : swappedStores [.Tuple [.Name x px, .Name y py] kk tp] e X.env = pure none := by rfl)
    (h1 : (assignEach [.Tuple [.Name x px, .Name y py] kk tp] X.env).map (·.2) = [assign (.Tuple [.Name x px, .Name y py] kk tp) X.env] := by rfl) :
    PS X (.Assign [.Tuple [.Name x px, .Name y py] kk tp] e pos) (ts X.K G Er fun P ρ => C ρ ∧ ∃ u v, g ρ = .tup [u, v] ∧ P.nx ((ρ.set i (.fr u)).set j (.fr v))) :=
  toS (ps_asg he hgt hs hw h1) fun B σ H ρ O P D R c w => by
    obtain ⟨c1, u, v, eg, c3⟩ := c
    refine ⟨B, ρ, O, R, c1, fun t H1 s1 a1 => ?_⟩
    rw [eg] at a1
    obtain ⟨l, vs, rfl, hl, v1, r1, rfl, b1, v2, r2, rfl, b2, rfl⟩ := a1
    exact ⟨l, _, rfl, SqT.of (mn_le _ _ hl), rfl, _, _, rfl, _, _, rfl, rfl, w.nx _ H1 _ ⟨O, ((R.grow s1).set b1).set b2⟩ c3⟩
end
section
variable {P : Program} {w : World} {K : PySem.W.Frag} {mg : Str → Option Value} {base : Heap} {G : Gx}
end
/-! kinds that are made where they are used -/
noncomputable def spNewW (C : Addr) : Sp := fun vs H Q _ => ∃ x dx : Addr, vs = [.ref x] ∧ H x = some (.ins C dx []) ∧ Q .non (upd H x (.ins C dx [("size", .int 0)]))
theorem mk_seen {H : Hp} {O : Addr → Bool} {x : Addr} (hd : ∀ a, O a = true → H a ≠ none) (hx : H x = none) {H' : Hp} : mn H' O x = H' x := mn_of (by
  cases z : O x with
  | false => rfl
  | true => exact absurd hx (hd x z))
theorem mk_grow (hx : H x = none) (hd : H dx = none) : Same H (upd (upd (upd H dx (.own x)) x (.ins C dx [])) x (.ins C dx fs)) := same_mk fun b o e => by
  rw [upd_ne (ne_of_none e hx), upd_ne (ne_of_none e hx), upd_ne (ne_of_none e hd)]
  exact e
/-- Wholes alone -/
noncomputable def KW (cW : Addr) (H : Hp) (a : Addr) (z : Int) : Prop := z = 0 ∧ ∃ dx fs, H a = some (.ins cW dx fs) ∧ fs.lookup ("size" : Str) = some (.int 0) ∧ ∀ m ∈ kMeths, fs.lookup m = none
theorem KW.same (k : KW cW H a z) (s : Same H H') : KW cW H' a z := by
  obtain ⟨e0, dx, fs, e, r⟩ := k
  exact ⟨e0, dx, fs, s _ _ e, r⟩
section
variable {X : Cx} {G : Gx} {pos p : Pos} {j k : Nat} {x : Str} {C : Addr}
theorem xk_W (o : OkI X.prog X.w X.K X.mg X.base CX0 j x C ["self"] (spNewW C)) (hr : Room k X.A) (hG : ∀ (H : Hp) (a dx : Addr), H a = some (.ins C dx [("size", .int 0)]) → G.ob 0 H a 0) (hj : j + 1 ≤ k := by decide) (hg : Gl X x := by rfl) (hdb : (x == ("__debug__" : Str)) = false := by decide) :
    PE X (.Call (.Name x p) [] [] pos) (tX X.K G (fun _ => True) fun _ => .ob 0 0) :=
  toX (pe_makeO0 o hr pass0 hj hg hdb) fun B σ H ρ O Q R _ q => fun y dx hy hd hne => by
    refine ⟨y, dx, rfl, upd_same, rfl, q (.ref y) _ (mk_grow hy hd) ⟨y, rfl, hG _ _ dx ?_⟩⟩
    rw [mk_seen R.dom hy]
    exact upd_same
end
/-! comprehensions with a test -/
section
variable {K : PySem.W.Frag} {G : Gx} {B : Bs} {σ : L2.St} {H H1 : Hp} {ρ : En} {O : Addr → Bool} {D : Addr} {cap : List (Option Nat)}
variable {α : Type} {J : It} {g : TG} {C Ct : En → Prop} {pt : En → Prop} [∀ ρ, Decidable (pt ρ)] {gb : En → PV} {Q : VK}
theorem lc_mainT (items : List α) (setσ : α → V → L2.St) (setr : α → En) (val : α → V) (R : Rep K G B σ H1 ρ O) (hD : H1 D = none) (hlen : items.length ≤ 10000) (hgo : ∀ i H, i < items.length → Same H1 H → J.go i H)
    (hyld : ∀ i it x H H', items[i]? = some it → Same H1 H → J.yld i H x H' → Same H H' ∧ ∀ k : L2.St → Hp → Prop, k (setσ it (val it)) H' → g x (capS cap σ) H' k) (hstop : ∀ H, Same H1 H → J.stop items.length H)
    (hset : ∀ it H, it ∈ items → Same H1 H → Rep K G ⟨H1, O⟩ (capS cap σ) H (capR cap ρ) (hide D O) → Rep K G ⟨H1, O⟩ (setσ it (val it)) H (setr it) (hide D O)) (hext : ∀ it, ExtS (capS cap σ) (setσ it (val it))) (hCt : ∀ it ∈ items, Ct (setr it)) (hC : ∀ it ∈ items, pt (setr it) → C (setr it))
    (hQ : ∀ H' ys, Same H1 H' → H' D = some (.lst ys) → AtL K G (mn H' (hide D O)) ((items.filter fun it => decide (pt (setr it))).map fun it => gb (setr it)) ys → Q (.ref D) H') :
    ∃ W : Nat → Nat → List V → Hp → Prop, (∃ m, W 0 m [] (upd H1 D (.lst []))) ∧ lcW D J (capS cap σ) g (tXT K G Ct pt) (tX K G C gb) Q W := by
  refine ⟨fun i m ys H => m = items.length - i ∧ i ≤ items.length ∧ Same H1 H ∧ H D = some (.lst ys) ∧ AtL K G (mn H (hide D O)) (((items.take i).filter fun it => decide (pt (setr it))).map fun it => gb (setr it)) ys, ⟨items.length, by simp, Nat.zero_le _, same_new hD _, upd_same, rfl⟩, ?_⟩
  rintro i m ys H ⟨rfl, hi, hs, hd, al⟩
  have hl : ys.length ≤ i := by
    rw [← al.length, List.length_map]
    refine Nat.le_trans (List.length_filter_le _ _) ?_
    rw [List.length_take]; omega
  refine ⟨hd, Nat.lt_of_le_of_lt (show ys.length ≤ 10000 by omega) (by decide), ?_⟩
  by_cases hlt : i < items.length
  · refine .inr ⟨hgo i H hlt hs, ?_⟩
    intro x H' hy
    have en : items[i]? = some items[i] := List.getElem?_eq_getElem hlt
    obtain ⟨s1, kk⟩ := hyld i _ x H H' en hs hy
    refine kk _ ⟨hext _, ?_⟩
    have hd' := s1 _ _ hd
    have R2 := hset items[i] H' (List.getElem_mem hlt) (hs.trans s1) (rep_block R hD (hs.trans s1) (by rw [hd']; exact fun z => by cases z))
    refine ⟨_, _, _, R2, hCt _ (List.getElem_mem hlt), fun H3 s3 => ?_⟩
    by_cases d : pt (setr items[i])
    · rw [decide_eq_true d]
      refine iteT ?_
      refine ⟨_, _, _, R2.grow s3, hC _ (List.getElem_mem hlt) d, fun v H2 s2 a2 => ⟨s2 _ _ (s3 _ _ hd'), items.length - (i + 1), by omega, rfl, hlt, ?_, upd_same, ?_⟩⟩
      · intro b o z
        rw [upd_ne (ne_of_none z hD)]
        exact (((hs.trans s1).trans s3).trans s2) b o z
      · rw [mn_upd hide_self, take_at en, List.filter_append, List.filter_cons_of_pos (by exact decide_eq_true d), List.map_append]
        exact AtL.snoc (AtL.mono (mn_same ((s1.trans s3).trans s2)) _ _ al) a2
    · rw [decide_eq_false d]
      refine iteF ?_
      refine ⟨items.length - (i + 1), by omega, rfl, hlt, hs.trans (s1.trans s3), s3 _ _ hd', ?_⟩
      rw [take_at en, List.filter_append, List.filter_cons_of_neg (by simpa using d), List.filter_nil, List.append_nil]
      exact AtL.mono (mn_same (s1.trans s3)) _ _ al
  · have e : i = items.length := by omega
    subst e
    refine .inl ⟨hstop H hs, hQ H ys hs hd ?_⟩
    rw [List.take_length] at al
    exact al
end
section
variable {K : PySem.W.Frag} {G : Gx} {σ : L2.St} {H : Hp} {Q : VK} {Cs Ct Cb : En → Prop} {pt : En → Prop} [∀ ρ, Decidable (pt ρ)] {gs hs : En → List Int} {gi : En → Int} {gp : En → PV} {cap : List (Option Nat)}
theorem lc_LT (h : tXp K G (fun ρ => Cs ρ ∧ (gs ρ).length ≤ 1000 ∧ ∀ n ∈ gs ρ, Ct ((capR (none :: cap) ρ).set 0 (.fr (.int n))) ∧ (pt ((capR (none :: cap) ρ).set 0 (.fr (.int n))) → Cb ((capR (none :: cap) ρ).set 0 (.fr (.int n)))))
      (fun ρ => ((gs ρ).filter fun n => decide (pt ((capR (none :: cap) ρ).set 0 (.fr (.int n))))).map fun n => gp ((capR (none :: cap) ρ).set 0 (.fr (.int n)))) σ H Q) :
    tLC (none :: cap) (iList K (tXr K G Cs fun ρ => .ints (gs ρ))) (gName 0) (tXT K G Ct pt) (tX K G Cb gp) σ H Q := by
  obtain ⟨B, ρ, O, R, ⟨c1, c2, c3⟩, q⟩ := h
  refine ⟨B, ρ, O, R, c1, fun v H1 s1 a1 => ?_⟩
  obtain ⟨a, rfl, hq⟩ := a1
  have hq1 : SqL K H1 a ((gs ρ).map V.int) := .inl hq
  refine ⟨a, rfl, ⟨_, hq1⟩, fun D hD => ?_⟩
  refine lc_mainT (gs ρ) (fun _ v => (capS (none :: cap) σ).set 0 (some v)) (fun n => (capR (none :: cap) ρ).set 0 (.fr (.int n))) V.int (R.grow s1) hD (Nat.le_trans c2 (by decide)) (fun i H hi s => ⟨_, .int (gs ρ)[i], s.seq hq1, by simp [hi]⟩) ?_ (fun H s => ⟨_, s.seq hq1, by simp⟩) (fun n H _ s R' => R'.set (p := .int n) rfl) ?_ (fun n hn => (c3 n hn).1) (fun n hn => (c3 n hn).2) ?_
  · rintro i n x H H' en s ⟨rfl, hx⟩
    obtain ⟨n', rfl, hn⟩ := int_at (hx _ (s.seq hq1))
    rw [hn] at en
    cases en
    exact ⟨Same.refl _, fun k hk => hk⟩
  · intro n
    exact ext_refl _
  · intro H' ys s hd al
    exact q D ys H' (s1.trans s) (s1.free hD) hd al
end
section
variable {X : Cx} {G : Gx} {Er : ER} {N' : List Str} {sc : Scope} {cl : List (Str × Addr)} {cap : List (Option Nat)} {el tg src tst l l2 : Expr} {at' spos px p pos' : Pos} {Cs Cs' Ct Cb : En → Prop} {pt : En → Prop} [∀ ρ, Decidable (pt ρ)] {gs hs : En → List Int} {gi : En → Int} {gp : En → PV} {i : Nat} {x : Str}
theorem xl_lcLT (L : LcOk X N' sc cl (none :: cap)) (hc : X.calm = true) (hi : PE X src (tXr X.K G Cs fun ρ => .ints (gs ρ))) (hg : ∀ s H fp, PG (cxComp X N' sc cl s H fp) tg (gName 0)) (ht : ∀ s H fp, PT (cxComp X N' sc cl s H fp) tst (tXT X.K G Ct pt)) (he : ∀ s H fp, PE (cxComp X N' sc cl s H fp) el (tXI X.K G Cb gi)) (hs : ∀ x, foldedSetIterable src X.env x = pure x := by intro _; rfl) :
    PE X (.ListComp el [⟨tg, src, [tst], 0⟩] sc at') (tXl X.K G (fun ρ => Cs ρ ∧ (gs ρ).length ≤ 1000 ∧ ∀ n ∈ gs ρ, Ct ((capR (none :: cap) ρ).set 0 (.fr (.int n))) ∧ (pt ((capR (none :: cap) ρ).set 0 (.fr (.int n))) → Cb ((capR (none :: cap) ρ).set 0 (.fr (.int n)))))
      fun ρ => ((gs ρ).filter fun n => decide (pt ((capR (none :: cap) ρ).set 0 (.fr (.int n))))).map fun n => gi ((capR (none :: cap) ρ).set 0 (.fr (.int n)))) :=
  fun pins s σ H Q I h => pe_lc L hc (pi_list hi) hg (fun s H fp => pts_one (ht s H fp)) he hs pins s σ H Q I (lc_LT (p_of_l h))
end
end L3
/-! the law's promise, with the size of the script's numbers -/
namespace L2
open PySem PySem.Spec PyProof.Rows PySem.W PySem.Calls
theorem wl_all : ∀ (ns : List Int), ∀ n ∈ ns, WData.weight (.int n) ≤ WData.weightAll (ns.map WData.int)
  | [], n, h => by cases h
  | m :: r, n, h => by
    rw [List.map_cons]
    simp only [WData.weightAll]
    rcases List.mem_cons.mp h with rfl | h
    · omega
    · have := wl_all r n h
      omega
theorem wl_bits {ns : List Int} (h : WData.layableAll [WData.list (ns.map WData.int)] = true) {n : Int} (hn : n ∈ ns) : Builtin.Int.intBits n ≤ 2 ^ 20 := by
  have h1 : WData.layable (WData.list (ns.map WData.int)) = true := List.all_eq_true.mp h _ List.mem_cons_self
  unfold WData.layable at h1
  rw [Bool.and_eq_true] at h1
  have h2 := of_decide_eq_true h1.2
  have h3 := wl_all ns n hn
  simp only [WData.weight] at h2 h3
  exact Nat.le_trans h3 h2
theorem walk_of2 {l : PySem.W.OpenLaw} {n k : Nat} {XP : (Str → Option Value) → Heap → Prop} {YP : World → Heap → Prop} {d : DefRec} {K : Params → PySem.W.Frag} {CX : World → CXT} {sp : World → Sp}
    (hn : l.most = some n) (hn2 : n ≤ sizeLine) (hdf : d.params.defaults = []) (hr : Room k callerA) (hY : ∀ (w : World) (h : Heap), YP w h → (K w.params).In h)
    (F : ∀ (w : World) (mg : Str → Option Value) (fa : Addr) (h : Heap), (K w.params).In h → h.Ns mainGlobals mg → mg d.name = some (.ref fa) →
      ∃ fd : FuncData, (∀ (s : Shared) (u : Value), BindsTo s fd ⟨[u], []⟩ [(x, u)]) ∧ ∀ base : Heap, (K w.params).In base → base.Ns mainGlobals mg → FnOk l.prog w (K w.params) mg base (CX w) k fa fd [x] (sp w))
    (LO : ∀ (w : World) (h : Heap), YP w h → LamOk (K w.params) h)
    (hsp : ∀ (w : World) (H : Hp) (a : Addr) (ns : List Int), ns.length ≤ n → (∀ m ∈ ns, Builtin.Int.intBits m ≤ 2 ^ 20) → SqL (K w.params) H a (ns.map V.int) → sp w [.ref a] H (fun v _ => v = .bl true) fun _ _ _ => False)
    (hCX : ∀ (w : World) (H : Hp) (s : Shared) (e : Value) (s' : Shared), CX w [] H s (fun _ _ _ => False) e s' → False) : PySem.W.WalkO q loose XP YP l.row.toRowW d [] (fun f vs => PySem.call f vs) := by
  intro w s₀ s₁ mg mb G Y fa o pm cd doc dV kV ho hd hcd hD hmg hg args vals as hpre hlay hrd hwl hlo
  obtain rfl : dV = .none := Dflts.none hD hdf
  obtain rfl : kV = .none := Dflts.noKw hD
  obtain ⟨a, vs, ns, rfl, rfl, hobj, hints, hlen⟩ := Att.script_of hn hpre hwl
  have KX := hY w _ Y
  obtain ⟨fd, hb, hF⟩ := F w mg fa _ KX G.T.g hmg
  refine enter_call (codeAny_mono (law_call KX G.T.g G.T.b G.T.builtins G.T.nolimit hg hobj hints (Nat.le_trans hlen hn2) hr (LO w _ Y) G.T.bmain hF hb (fun H hS => hsp w H a ns hlen (fun m hm => wl_bits hlay hm) hS) fun H e s' => hCX w H s₁ e s') fun r s' hq => ?_)
  obtain ⟨rfl, h2, h3, h4⟩ := hq
  exact ⟨.inl ⟨.bool true, .bool true, [], rfl, fun _ => rfl, .bool true, Att.post_true l _, fun _ => ⟨List.Pairwise.nil, fun _ hm => (nomatch hm)⟩⟩, h2, h3, h4⟩
noncomputable def spLaw2 (K : PySem.W.Frag) : Sp := fun vs H Q _ => ∃ (a : Addr) (ns : List Int), vs = [.ref a] ∧ SqL K H a (ns.map V.int) ∧ ns.length ≤ 63 ∧ (∀ m ∈ ns, Builtin.Int.intBits m ≤ 2 ^ 20) ∧ ∀ H', Q (.bl true) H'
end L2
namespace L3
open PySem PySem.Spec PyProof.Rows L2
theorem lawF2 {P : Program} {w : World} {K : PySem.W.Frag} {mg : Str → Option Value} {base : Heap} {G : Gx} {k : Nat} {x : Str} {st : Stmt} {N : List Str} {f : Addr} {fd : FuncData} {y : Str} (F : Fun K x x st f fd) (S : FnScope N [y] (defScope st))
    (hbody : ∀ (cdv : Value) (A : Around) (outer : List Env) (s : Shared) (H : Hp) (E : XK), Room k (A.deeper (envOfC x (defScope st) s.heap.objs.size f cdv)) →
      ∃ fs, PSs (cxOf CX0 P w K mg base N x (defScope st) f cdv A outer s H E).nox (defBody st) (ts K G ER0 fs) ∧ ∀ ns : List Int, ns.length ≤ 63 → (∀ m ∈ ns, Builtin.Int.intBits m ≤ 2 ^ 20) → fs { nx := fun _ => False, rt := fun p => p = .bl true } (startR N [.scr ns])) : FnOk P w K mg base CX0 (k + 1) f fd [y] (spLaw2 K) := by
  refine F.ok S (fun vs H Q E h => ?_) fun cdv A outer s H vs Q E hr h => ?_
  · obtain ⟨a, ns, rfl, _⟩ := h
    rfl
  obtain ⟨a, ns, rfl, hS, hl, hb, q⟩ := h
  obtain ⟨fs, b, c⟩ := hbody cdv A outer s H E hr
  have al : AtL K G (mn H fun _ => false) [.scr ns] [.ref a] := ⟨_, _, rfl, ⟨a, rfl, by rw [mn_no]; exact hS⟩, rfl⟩
  refine ⟨_, b, ⟨H, fun _ => false⟩, startR N [.scr ns], _, ⟨_, rep_start (fun _ z => by cases z) al⟩, c ns hl hb, ⟨fun _ _ _ _ h => h.elim, fun v H' p s' a' h => ?_, fun _ _ _ _ _ _ h => h.elim, fun _ _ _ _ _ h => h.elim, fun _ _ _ _ h => h, fun _ _ _ _ h => h, fun _ _ _ h => h⟩⟩
  subst h
  subst a'
  exact q H'
end L3

/-! ### values compared deeply, range with a step -/
namespace L2
open PySem PySem.Spec PyProof.Rows
/-- lo, lo + c, .. (n of them) -/
noncomputable def ItrS (lo c : Int) (n : Nat) : It := ⟨fun i _ => i < n, fun i H x H' => H' = H ∧ x = .int (lo + i * c), fun i _ => n ≤ i⟩
theorem turn_rangeS {P : Program} {w : World} {K : PySem.W.Frag} {tg : Expr} (it : Addr) (lo c : Int) (n : Nat) : Turn P w K tg (ItrS lo c n) [it] it (fun i h => IsRangeIter h it (lo + (i : Nat) * c) ((n : Int) - (i : Nat)) c) where
  mem := by simp
  obj := fun i h st b hb => by
    have e : b = it := by simpa using hb
    subst e
    exact ⟨_, st, fun v z => by
      have z' : Data.fields _ = Data.cell v := z
      cases z'⟩
  keep := fun i h h' st k => k it (by simp) _ st
  item := by
    intro X hP hw hK hc i pins s σ H E I hf st hg
    subst hP hw hK
    obtain ⟨f0, f1, f2, f3, f4, f5⟩ := hf it (by simp)
    have W := Walks.range (prog := X.prog) (w := X.w) (I.ok.hd hc) it lo c n
    refine W.item i s _ _ hg st fun v h' tk hv st' kk => ?_
    obtain ⟨t, rfl⟩ := hv
    have I1 : Inv X pins σ H { s with heap := h', toks := tk } := I.turned (fun b o hb e => kk b o (by simpa using hb) e) f0 f1 f3 f4 f5
    exact ⟨_, rfl, go_of (s := { s with heap := h', toks := tk }) (n := "range_iterator") st' rfl rfl (by decide) ⟨.int (lo + i * c), H, I1, ⟨t, rfl⟩, ⟨rfl, rfl⟩, st', fun b hb => (hf b hb).1⟩⟩
  done := by
    intro X hP hw hK hc i pins s σ H E I hf st hg
    subst hP hw hK
    obtain ⟨f0, f1, f2, f3, f4, f5⟩ := hf it (by simp)
    exact wpAny_pyNext_range_end (I.ok.hd hc) st (by have : n ≤ i := hg; omega) fun h' eb => ⟨rfl, I.turned (t' := s.toks) (fun b o hb e => eb b o hb e) f0 f1 f3 f4 f5⟩
  self := fun _ _ _ _ _ st h => wpAny_pyIter_rangeiter st h
/-- how many numbers range(lo, hi, c) has -/
noncomputable def rngN (lo hi c : Int) : Nat := if lo < hi then ((hi - lo - 1) / c + 1).toNat else 0
theorem rngN_size {lo hi c : Int} (hc : 0 < c) : ((rngN lo hi c : Nat) : Int) = Builtin.Range.rangeSize lo hi c := by
  unfold rngN Builtin.Range.rangeSize
  rw [if_pos hc]
  split
  · have : 0 ≤ (hi - lo - 1) / c := Int.ediv_nonneg (by omega) (by omega)
    omega
  · rfl
noncomputable def iRng3 (ta : TA) : TI := fun σ H R => ta σ H fun vs H1 => ∃ i j c : Int, vs = [.int i, .int j, .int c] ∧ (0 < c ∧ c < 1000 ∧ -(2 ^ 62) ≤ i ∧ i < 2 ^ 62 ∧ -(2 ^ 62) ≤ j ∧ j < 2 ^ 62) ∧ R (ItrS i c (rngN i j c)) H1
theorem pi_range3 {X : Cx} {tg a b c : Expr} {ta : TA} {p pos : Pos} (hg : Gl X "range") (hm : X.mg "range" = none) (ha : PA X [a, b, c] ta) (hs : starEach [a, b, c] X.env = (false, eval a X.env) :: starEach [b, c] X.env := by rfl) (hpl : (backTo pos (starEach [b, c] X.env)).any (·.1) = false := by rfl) :
    PI X tg (.Call (.Name "range" p) [a, b, c] [] pos) (iRng3 ta) := by
  intro pins s σ H R I h
  refine Call_ (ld_blt I hg hm boot_range (PyProof.Rows.callWith_type1 (thn (ha pos pins s σ H _ I h) fun us s1 ⟨vs, H1, I1, r1, q1⟩ => ?_) hs hpl))
  obtain ⟨i, j, k, e, ⟨k1, k2, l1, l2, l3, l4⟩, q⟩ := q1
  subst e
  cases r1 with
  | cons r rr =>
    cases rr with
    | cons r' rr =>
      cases rr with
      | cons r'' rr =>
        cases rr
        obtain ⟨t, rfl⟩ := r
        obtain ⟨t', rfl⟩ := r'
        obtain ⟨t'', rfl⟩ := r''
        refine call_range_3 (by omega) ?_ (.inl (PyProof.noPylong_small (by omega)))
        have sz := rngN_size (lo := i) (hi := j) k1
        have le : ((rngN i j k : Nat) : Int) < 2 ^ 63 := by
          unfold rngN
          split
          · have h1 : (j - i - 1) / k ≤ (j - i - 1) := Int.ediv_le_self _ (by omega)
            have h2 : 0 ≤ (j - i - 1) / k := Int.ediv_nonneg (by omega) (by omega)
            omega
          · decide
        refine wpAny_pyIter_range (IsRange.new ..) ?_ ?_
        · unfold Builtin.Range.small
          rw [← sz]
          have fits : ∀ x : Int, -(2 ^ 63) ≤ x → x < 2 ^ 63 → Builtin.Range.rangeFitsLong x = true := fun x h1 h2 => by
            unfold Builtin.Range.rangeFitsLong
            rw [Bool.and_eq_true, decide_eq_true_eq, decide_eq_true_eq]
            exact ⟨h1, h2⟩
          have n0 : (0 : Int) ≤ ((rngN i j k : Nat) : Int) := Int.natCast_nonneg _
          generalize ((rngN i j k : Nat) : Int) = nn at *
          simp only [fits i (by omega) (by omega), fits j (by omega) (by omega), fits k (by omega) (by omega), fits nn (by omega) (by omega), fits (j + (k - 1)) (by omega) (by omega), Bool.and_true, Bool.true_and, Bool.or_true, if_pos (show k > 0 by omega)]
        have I2 : Inv X pins σ H1 { s1 with heap := s1.heap.push { cls := .type "range", data := .fields #[.int i t, .int j t', .int k t''] }, toks := s1.toks } := I1.kept fun b o e => Heap.get?_push_of_some _ e
        refine ⟨(s1.heap.push { cls := .type "range", data := .fields #[.int i t, .int j t', .int k t''] }).objs.size, [(s1.heap.push { cls := .type "range", data := .fields #[.int i t, .int j t', .int k t''] }).objs.size], _, _, H1, rfl,
          I2.kept (t' := s1.toks) fun b o e => Heap.get?_push_of_some _ e, turn_rangeS _ i k (rngN i j k), ?_, fun b hb => ?_, q⟩
        · rw [sz, show i + ((0 : Nat) : Int) * k = i by simp, show Builtin.Range.rangeSize i j k - ((0 : Nat) : Int) = Builtin.Range.rangeSize i j k by simp]
          exact Heap.get?_push_size _ rfl
        · have e : b = (s1.heap.push { cls := .type "range", data := .fields #[.int i t, .int j t', .int k t''] }).objs.size := by simpa using hb
          subst e
          exact I2.fpOk (Nat.le_refl _) (I2.hok.fresh (Nat.le_refl _))
theorem for_rangeS {g : TG} {tb : TS} {D : Ends} {lo c : Int} {n : Nat} {σ : St} {H : Hp} (Pv : Nat → St → Hp → Prop) (h0 : Pv 0 σ H) (hs : ∀ i σ H, i < n → Pv i σ H → g (.int (lo + i * c)) σ H fun σ2 H2 => tb { D with nx := Pv (i + 1), ct := Pv (i + 1), bk := D.nx } σ2 H2) (hd : ∀ σ H, Pv n σ H → D.nx σ H) :
    ∃ W : Nat → Nat → St → Hp → Prop, (∃ m, W 0 m σ H) ∧ ∀ i m σ H, W i m σ H →
      ((ItrS lo c n).stop i H ∧ D.nx σ H) ∨ ((ItrS lo c n).go i H ∧ ∃ N : St → Hp → Prop, (∀ σ' H', N σ' H' → ∃ m', m' < m ∧ W (i + 1) m' σ' H') ∧ ∀ x H', (ItrS lo c n).yld i H x H' → g x σ H' fun σ2 H2 => tb { D with nx := N, ct := N, bk := D.nx } σ2 H2) := by
  refine ⟨fun i m σ H => m = n - i ∧ i ≤ n ∧ Pv i σ H, ⟨n, by simp, Nat.zero_le _, h0⟩, ?_⟩
  rintro i m σ H ⟨rfl, hi, p⟩
  by_cases hlt : i < n
  · refine .inr ⟨hlt, Pv (i + 1), fun σ' H' p' => ⟨n - (i + 1), by omega, rfl, hlt, p'⟩, fun x H' y => ?_⟩
    obtain ⟨rfl, rfl⟩ := y
    exact hs i σ _ hlt p
  · have e : i = n := by omega
    subst e
    exact .inl ⟨Nat.le_refl _, hd σ H p⟩
end L2
namespace L3
open PySem PySem.Spec PyProof.Rows L2
/-! data -/
mutual
noncomputable def dat : PV → PyData
  | .int n => .int n
  | .bl b => .bool b
  | .non => .none
  | .str s => .str s
  | .ints ns => .list (ns.map PyData.int)
  | .lst xs => .list (dats xs)
  | .tup xs => .tuple (dats xs)
  | _ => .none
noncomputable def dats : List PV → List PyData
  | [] => []
  | p :: ps => dat p :: dats ps
end
mutual
noncomputable def isDat : PV → Prop
  | .int _ => True
  | .bl _ => True
  | .non => True
  | .str _ => True
  | .ints _ => True
  | .lst xs => areDat xs
  | .tup xs => areDat xs
  | _ => False
noncomputable def areDat : List PV → Prop
  | [] => True
  | p :: ps => isDat p ∧ areDat ps
end
section
variable {X : Cx} {pins : List (Addr × Obj)} {σ : L2.St} {H : Hp} {s : Shared} {G : Gx}
mutual
theorem reads_at (I : Inv X pins σ H s) : ∀ (p : PV) (v : V) (u : Value), At X.K G H p v → isDat p → RelV v u → ∃ as, Reads s.heap u (dat p) as
  | .int n, v, u, h, _, r => by
    subst h
    obtain ⟨t, rfl⟩ := r
    exact ⟨_, .int n t⟩
  | .bl b, v, u, h, _, r => by
    subst h
    obtain rfl : u = .bool b := r
    exact ⟨_, .bool b⟩
  | .non, v, u, h, _, r => by
    subst h
    obtain rfl : u = .none := r
    exact ⟨_, .none⟩
  | .str x, v, u, h, _, r => by
    subst h
    obtain ⟨t, rfl⟩ := r
    exact ⟨_, .str x t⟩
  | .ints ns, v, u, h, _, r => by
    obtain ⟨a, rfl, hr⟩ := h
    obtain rfl : u = .ref a := r
    obtain ⟨_, its, n, rv, _, e⟩ := Inv.lstR I hr
    exact ⟨_, reads_newData ⟨_, e, rfl, _, rfl⟩ (PySem.W.ke_carried (ints_are rv))⟩
  | .lst xs, v, u, h, d, r => by
    obtain ⟨a, vs, rfl, hr, al⟩ := h
    obtain rfl : u = .ref a := r
    obtain ⟨_, its, n, rv, _, e⟩ := Inv.lstR I hr
    obtain ⟨as, q⟩ := readsAll_at I xs vs its al d rv
    exact ⟨_, .list e rfl rfl q⟩
  | .tup xs, v, u, h, d, r => by
    obtain ⟨a, vs, rfl, hr, al⟩ := h
    obtain rfl : u = .ref a := r
    obtain ⟨_, its, rv, ⟨o, ho, hc, m, hd⟩⟩ := I.hok a _ hr
    obtain ⟨as, q⟩ := readsAll_at I xs vs its al d rv
    exact ⟨_, .tuple ho hc hd q⟩
  | .scr _, _, _, _, d, _ => d.elim
  | .ob _ _, _, _, _, d, _ => d.elim
  | .ty _, _, _, _, d, _ => d.elim
  | .cls _, _, _, _, d, _ => d.elim
theorem readsAll_at (I : Inv X pins σ H s) : ∀ (ps : List PV) (vs : List V) (us : List Value), AtL X.K G H ps vs → areDat ps → Vals vs us → ∃ as, ReadsAll s.heap us (dats ps) as
  | [], vs, us, h, _, r => by
    subst h
    cases r
    exact ⟨_, .nil⟩
  | p :: ps, vs, us, h, d, r => by
    obtain ⟨v, t, rfl, h1, h2⟩ := h
    cases r with
    | cons r1 r2 =>
      obtain ⟨as, q⟩ := reads_at I p v _ h1 d.1 r1
      obtain ⟨bs, q2⟩ := readsAll_at I ps t _ h2 d.2 r2
      exact ⟨_, .cons q q2⟩
end
end
structure DatOk (p q : PV) : Prop where
  a : isDat p
  b : isDat q
  sa : SeqAt.shaped (dat p) = true
  sb : SeqAt.shaped (dat q) = true
  mix : SeqAt.noMix (dat p) (dat q) = true
noncomputable def eqD (p q : PV) : Prop := PySem.Spec.same (dat p) (dat q) = true
noncomputable instance (p q : PV) : Decidable (eqD p q) := inferInstanceAs (Decidable (_ = true))
section
variable {X : Cx} {G : Gx} {Er : ER} {a b : Expr} {pos : Pos} {Ca Cb : En → Prop} {ga gb : En → PV}
noncomputable def rEqD (K : PySem.W.Frag) (G : Gx) (f : PV → PV → Bool) : R2 := fun x y H Q => ∃ p q, At K G H p x ∧ At K G H q y ∧ DatOk p q ∧ Q (.bl (f p q)) H
theorem op_neD (hu : X.A.units + 64 < cLine) : OpR X (compareOp .NotEq) (rEqD X.K G fun p q => decide (¬ eqD p q)) := by
  intro pins s σ H x y v u Q I rx ry h
  obtain ⟨p, q, ap, aq, d, k⟩ := h
  obtain ⟨as, r1⟩ := reads_at I p x v ap d.a rx
  obtain ⟨bs, r2⟩ := reads_at I q y u aq d.b ry
  refine ne_dataH_same r1 r2 d.sa d.sb hu d.mix ⟨.bl _, H, I, rfl, ?_⟩
  have e : decide (eqD p q) = PySem.Spec.same (dat p) (dat q) := by unfold eqD; exact Bool.decide_eq_true
  have k : Q (.bl (decide (¬ eqD p q))) H := k
  rw [decide_not, e] at k
  exact k
theorem two_d (R : Rep X.K G B σ H ρ O) (ca : Ca ρ) (cb : Cb ρ) (q : ∀ v u H1 H2, Same H H1 → Same H1 H2 → At X.K G H2 (ga ρ) v → At X.K G H2 (gb ρ) u → r v u H2 Q) :
    tOp r (tXr X.K G Ca ga) (tXr X.K G Cb gb) σ H Q :=
  ⟨B, ρ, O, R, ca, fun v H1 s1 a1 => ⟨B, ρ, O, R.grow s1, cb, fun u H2 s2 a2 => q v u H1 H2 s1 s2 (At.mono s2 _ _ a1) a2⟩⟩
theorem xt_neD (hu : X.A.units + 64 < cLine) (ha : PE X a (tXr X.K G Ca ga)) (hb : PE X b (tXr X.K G Cb gb)) : PT X (.Compare a [.NotEq] [b] pos) (tXT X.K G (fun ρ => Ca ρ ∧ Cb ρ ∧ DatOk (ga ρ) (gb ρ)) fun ρ => ¬ eqD (ga ρ) (gb ρ)) :=
  fun pins s σ H Q I ⟨_, _, _, R, c, q⟩ => pt_cmpR (op_neD (G := G) hu) ha hb (nomark _) pins s σ H Q I (two_d R c.1 c.2.1 fun v u _ H2 s1 s2 a1 a2 => ⟨_, _, a1, a2, c.2.2, _, rfl, q H2 (s1.trans s2)⟩)
end
/-- for x in range(a, b, c) -/
theorem xst_forR3 {X : Cx} {G : Gx} {Er : ER} {f : FS} {C Cb Cc : En → Prop} {pos : Pos} {k : Nat} {x : Str} {a b c : Expr} {body : List Stmt} {g h st : En → Int} {p px pos' : Pos} (hp : PassesOwn (model X.prog X.w) X.A X.env X.xe) (hc : X.calm = true) (hg : Gl X "range") (hm : X.mg "range" = none) (ha : PE X a (tXI X.K G C g)) (hb' : PE X b (tXI X.K G Cb h)) (hc' : PE X c (tXI X.K G Cc st)) (hN : X.N.Nodup) (hi : X.N[k]? = some x) (hx : Loc X.env.scope x)
    (hb : PSs X body (ts X.K G Er f)) (hs : starEach [a, b, c] X.env = (false, eval a X.env) :: starEach [b, c] X.env := by rfl) (hs2 : starEach [b, c] X.env = (false, eval b X.env) :: starEach [c] X.env := by rfl) (hs3 : starEach [c] X.env = [(false, eval c X.env)] := by rfl) (hpl : (backTo pos' (starEach [b, c] X.env)).any (·.1) = false := by rfl) (hfs : ∀ x, foldedSetIterable (.Call (.Name "range" p) [a, b, c] [] pos') X.env x = pure x := by intro _; rfl)
    (hf : X.fn x = true ∨ X.env.scope.names.lookup x = some .local := by first | exact .inl rfl | exact .inr rfl | assumption) :
    PS X (.For (.Name x px) (.Call (.Name "range" p) [a, b, c] [] pos') body [] pos) (ts X.K G Er fun P ρ => (C ρ ∧ Cb ρ ∧ Cc ρ) ∧ (0 < st ρ ∧ st ρ < 1000 ∧ -(2 ^ 62) ≤ g ρ ∧ g ρ < 2 ^ 62 ∧ -(2 ^ 62) ≤ h ρ ∧ h ρ < 2 ^ 62) ∧
      ∃ W : Nat → En → Prop, W 0 ρ ∧ (∀ i ρ', i < rngN (g ρ) (h ρ) (st ρ) → W i ρ' → f (P.lp (W (i + 1))) (ρ'.set k (.fr (.int (g ρ + i * st ρ))))) ∧ ∀ ρ', W (rngN (g ρ) (h ρ) (st ρ)) ρ' → P.nx ρ') :=
  toS (ps_for hp hc (pi_range3 hg hm (pa_cons ha (pa_cons hb' (pa_cons hc' pa_nil hs3) hs2) hs) hs hpl) (pg_name hN hi hx hf) hb hfs) fun B σ H ρ O P D R cc w => by
    obtain ⟨⟨c1, c2, c3⟩, l, W, w0, stp, nd⟩ := cc
    refine ⟨B, ρ, O, R, c1, fun v H1 s1 a1 => ⟨B, ρ, O, R.grow s1, c2, fun u H2 s2 a2 => ⟨B, ρ, O, (R.grow s1).grow s2, c3, fun t H3 s3 a3 => ?_⟩⟩⟩
    have a1 : v = .int (g ρ) := a1
    have a2 : u = .int (h ρ) := a2
    have a3 : t = .int (st ρ) := a3
    subst a1 a2 a3
    refine ⟨g ρ, h ρ, st ρ, rfl, l, for_rangeS (fun i σ H => ∃ ρ', RepE X.K G B σ H ρ' ∧ W i ρ') ⟨ρ, ⟨O, ((R.grow s1).grow s2).grow s3⟩, w0⟩ ?_ ?_⟩
    · rintro i σ H hi ⟨ρ', ⟨O', R'⟩, hw⟩
      exact ⟨B, _, _, ⟨O', R'.set (p := .int _) rfl⟩, stp i ρ' hi hw, ⟨fun σ' H' ρ' R' h => ⟨ρ', R', h⟩, w.rt, w.rl, w.rn, w.nx, fun σ' H' ρ' R' h => ⟨ρ', R', h⟩, w.er⟩⟩
    · rintro σ H ⟨ρ', R', hw⟩
      exact w.nx σ H ρ' R' (nd ρ' hw)
end L3

/-! ### expressions that may refuse: calls, makers; a try around any of them; fields of kinds -/
namespace L3
open PySem PySem.Spec PyProof.Rows L2
/-- an expression that may refuse -/
noncomputable def tR (K : PySem.W.Frag) (G : Gx) (C : En → Prop) (F : En → Rs) (E : XK) : TE := fun σ H Q => ∃ B ρ O, Rep K G B σ H ρ O ∧ C ρ ∧ (∀ p, F ρ = .val p → ∀ v H', Same H H' → At K G (mn H' O) p v → Q v H') ∧ ∀ c, F ρ = .err c → ∀ H', Same H H' → E (.ref c) none H'
noncomputable abbrev PR (X : Cx) (G : Gx) (e : Expr) (C : En → Prop) (F : En → Rs) : Prop := ∀ E, Passes (CXe X.prog X.w) X E → PE X e (tR X.K G C F E)
section
variable {X : Cx} {G : Gx} {Er : ER} {E : XK} {e : Expr} {es : List Expr} {pos p pos' : Pos} {i j k l : Nat} {x y n : Str} {ps : List Str} {pre : List PV → Prop} {C : En → Prop} {gs : En → List PV} {g : En → PV} {F : List PV → Rs} {FE : En → Rs} {Cc Cl : Addr} {px py pn hp p1 p2 : Pos}
/-- try: e / except C as n: y = n -/
theorem xst_tryR (hG : GErr G) (hc : X.calm = true) (hst : X.stack = X.env :: X.outer) (hfr : X.env.frame = some X.env.locals) (hex : X.ex = []) (hg : Gl X x) (hm : X.mg x = some (.ref Cc)) (hN : X.N.Nodup) (hi : X.N[i]? = some n) (hj : X.N[j]? = some y) (hln : X.env.scope.names.lookup n = some .local) (hly : X.env.scope.names.lookup y = some .local)
    (hkn : X.env.kindOf n = some .local) (hny : y ≠ n) (hij : i ≠ j) (he : ∀ (pn : List (Addr × Obj)) (E' : Value → Shared → Prop), PR { X with pn := pn, xe := E' } G e C FE)
    (hs : swapsWith e none p1.line X.env = pure false := by rfl) (hs2 : swapsWith (.Name n pn) (some (.Name y py)) p2.line X.env = pure false := by rfl) (hdx : (x == ("__debug__" : Str)) = false := by decide) (hdn : (n == ("__debug__" : Str)) = false := by decide) (hdc : (n == ("__classdict__" : Str)) = false := by decide) :
    PS X (.Try [.Expr e p1] [.ExceptHandler (some (.Name x px)) (some n) [.Assign [.Name y py] (.Name n pn) p2] hp] [] [] pos)
      (ts X.K G Er fun P ρ => C ρ ∧ (∀ p, FE ρ = .val p → P.nx ρ) ∧ ∀ c, FE ρ = .err c → PySem.W.exmOne X.K (.ref c) (.ref Cc) = some true ∧ P.nx (onlyE X.N.length j c)) :=
  toS (ps_try (te := fun Ec => tR X.K G C FE Ec) hc hst hfr hex hg hm hN hi hj hln hly hkn hny hij (fun pn E' Ec hx => he pn E' Ec hx) hs hs2 hdx hdn hdc) fun B σ H ρ O P D R c w => ⟨B, ρ, O, R, c.1, fun p hp v H2 s2 _ => w.nx σ H2 ρ ⟨O, R.grow s2⟩ (c.2.1 p hp), fun c' hc' H2 s2 => ⟨(c.2.2 c' hc').1, fun a ha => w.nx _ _ _ ⟨O, rep_only hG R s2 ha⟩ (c.2.2 c' hc').2⟩⟩
/-! fields of kinds -/
theorem xn_intB [∀ ρ, Decidable (pb ρ)] (hm : X.mg "int" = none) (he : PE X e (tXB X.K G C pb)) (hg : Gl X "int" := by rfl) (hst : starEach [e] X.env = [(false, eval e X.env)] := by rfl) : PE X (.Call (.Name "int" p) [e] [] pos) (tXI X.K G C fun ρ => if pb ρ then 1 else 0) :=
  toX (pe_callTy call_int1 hg hm bt_int (pa_cons he pa_nil hst) (by decide) (by decide) hst rfl) fun B σ H ρ O Q R c q => ⟨B, ρ, O, R, c, fun v H1 s1 a1 => by
    subst a1
    refine .inr ⟨_, rfl, q _ H1 s1 ?_⟩
    show V.int (if decide (pb ρ) = true then 1 else 0) = V.int (if pb ρ then 1 else 0)
    by_cases d : pb ρ
    · rw [if_pos d, if_pos (decide_eq_true d)]
    · rw [if_neg d, if_neg (by rw [decide_eq_false d]; decide)]⟩
end
/-- kinds and caught errors -/
noncomputable def GkE (KA : Hp → Addr → Int → Prop) (mono : ∀ {H H' : Hp} {a : Addr} {z : Int}, KA H a z → Same H H' → KA H' a z) : Gx :=
  ⟨fun k H a z => (k = 0 ∧ KA H a z) ∨ (k = 1 ∧ ∃ C : Addr, z = ((C : Nat) : Int) ∧ H a = some (excO a (.ref C))), fun _ _ _ _ _ s h => h.elim (fun z => .inl ⟨z.1, mono z.2 s⟩) fun z => .inr ⟨z.1, let ⟨C, e, q⟩ := z.2; ⟨C, e, s _ _ q⟩⟩⟩
theorem gkE_err {KA : Hp → Addr → Int → Prop} {mono : ∀ {H H' : Hp} {a : Addr} {z : Int}, KA H a z → Same H H' → KA H' a z} : GErr (GkE KA mono) := by
  refine ⟨fun H a C h => .inr ⟨rfl, C, rfl, h⟩, fun H a z h => ?_⟩
  rcases h with ⟨h, _⟩ | ⟨_, h⟩
  · exact absurd h (by decide)
  · exact h
end L3

/-! ### methods that may refuse; isinstance of kinds -/
namespace L2
open PySem PySem.Spec PyProof.Rows
end L2
namespace L3
open PySem PySem.Spec PyProof.Rows L2
section
variable {X : Cx} {G : Gx} {a b c e : Expr} {es : List Expr} {pos p px apos : Pos} {C Ca Cb Cc : En → Prop} {ga gc : En → PV} {gs : En → List PV} {i j k n : Nat} {x m : Str}
end
end L3

/-! for over zip, list(range(n)), what k01 asks of kinds -/
namespace L2
open PySem PySem.Spec PyProof.Rows
theorem for_zip {K : PySem.W.Frag} {a b : Addr} {xs ys : List V} {g : TG} {tb : TS} {D : Ends} {σ : St} {H : Hp} (Pv : Nat → St → Hp → Prop) (h0 : Pv 0 σ H) (hl : ∀ i σ H, Pv i σ H → SqL K H a xs ∧ SqL K H b ys)
    (hs : ∀ i x y σ H T, xs[i]? = some x → ys[i]? = some y → Pv i σ H → H T = none → g (.ref T) σ (upd H T (.tup [x, y])) fun σ2 H2 => tb { D with nx := Pv (i + 1), ct := Pv (i + 1), bk := D.nx } σ2 H2) (hd : ∀ σ H, Pv (min xs.length ys.length) σ H → D.nx σ H) :
    ∃ W : Nat → Nat → St → Hp → Prop, (∃ m, W 0 m σ H) ∧ ∀ i m σ H, W i m σ H →
      ((Itz K a b).stop i H ∧ D.nx σ H) ∨ ((Itz K a b).go i H ∧ ∃ N : St → Hp → Prop, (∀ σ' H', N σ' H' → ∃ m', m' < m ∧ W (i + 1) m' σ' H') ∧ ∀ x H', (Itz K a b).yld i H x H' → g x σ H' fun σ2 H2 => tb { D with nx := N, ct := N, bk := D.nx } σ2 H2) := by
  refine ⟨fun i m σ H => m = min xs.length ys.length - i ∧ i ≤ min xs.length ys.length ∧ Pv i σ H, ⟨min xs.length ys.length, by simp, Nat.zero_le _, h0⟩, ?_⟩
  rintro i m σ H ⟨rfl, hi, p⟩
  obtain ⟨q1, q2⟩ := hl i σ H p
  by_cases hlt : i < min xs.length ys.length
  · have l1 : i < xs.length := by omega
    have l2 : i < ys.length := by omega
    refine .inr ⟨⟨xs, ys, xs[i], ys[i], q1, q2, by simp [l1], by simp [l2]⟩, Pv (i + 1), fun σ' H' p' => ⟨min xs.length ys.length - (i + 1), by omega, rfl, hlt, p'⟩, fun x H' y => ?_⟩
    obtain ⟨T, x1, y1, rfl, hT, rfl, hx, hy⟩ := y
    exact hs i x1 y1 σ H T (hx xs q1) (hy ys q2) p hT
  · have e : i = min xs.length ys.length := by omega
    subst e
    exact .inl ⟨⟨xs, ys, q1, q2, by omega⟩, hd σ H p⟩
end L2
namespace L3
open PySem PySem.Spec PyProof.Rows L2
section
variable {X : Cx} {G : Gx} {Er : ER} {f : FS} {C C2 : En → Prop} {pos p pos' : Pos} {e : Expr} {es : List Expr} {g : En → PV} {x : Str} {ps : List Str} {j k : Nat} {Cl : Addr} {gs : En → List PV}
/-! objects of other sorts taken as kinds -/
end
end L3

/-! defs that refuse or tell a new value -/
namespace L3
open PySem PySem.Spec PyProof.Rows L2
section
variable {P : Program} {w : World} {K : PySem.W.Frag} {mg : Str → Option Value} {base : Heap} {G : Gx}
end
section
variable {X : Cx} {G : Gx} {e : Expr} {es : List Expr} {pos p : Pos} {j k : Nat} {x : Str} {ps : List Str} {pre : List PV → Prop} {C : En → Prop} {gs : En → List PV} {F : List PV → Rs}
end
end L3

/-! try: y = e / except C: return None -/
namespace L2
open PySem PySem.Spec PyProof.Rows
section
variable {X : Cx} {call : Expr} {te : XK → TE} {x y : Str} {C : Addr} {j k0 : Nat} {px py pn hp p1 p2 pos : Pos}
end
end L2
namespace L3
open PySem PySem.Spec PyProof.Rows L2
section
variable {X : Cx} {G : Gx} {Er : ER} {e : Expr} {C : En → Prop} {FE : En → Rs} {x y : Str} {Cc : Addr} {j k0 : Nat} {px py pn hp p1 p2 pos : Pos}
end
section
variable {X : Cx} {G : Gx} {a b c e : Expr} {p pos : Pos} {C Ca Cb Cc : En → Prop} {ga gb g : En → PV} {gl : En → List Int}
theorem xv_if [∀ ρ, Decidable (pt ρ)] (hc : PT X c (tXT X.K G Cc pt)) (ha : PE X a (tX X.K G Ca ga)) (hb : PE X b (tX X.K G Cb gb)) : PE X (.IfExp c a b pos) (tX X.K G (fun ρ => Cc ρ ∧ (pt ρ → Ca ρ) ∧ (¬ pt ρ → Cb ρ)) fun ρ => if pt ρ then ga ρ else gb ρ) :=
  toX (pe_ifExp hc ha hb) fun B σ H ρ O Q R c q => ⟨B, ρ, O, R, c.1, fun H1 s1 => by
    by_cases d : pt ρ
    · rw [decide_eq_true d]
      refine iteT ⟨B, ρ, O, R.grow s1, c.2.1 d, fun v H2 s2 a2 => q v H2 (s1.trans s2) ?_⟩
      rw [if_pos d]; exact a2
    · rw [decide_eq_false d]
      refine iteF ⟨B, ρ, O, R.grow s1, c.2.2 d, fun v H2 s2 a2 => q v H2 (s1.trans s2) ?_⟩
      rw [if_neg d]; exact a2⟩
end
end L3

/-! ### texts; range downwards -/
namespace L2
open PySem PySem.Spec PyProof.Rows
noncomputable def iRngD (ta : TA) : TI := fun σ H R => ta σ H fun vs H1 => ∃ i j : Int, vs = [.int i, .int j, .int (-1)] ∧ (-(2 ^ 62) ≤ i ∧ i < 2 ^ 62 ∧ -(2 ^ 62) ≤ j ∧ j < 2 ^ 62) ∧ R (ItrS i (-1) (i - j).toNat) H1
theorem pi_rangeD (hg : Gl X "range") (hm : X.mg "range" = none) (ha : PA X [a, b, c] ta) (hs : starEach [a, b, c] X.env = (false, eval a X.env) :: starEach [b, c] X.env := by rfl) (hpl : (backTo pos (starEach [b, c] X.env)).any (·.1) = false := by rfl) :
    PI X tg (.Call (.Name "range" p) [a, b, c] [] pos) (iRngD ta) := by
  intro pins s σ H R I h
  refine Call_ (ld_blt I hg hm boot_range (PyProof.Rows.callWith_type1 (thn (ha pos pins s σ H _ I h) fun us s1 ⟨vs, H1, I1, r1, q1⟩ => ?_) hs hpl))
  obtain ⟨i, j, e, ⟨l1, l2, l3, l4⟩, q⟩ := q1
  subst e
  cases r1 with
  | cons r rr =>
    cases rr with
    | cons r' rr =>
      cases rr with
      | cons r'' rr =>
        cases rr
        obtain ⟨t, rfl⟩ := r
        obtain ⟨t', rfl⟩ := r'
        obtain ⟨t'', rfl⟩ := r''
        refine call_range_3 (by omega) ?_ (.inl (PyProof.noPylong_small (by omega)))
        have sz : (((i - j).toNat : Nat) : Int) = Builtin.Range.rangeSize i j (-1) := by
          unfold Builtin.Range.rangeSize
          rw [if_neg (by decide)]
          split
          · have : (i - j - 1) / (-(-1 : Int)) = i - j - 1 := by rw [show -(-1 : Int) = 1 from rfl, Int.ediv_one]
            rw [this]
            omega
          · omega
        refine wpAny_pyIter_range (IsRange.new ..) ?_ ?_
        · unfold Builtin.Range.small
          rw [← sz]
          have fits : ∀ x : Int, -(2 ^ 63) ≤ x → x < 2 ^ 63 → Builtin.Range.rangeFitsLong x = true := fun x h1 h2 => by
            unfold Builtin.Range.rangeFitsLong
            rw [Bool.and_eq_true, decide_eq_true_eq, decide_eq_true_eq]
            exact ⟨h1, h2⟩
          have n0 : (0 : Int) ≤ (((i - j).toNat : Nat) : Int) := Int.natCast_nonneg _
          have n1 : (((i - j).toNat : Nat) : Int) < 2 ^ 63 := by omega
          generalize (((i - j).toNat : Nat) : Int) = nn at *
          simp [fits i (by omega) (by omega), fits j (by omega) (by omega), fits (-1) (by decide) (by decide), fits nn (by omega) (by omega), fits (j + 0) (by omega) (by omega)]
        have I2 : Inv X pins σ H1 { s1 with heap := s1.heap.push { cls := .type "range", data := .fields #[.int i t, .int j t', .int (-1) t''] }, toks := s1.toks } := I1.kept fun b o e => Heap.get?_push_of_some _ e
        refine ⟨(s1.heap.push { cls := .type "range", data := .fields #[.int i t, .int j t', .int (-1) t''] }).objs.size, [(s1.heap.push { cls := .type "range", data := .fields #[.int i t, .int j t', .int (-1) t''] }).objs.size], _, _, H1, rfl,
          I2.kept (t' := s1.toks) fun b o e => Heap.get?_push_of_some _ e, turn_rangeS _ i (-1) (i - j).toNat, ?_, fun b hb => ?_, q⟩
        · show IsRangeIter _ _ (i + ((0 : Nat) : Int) * (-1)) ((((i - j).toNat : Nat) : Int) - ((0 : Nat) : Int)) (-1)
          rw [sz, show i + ((0 : Nat) : Int) * (-1) = i by simp, show Builtin.Range.rangeSize i j (-1) - ((0 : Nat) : Int) = Builtin.Range.rangeSize i j (-1) by simp]
          exact Heap.get?_push_size _ rfl
        · have e : b = (s1.heap.push { cls := .type "range", data := .fields #[.int i t, .int j t', .int (-1) t''] }).objs.size := by simpa using hb
          subst e
          exact I2.fpOk (Nat.le_refl _) (I2.hok.fresh (Nat.le_refl _))
/-- f"{a}u{b}": a text, a written one, a number -/
noncomputable def tF3 (u : Str) (ta tb : TE) : TE := fun σ H Q => ta σ H fun x H1 => ∃ y, x = .str y ∧ y.length ≤ sizeLine ∧ (y ++ u).length ≤ sizeLine ∧ tb σ H1 fun z H2 => ∃ n : Int, z = .int n ∧ n.natAbs.log2 < 1920 ∧ (y ++ u ++ (toString n : Str)).length ≤ sizeLine ∧ Q (.str (y ++ u ++ (toString n : Str))) H2
theorem empty_app (y : Str) : Str.empty ++ y = y := by
  cases y
  show Str.mk (#[] ++ _) = _
  rw [Array.empty_append]
theorem pe_f3 (ha : PE X a ta) (hb : PE X b tb) : PE X (.JoinedStr [.FormattedValue a (-1) none p1, .Constant (.str u) j p2, .FormattedValue b (-1) none p3] pos) (tF3 u ta tb) := by
  intro pins s σ H Q I h
  refine JoinedStr_many ?_
  refine joinParts_cons (FormattedValue_plain (thn (ha pins s σ H _ I h) fun v s1 ⟨x, H1, I1, r1, y, ex, l1, l2, q1⟩ => ?_))
  subst ex
  obtain ⟨t, rfl⟩ := r1
  refine formatField_str (fun t' tk => ?_) l1
  refine ⟨by rw [empty_app]; exact l1, ?_⟩
  rw [empty_app]
  refine joinParts_cons (Calls.Constant_str ?_)
  refine ⟨l2, ?_⟩
  show wpAny _ _ (joinParts (y ++ u) [eval (.FormattedValue b (-1) none p3) X.env]) _ _ _
  have I2 : Inv X pins σ H1 { s1 with toks := tk + 1 } := I1.kept fun _ _ e => e
  refine joinParts_cons (FormattedValue_plain (thn (hb pins _ σ H1 _ I2 q1) fun v s2 ⟨x, H2, I3, r2, n, ex, l3, l4, q2⟩ => ?_))
  subst ex
  obtain ⟨t2, rfl⟩ := r2
  refine formatField_int_small l3 ?_
  refine ⟨l4, ?_⟩
  refine joinParts_nil ?_ l4
  exact ⟨.str _, H2, I3.kept fun _ _ e => e, ⟨_, rfl⟩, q2⟩
end L2
namespace L3
open PySem PySem.Spec PyProof.Rows L2
section
variable {X : Cx} {G : Gx} {Er : ER} {f : FS} {a b c e : Expr} {pos p : Pos} {C Ca Cb Cc : En → Prop} {ga gb gs : En → Str} {gi : En → Int} {g : En → PV} {i k : Nat} {x : Str}
theorem xs_add (ha : PE X a (tXS X.K G Ca ga)) (hb : PE X b (tXS X.K G Cb gb)) : PE X (.BinOp a .Add b pos) (tXS X.K G (fun ρ => Ca ρ ∧ Cb ρ ∧ (ga ρ).length + (gb ρ).length ≤ sizeLine) fun ρ => ga ρ ++ gb ρ) :=
  toX (pe_op op_add_str ha hb) fun B σ H ρ O Q R c q => two R c.1 c.2.1 fun _ _ _ H2 s1 s2 a1 a2 => ⟨_, _, a1, a2, c.2.2, q _ H2 (s1.trans s2) rfl⟩
theorem xs_ofI (hm : X.mg "str" = none) (ha : PE X a (tXI X.K G C gi)) (hg : Gl X "str" := by rfl) (he : starEach [a] X.env = [(false, eval a X.env)] := by rfl) : PE X (.Call (.Name "str" p) [a] [] pos) (tXS X.K G (fun ρ => C ρ ∧ (gi ρ).natAbs.log2 < 1920) fun ρ => (toString (gi ρ) : Str)) :=
  toX (pe_callTy call_str_int hg hm bt_str (pa_cons ha pa_nil he) (by decide) (by decide) he rfl) fun B σ H ρ O Q R c q => ⟨B, ρ, O, R, c.1, fun v H1 s1 a1 => by
    subst a1
    exact ⟨_, rfl, c.2, q _ H1 s1 rfl⟩⟩
theorem xs_f3 (ha : PE X a (tXS X.K G Ca ga)) (hb : PE X b (tXI X.K G Cb gi)) : PE X (.JoinedStr [.FormattedValue a (-1) none p1, .Constant (.str u) j p2, .FormattedValue b (-1) none p3] pos) (tXS X.K G (fun ρ => Ca ρ ∧ Cb ρ ∧ (ga ρ).length ≤ sizeLine ∧ (ga ρ ++ u).length ≤ sizeLine ∧ (gi ρ).natAbs.log2 < 1920 ∧ (ga ρ ++ u ++ (toString (gi ρ) : Str)).length ≤ sizeLine) fun ρ => ga ρ ++ u ++ (toString (gi ρ) : Str)) :=
  toX (pe_f3 ha hb) fun B σ H ρ O Q R c q => ⟨B, ρ, O, R, c.1, fun v H1 s1 a1 => ⟨_, a1, c.2.2.1, c.2.2.2.1, B, ρ, O, R.grow s1, c.2.1, fun w H2 s2 a2 => ⟨_, a2, c.2.2.2.2.1, c.2.2.2.2.2, q _ H2 (s1.trans s2) rfl⟩⟩⟩
theorem xt_eqS (ha : PE X a (tXS X.K G Ca ga)) (hb : PE X b (tXS X.K G Cb gb)) : PT X (.Compare a [.Eq] [b] pos) (tXT X.K G (fun ρ => Ca ρ ∧ Cb ρ) fun ρ => ga ρ = gb ρ) :=
  fun pins s σ H Q I ⟨_, ρ, _, R, c, q⟩ => pt_cmpR op_eq ha hb (nomark _) pins s σ H Q I (two R c.1 c.2 fun v u _ H2 s1 s2 a1 a2 => by
    subst a1 a2
    refine ⟨rfl, _, rfl, ?_⟩
    have e : decide (V.str (ga ρ) = V.str (gb ρ)) = decide (ga ρ = gb ρ) := by
      rw [decide_eq_decide]
      exact ⟨fun h => by injection h, fun h => by rw [h]⟩
    rw [e]
    exact q H2 (s1.trans s2))
noncomputable def pvS : PV → Str
  | .str x => x
  | _ => Str.empty
theorem xs_of (h : PE X e (tX X.K G C g)) : PE X e (tXS X.K G (fun ρ => C ρ ∧ g ρ = .str (pvS (g ρ))) fun ρ => pvS (g ρ)) :=
  toX h fun B σ H ρ O Q R c q => ⟨B, ρ, O, R, c.1, fun v H' s a => q v H' s (by rw [c.2] at a; exact a)⟩
theorem xs_if [∀ ρ, Decidable (pt ρ)] (hc : PT X c (tXT X.K G Cc pt)) (ha : PE X a (tXS X.K G Ca ga)) (hb : PE X b (tXS X.K G Cb gb)) : PE X (.IfExp c a b pos) (tXS X.K G (fun ρ => Cc ρ ∧ (pt ρ → Ca ρ) ∧ (¬ pt ρ → Cb ρ)) fun ρ => if pt ρ then ga ρ else gb ρ) :=
  toX (xv_if hc ha hb) fun B σ H ρ O Q R c q => ⟨B, ρ, O, R, c, fun v H' s a => q v H' s (by
    have a : At X.K G (mn H' O) (if pt ρ then .str (ga ρ) else .str (gb ρ)) v := a
    show v = .str (if pt ρ then ga ρ else gb ρ)
    by_cases d : pt ρ
    · rw [if_pos d] at a ⊢; exact a
    · rw [if_neg d] at a ⊢; exact a)⟩
theorem xst_setS (hN : X.N.Nodup) (hi : X.N[i]? = some x) (hx : Loc X.env.scope x) (he : PE X e (tXS X.K G C gs)) (hs : swapsWith e (some (.Name x pos')) pos.line X.env = pure false := by rfl)
    (hf : X.fn x = true ∨ X.env.scope.names.lookup x = some .local := by first | exact .inl rfl | exact .inr rfl | assumption) : PS X (.Assign [.Name x pos'] e pos) (ts X.K G Er fun P ρ => C ρ ∧ ∀ n, n = gs ρ → P.nx (ρ.set i (.fr (.str n)))) :=
  toS (xst_set hN hi hx he hs hf) fun B σ _ ρ O P D R c w => ⟨B, ρ, P, ⟨O, R⟩, ⟨c.1, c.2 _ rfl⟩, w⟩
theorem xst_augS (hN : X.N.Nodup) (hi : X.N[i]? = some x) (hx : Loc X.env.scope x) (he : PE X e (tXS X.K G C gs))
    (hf : X.fn x = true ∨ X.env.scope.names.lookup x = some .local := by first | exact .inl rfl | exact .inr rfl | assumption) : PS X (.AugAssign (.Name x pos') .Add e pos) (ts X.K G Er fun P ρ => isS ρ i ∧ C ρ ∧ (getS ρ i).length + (gs ρ).length ≤ sizeLine ∧ ∀ n, n = getS ρ i ++ gs ρ → P.nx (ρ.set i (.fr (.str n)))) :=
  toS (ps_aug hN hi hx he iop_add_str hf) fun B σ H ρ O _ _ R c w => by
    obtain ⟨c0, c1, c2, c3⟩ := c
    obtain ⟨v, e1, e2⟩ := R.fr i _ c0
    have e2 : v = .str (getS ρ i) := e2
    subst e2
    exact ⟨_, e1, B, ρ, O, R, c1, fun u H1 s1 a1 => ⟨_, _, rfl, a1, c2, w.nx _ H1 _ ⟨O, (R.grow s1).set (p := .str _) rfl⟩ (c3 _ rfl)⟩⟩
/-- for k in range(a, b, -1) -/
theorem xst_forD {g h : En → Int} (hp : PassesOwn (model X.prog X.w) X.A X.env X.xe) (hc : X.calm = true) (hg : Gl X "range") (hm : X.mg "range" = none) (ha : PE X a (tXI X.K G C g)) (hb' : PE X b (tXI X.K G Cb h)) (hc' : PE X c (tXI X.K G Cc fun _ => -1)) (hN : X.N.Nodup) (hi : X.N[k]? = some x) (hx : Loc X.env.scope x)
    (hb : PSs X body (ts X.K G Er f)) (hs : starEach [a, b, c] X.env = (false, eval a X.env) :: starEach [b, c] X.env := by rfl) (hs2 : starEach [b, c] X.env = (false, eval b X.env) :: starEach [c] X.env := by rfl) (hs3 : starEach [c] X.env = [(false, eval c X.env)] := by rfl) (hpl : (backTo pos' (starEach [b, c] X.env)).any (·.1) = false := by rfl) (hfs : ∀ x, foldedSetIterable (.Call (.Name "range" p) [a, b, c] [] pos') X.env x = pure x := by intro _; rfl)
    (hf : X.fn x = true ∨ X.env.scope.names.lookup x = some .local := by first | exact .inl rfl | exact .inr rfl | assumption) :
    PS X (.For (.Name x px) (.Call (.Name "range" p) [a, b, c] [] pos') body [] pos) (ts X.K G Er fun P ρ => (C ρ ∧ Cb ρ ∧ Cc ρ) ∧ (-(2 ^ 62) ≤ g ρ ∧ g ρ < 2 ^ 62 ∧ -(2 ^ 62) ≤ h ρ ∧ h ρ < 2 ^ 62) ∧
      ∃ W : Nat → En → Prop, W 0 ρ ∧ (∀ i ρ', i < (g ρ - h ρ).toNat → W i ρ' → f (P.lp (W (i + 1))) (ρ'.set k (.fr (.int (g ρ + i * (-1)))))) ∧ ∀ ρ', W (g ρ - h ρ).toNat ρ' → P.nx ρ') :=
  toS (ps_for hp hc (pi_rangeD hg hm (pa_cons ha (pa_cons hb' (pa_cons hc' pa_nil hs3) hs2) hs) hs hpl) (pg_name hN hi hx hf) hb hfs) fun B σ H ρ O P D R cc w => by
    obtain ⟨⟨c1, c2, c3⟩, l, W, w0, stp, nd⟩ := cc
    refine ⟨B, ρ, O, R, c1, fun v H1 s1 a1 => ⟨B, ρ, O, R.grow s1, c2, fun u H2 s2 a2 => ⟨B, ρ, O, (R.grow s1).grow s2, c3, fun t H3 s3 a3 => ?_⟩⟩⟩
    have a1 : v = .int (g ρ) := a1
    have a2 : u = .int (h ρ) := a2
    have a3 : t = .int (-1) := a3
    subst a1 a2 a3
    refine ⟨g ρ, h ρ, rfl, l, for_rangeS (fun i σ H => ∃ ρ', RepE X.K G B σ H ρ' ∧ W i ρ') ⟨ρ, ⟨O, ((R.grow s1).grow s2).grow s3⟩, w0⟩ ?_ ?_⟩
    · rintro i σ H hi ⟨ρ', ⟨O', R'⟩, hw⟩
      exact ⟨B, _, _, ⟨O', R'.set (p := .int _) rfl⟩, stp i ρ' hi hw, ⟨fun σ' H' ρ' R' h => ⟨ρ', R', h⟩, w.rt, w.rl, w.rn, w.nx, fun σ' H' ρ' R' h => ⟨ρ', R', h⟩, w.er⟩⟩
    · rintro σ H ⟨ρ', R', hw⟩
      exact w.nx σ H ρ' R' (nd ρ' hw)
end
end L3

/-! ### pairs in lists, reversed ranges, min of three, longer f-texts -/
namespace L2
open PySem PySem.Spec PyProof.Rows
theorem call_min3 (hc : X.calm = true) : CallR X (.builtin "min") (fun xs H Q => ∃ i j k, xs = [.int i, .int j, .int k] ∧ Q (.int (if j < i then (if k < j then k else j) else (if k < i then k else i))) H) := by
  intro pins s σ H xs us Q I r h
  obtain ⟨i, j, k, rfl, q⟩ := h
  cases r with
  | cons r1 rr =>
    cases rr with
    | cons r2 rr =>
      cases rr with
      | cons r3 rr =>
        cases rr
        obtain ⟨t, rfl⟩ := r1
        obtain ⟨t', rfl⟩ := r2
        obtain ⟨t'', rfl⟩ := r3
        refine min_three_ints (I.ok.hd hc) fun h' tk kk => ⟨_, H, I.kept kk, ?_, q⟩
        by_cases h1 : j < i
        · rw [if_pos h1, if_pos h1]
          by_cases h2 : k < j
          · rw [if_pos h2, if_pos h2]; exact ⟨_, rfl⟩
          · rw [if_neg h2, if_neg h2]; exact ⟨_, rfl⟩
        · rw [if_neg h1, if_neg h1]
          by_cases h2 : k < i
          · rw [if_pos h2, if_pos h2]; exact ⟨_, rfl⟩
          · rw [if_neg h2, if_neg h2]; exact ⟨_, rfl⟩
theorem met_range_reversed (r : Addr) (a b c : Int) (t u v : Tok) (hc0 : ¬ (!(Builtin.Range.rangeFitsLong a && Builtin.Range.rangeFitsLong b && Builtin.Range.rangeFitsLong c && Builtin.Range.rangeFitsLong (-c) && Builtin.Range.rangeFitsLong (a - c) && Builtin.Range.rangeFitsLong (Builtin.Range.rangeSize a b c))) = true) :
    Meets (Builtin.«range.__reversed__» ⟨[.ref r], []⟩) (fun _ R s => s.heap.get? r = some { cls := .type "range", dict := none, data := .fields #[.int a t, .int b u, .int c v], slots := #[] } ∧ R (.ok (.ret (Value.ref s.heap.objs.size))) { s with heap := s.heap.push { cls := Value.type (if (Builtin.Range.rangeFitsLong a && Builtin.Range.rangeFitsLong b && Builtin.Range.rangeFitsLong c && Builtin.Range.rangeFitsLong (-c) && Builtin.Range.rangeFitsLong (a - c) && Builtin.Range.rangeFitsLong (Builtin.Range.rangeSize a b c)) = true then "range_iterator" else "longrange_iterator"), data := Data.fields #[rawInt (a + (Builtin.Range.rangeSize a b c - 1) * c), rawInt (Builtin.Range.rangeSize a b c), rawInt (-c)] }, toks := s.toks }) :=
  .of_wp fun prog w A R s h => by obtain ⟨hp, g, d, tk, os⟩ := s; obtain ⟨hl, h⟩ := h; wp_walk; exact ⟨_, rfl, h⟩
section
variable {prog : Program} {w : World} {A : Around} {E : Value → Shared → Prop} {s : Shared}
noncomputable abbrev rvObj (n : Int) : Obj := { cls := .type "range_iterator", data := .fields #[rawInt (n - 1), rawInt n, rawInt (-1)] }
theorem call_range_rev (hr : IsRange s.heap r 0 n 1 t u v) (h0 : 0 ≤ n) (h1 : n < 2 ^ 62)
    (h : Q (.ref s.heap.objs.size) { s with heap := s.heap.push (rvObj n) }) : wpAny (model prog w) A (call (.builtin "range.__reversed__") [.ref r]) Q E s := by
  have hT : s.TypeIs (.ref r) "range" := ⟨_, hr, rfl⟩
  have fits : ∀ x : Int, -(2 ^ 63) ≤ x → x < 2 ^ 63 → Builtin.Range.rangeFitsLong x = true := fun x h1 h2 => by
    unfold Builtin.Range.rangeFitsLong
    rw [Bool.and_eq_true, decide_eq_true_eq, decide_eq_true_eq]
    exact ⟨h1, h2⟩
  have sz : Builtin.Range.rangeSize 0 n 1 = n := by
    rw [rangeSize_one]
    split <;> omega
  have sm : (Builtin.Range.rangeFitsLong 0 && Builtin.Range.rangeFitsLong n && Builtin.Range.rangeFitsLong 1 && Builtin.Range.rangeFitsLong (-1) && Builtin.Range.rangeFitsLong (0 - 1) && Builtin.Range.rangeFitsLong (Builtin.Range.rangeSize 0 n 1)) = true := by
    rw [sz, fits 0 (by decide) (by decide), fits n (by omega) (by omega), fits 1 (by decide) (by decide), fits (-1) (by decide) (by decide), fits (0 - 1) (by decide) (by decide)]
    rfl
  refine call_meets F.slot_range_reversed hT F.entry_range_reversed (F.args_range_reversed_1 _) (met_range_reversed r 0 n 1 t u v (by rw [sm]; decide)) ⟨hr, ?_⟩
  rw [sm, sz]
  have e : (0 : Int) + (n - 1) * 1 = n - 1 := by omega
  rw [e]
  exact h
theorem sub_ra_reversed : isSubtype (.type "range_iterator") (.type "reversed") = pure false := by rw [isSubtype_type]; kernel_rfl
theorem code_reversed_rng (hr : IsRange s.heap r 0 n 1 t u v) (h0 : 0 ≤ n) (h1 : n < 2 ^ 62)
    (h : Q₁ (.ref s.heap.objs.size) { s with heap := s.heap.push (rvObj n) }) :
    codeAny (model prog w) A (.call (.builtin "reversed.__new__") ⟨[.type "reversed", .ref r], []⟩) (wants Q₁ E) s := by
  have hT : s.TypeIs (.ref r) "range" := ⟨_, hr, rfl⟩
  refine codeAny_of_tree ?_
  show wpAny _ A.in1 (do checkBuiltinCall "reversed.__new__" ⟨[.type "reversed", .ref r], []⟩; again (.builtin "reversed.__new__" ⟨[.type "reversed", .ref r], []⟩)) _ _ s
  refine wpAny_bind (wpAny_of_eq (F.newCall_reversed_1 _) (wpAny_pure ⟨plainId_quiet F.plain_reversed_new _, codeAny_builtin F.entry_reversed_new ?_⟩))
  rw [Around.under_plainId F.plain_reversed_new _]
  unfold Builtin.«reversed.__new__»
  refine wpAny_bind (wpAny_of_eq (newClass_reversed _) ?_)
  try dsimp only
  refine wpAny_bind (wpAny_of_eq (a := ()) (by first | rfl | kernel_rfl) ?_)
  refine wpAny_bind (wpAny_of_eq (a := ()) (by first | rfl | kernel_rfl) ?_)
  try dsimp only
  refine wpAny_bind (wpAny_specialOf hT F.slot_range_reversed.lookup ?_)
  try dsimp only
  refine wpAny_bind (wpAny_of_eq (F.slot_range_reversed.bind _) ?_)
  try dsimp only
  first
  | rw [if_neg (show ¬ ((Value.builtin "range.__reversed__" == Value.none) = true) from Bool.false_ne_true)]
  | (show wpAny _ _ (if (Value.builtin "range.__reversed__" == Value.none) = true then _ else _) _ _ _; rw [if_neg (show ¬ ((Value.builtin "range.__reversed__" == Value.none) = true) from Bool.false_ne_true)])
  refine wpAny_bind (wpAny_rule ?_)
  refine wpAny_bind (m := runValue (.call (.builtin "range.__reversed__") ⟨[.ref r], []⟩)) (show wpAny _ _ (call (.builtin "range.__reversed__") [.ref r]) _ _ _ from call_range_rev hr h0 h1 ?_)
  first
  | exact wpAny_pure h
  | exact wpAny_bind (wpAny_pure (wpAny_pure h))
theorem call_reversed_rng (hr : IsRange s.heap r 0 n 1 t u v) (h0 : 0 ≤ n) (h1 : n < 2 ^ 62)
    (h : Q (.ref s.heap.objs.size) { s with heap := s.heap.push (rvObj n) }) : wpAny (model prog w) A (call (.type "reversed") [.ref r]) Q E s := by
  refine callType_other (U := "range_iterator") (Q₁ := fun obj s₁ => obj = .ref s.heap.objs.size ∧ s₁ = { s with heap := s.heap.push (rvObj n) }) (by decide +kernel) F.create_reversed ⟨_, _, F.mro_reversed⟩ F.made_reversed sub_ra_reversed (F.typeCall_reversed_1 _) (code_reversed_rng hr h0 h1 ⟨rfl, rfl⟩) ?_
  rintro obj s₁ ⟨rfl, rfl⟩
  exact ⟨⟨_, Heap.get?_push_size _ rfl, rfl⟩, h⟩
theorem pyIter_ra {it : Addr} {x left step : Int} {Q : Value → Shared → Prop} (hit : IsRangeIter s.heap it x left step) (h : Q (.ref it) s) : wpAny (model prog w) A (pyIter (.ref it)) Q E s := by
  have hT : s.TypeIs (.ref it) "range_iterator" := ⟨_, hit, rfl⟩
  refine wpAny_pyIter_slot hT F.slot_range_iterator_iter (wpAny_call_entry F.slot_range_iterator_iter hT F.entry_range_iterator_iter ?_ (F.args_range_iterator_iter_1 _))
  exact wpAny_pure ⟨_, rfl, "range_iterator", _, hT, F.slot_range_iterator_next.lookup, h⟩
end
noncomputable def iRevR (ta : TA) : TI := fun σ H R => ta σ H fun vs H1 => ∃ j : Int, vs = [.int j] ∧ (0 ≤ j ∧ j < 2 ^ 62) ∧ R (ItrS (j - 1) (-1) j.toNat) H1
theorem pi_revR (hg : Gl X "reversed") (hm : X.mg "reversed" = none) (hgr : Gl X "range") (hmr : X.mg "range" = none) (ha : PA X [a] ta) (hs : starEach [a] X.env = [(false, eval a X.env)] := by rfl)
    (hs2 : starEach [.Call (.Name "range" p2) [a] [] pos2] X.env = [(false, eval (.Call (.Name "range" p2) [a] [] pos2) X.env)] := by rfl) : PI X tg (.Call (.Name "reversed" p) [.Call (.Name "range" p2) [a] [] pos2] [] pos) (iRevR ta) := by
  intro pins s σ H R I h
  refine Call_ (ld_blt I hg hm bt_reversed (PyProof.Rows.callWith_type1 ?_ hs2 rfl))
  rw [hs2]
  show wpAny _ _ (spliced ((false, eval (.Call (.Name "range" p2) [a] [] pos2) X.env) :: [])) _ _ s
  refine Calls.spliced_cons ?_
  refine Call_ (ld_blt I hgr hmr boot_range (PyProof.Rows.callWith_type1 (thn (ha pos2 pins s σ H _ I h) fun us s1 ⟨vs, H1, I1, r1, q1⟩ => ?_) hs rfl))
  obtain ⟨j, e, ⟨q1, q2⟩, q⟩ := q1
  subst e
  obtain ⟨u, rfl, ru⟩ := vals1 r1
  obtain ⟨t, rfl⟩ := ru
  refine call_range_1 ?_
  refine Calls.spliced_nil ?_
  have I2 : Inv X pins σ H1 { s1 with heap := s1.heap.push { cls := .type "range", data := .fields #[.int 0 s1.toks, .int j t, .int 1 (s1.toks + 1)] }, toks := s1.toks + 1 + 1 } := I1.kept fun b o e => Heap.get?_push_of_some _ e
  refine call_reversed_rng (IsRange.new ..) q1 q2 ?_
  have st0 : IsRangeIter ((s1.heap.push { cls := .type "range", data := .fields #[.int 0 s1.toks, .int j t, .int 1 (s1.toks + 1)] }).push (rvObj j)) (s1.heap.push { cls := .type "range", data := .fields #[.int 0 s1.toks, .int j t, .int 1 (s1.toks + 1)] }).objs.size (j - 1) j (-1) := Heap.get?_push_size _ rfl
  refine pyIter_ra st0 ?_
  refine ⟨_, [(s1.heap.push { cls := .type "range", data := .fields #[.int 0 s1.toks, .int j t, .int 1 (s1.toks + 1)] }).objs.size], _, _, H1, rfl,
    I2.kept (t' := s1.toks + 1 + 1) fun b o e => Heap.get?_push_of_some _ e, turn_rangeS _ (j - 1) (-1) j.toNat, ?_, fun b hb => ?_, q⟩
  · show IsRangeIter _ _ (j - 1 + ((0 : Nat) : Int) * (-1)) (((j.toNat : Nat) : Int) - ((0 : Nat) : Int)) (-1)
    have e1 : j - 1 + ((0 : Nat) : Int) * (-1) = j - 1 := by omega
    have e2 : ((j.toNat : Nat) : Int) - ((0 : Nat) : Int) = j := by omega
    rw [e1, e2]
    exact st0
  · have e : b = (s1.heap.push { cls := .type "range", data := .fields #[.int 0 s1.toks, .int j t, .int 1 (s1.toks + 1)] }).objs.size := by simpa using hb
    subst e
    exact I2.fpOk (Nat.le_refl _) (I2.hok.fresh (Nat.le_refl _))
/-- f"u{a}w": a text between two written ones -/
noncomputable def tFM (u w : Str) (ta : TE) : TE := fun σ H Q => u.length ≤ sizeLine ∧ ta σ H fun x H1 => ∃ y, x = .str y ∧ y.length ≤ sizeLine ∧ (u ++ y).length ≤ sizeLine ∧ (u ++ y ++ w).length ≤ sizeLine ∧ Q (.str (u ++ y ++ w)) H1
theorem pe_fM (ha : PE X a ta) : PE X (.JoinedStr [.Constant (.str u) j p1, .FormattedValue a (-1) none p2, .Constant (.str w) j2 p3] pos) (tFM u w ta) := by
  intro pins s σ H Q I h
  obtain ⟨l0, h⟩ := h
  refine JoinedStr_many ?_
  refine joinParts_cons (Calls.Constant_str ?_)
  refine ⟨by rw [empty_app]; exact l0, ?_⟩
  rw [empty_app]
  have I0 : Inv X pins σ H { s with toks := s.toks + 1 } := I.kept fun _ _ e => e
  refine joinParts_cons (FormattedValue_plain (thn (ha pins _ σ H _ I0 h) fun v s1 ⟨x, H1, I1, r1, y, ex, l1, l2, l3, q1⟩ => ?_))
  subst ex
  obtain ⟨t, rfl⟩ := r1
  refine formatField_str (fun t' tk => ?_) l1
  refine ⟨l2, ?_⟩
  show wpAny _ _ (joinParts (u ++ y) [eval (.Constant (.str w) j2 p3) X.env]) _ _ _
  refine joinParts_cons (Calls.Constant_str ?_)
  refine ⟨l3, ?_⟩
  refine joinParts_nil ?_ l3
  exact ⟨.str _, H1, I1.kept fun _ _ e => e, ⟨_, rfl⟩, q1⟩
/-- f"u{n}": a number behind a written text -/
noncomputable def tFN (u : Str) (ta : TE) : TE := fun σ H Q => u.length ≤ sizeLine ∧ ta σ H fun x H1 => ∃ n : Int, x = .int n ∧ n.natAbs.log2 < 1920 ∧ (u ++ (toString n : Str)).length ≤ sizeLine ∧ Q (.str (u ++ (toString n : Str))) H1
theorem pe_fN (ha : PE X a ta) : PE X (.JoinedStr [.Constant (.str u) j p1, .FormattedValue a (-1) none p2] pos) (tFN u ta) := by
  intro pins s σ H Q I h
  obtain ⟨l0, h⟩ := h
  refine JoinedStr_many ?_
  refine joinParts_cons (Calls.Constant_str ?_)
  refine ⟨by rw [empty_app]; exact l0, ?_⟩
  rw [empty_app]
  have I0 : Inv X pins σ H { s with toks := s.toks + 1 } := I.kept fun _ _ e => e
  refine joinParts_cons (FormattedValue_plain (thn (ha pins _ σ H _ I0 h) fun v s1 ⟨x, H1, I1, r1, n, ex, l1, l2, q1⟩ => ?_))
  subst ex
  obtain ⟨t, rfl⟩ := r1
  refine formatField_int_small l1 ?_
  refine ⟨l2, ?_⟩
  refine joinParts_nil ?_ l2
  exact ⟨.str _, H1, I1.kept fun _ _ e => e, ⟨_, rfl⟩, q1⟩
end L2
namespace L3
open PySem PySem.Spec PyProof.Rows L2
section
variable {X : Cx} {G : Gx} {Er : ER} {f : FS} {a b c e : Expr} {pos p : Pos} {C Ca Cb Cc Cs : En → Prop} {ga gb gs : En → Str} {gi gj gk : En → Int} {g : En → PV} {i k : Nat} {x : Str}
theorem xn_min3 (hcm : X.calm = true) (hm : X.mg "min" = none) (ha : PE X a (tXI X.K G Ca gi)) (hb : PE X b (tXI X.K G Cb gj)) (hc : PE X c (tXI X.K G Cc gk)) (hg : Gl X "min" := by rfl) (he : starEach [a, b, c] X.env = (false, eval a X.env) :: starEach [b, c] X.env := by rfl) (he2 : starEach [b, c] X.env = (false, eval b X.env) :: starEach [c] X.env := by rfl) (he3 : starEach [c] X.env = [(false, eval c X.env)] := by rfl) (hpl : (backTo pos (starEach [b, c] X.env)).any (·.1) = false := by rfl) :
    PE X (.Call (.Name "min" p) [a, b, c] [] pos) (tXI X.K G (fun ρ => Ca ρ ∧ Cb ρ ∧ Cc ρ) fun ρ => if gj ρ < gi ρ then (if gk ρ < gj ρ then gk ρ else gj ρ) else (if gk ρ < gi ρ then gk ρ else gi ρ)) :=
  toX (pe_callB (call_min3 hcm) hg hm bt_min (pa_cons ha (pa_cons hb (pa_cons hc pa_nil he3) he2) he) (by decide) (by decide) he hpl) fun B σ H ρ O Q R c q => ⟨B, ρ, O, R, c.1, fun v H1 s1 a1 => ⟨B, ρ, O, R.grow s1, c.2.1, fun u H2 s2 a2 => ⟨B, ρ, O, (R.grow s1).grow s2, c.2.2, fun t H3 s3 a3 => by
    subst a1 a2 a3
    exact ⟨_, _, _, rfl, q _ H3 ((s1.trans s2).trans s3) rfl⟩⟩⟩⟩
theorem xs_fM (ha : PE X a (tXS X.K G Ca ga)) : PE X (.JoinedStr [.Constant (.str u) j p1, .FormattedValue a (-1) none p2, .Constant (.str w) j2 p3] pos) (tXS X.K G (fun ρ => Ca ρ ∧ u.length ≤ sizeLine ∧ (ga ρ).length ≤ sizeLine ∧ (u ++ ga ρ).length ≤ sizeLine ∧ (u ++ ga ρ ++ w).length ≤ sizeLine) fun ρ => u ++ ga ρ ++ w) :=
  toX (pe_fM ha) fun B σ H ρ O Q R c q => ⟨c.2.1, B, ρ, O, R, c.1, fun v H1 s1 a1 => ⟨_, a1, c.2.2.1, c.2.2.2.1, c.2.2.2.2, q _ H1 s1 rfl⟩⟩
theorem xs_fN (ha : PE X a (tXI X.K G Ca gi)) : PE X (.JoinedStr [.Constant (.str u) j p1, .FormattedValue a (-1) none p2] pos) (tXS X.K G (fun ρ => Ca ρ ∧ u.length ≤ sizeLine ∧ (gi ρ).natAbs.log2 < 1920 ∧ (u ++ (toString (gi ρ) : Str)).length ≤ sizeLine) fun ρ => u ++ (toString (gi ρ) : Str)) :=
  toX (pe_fN ha) fun B σ H ρ O Q R c q => ⟨c.2.1, B, ρ, O, R, c.1, fun v H1 s1 a1 => ⟨_, a1, c.2.2.1, c.2.2.2, q _ H1 s1 rfl⟩⟩
/-- for k in reversed(range(n)) -/
theorem xst_forVR {g : En → Int} (hp : PassesOwn (model X.prog X.w) X.A X.env X.xe) (hc : X.calm = true) (hg : Gl X "reversed") (hm : X.mg "reversed" = none) (hgr : Gl X "range") (hmr : X.mg "range" = none) (ha : PE X a (tXI X.K G C g)) (hN : X.N.Nodup) (hi : X.N[k]? = some x) (hx : Loc X.env.scope x)
    (hb : PSs X body (ts X.K G Er f)) (hs : starEach [a] X.env = [(false, eval a X.env)] := by rfl) (hs2 : starEach [.Call (.Name "range" p2) [a] [] pos2] X.env = [(false, eval (.Call (.Name "range" p2) [a] [] pos2) X.env)] := by rfl) (hfs : ∀ x, foldedSetIterable (.Call (.Name "reversed" p) [.Call (.Name "range" p2) [a] [] pos2] [] pos') X.env x = pure x := by intro _; rfl)
    (hf : X.fn x = true ∨ X.env.scope.names.lookup x = some .local := by first | exact .inl rfl | exact .inr rfl | assumption) :
    PS X (.For (.Name x px) (.Call (.Name "reversed" p) [.Call (.Name "range" p2) [a] [] pos2] [] pos') body [] pos) (ts X.K G Er fun P ρ => C ρ ∧ (0 ≤ g ρ ∧ g ρ < 2 ^ 62) ∧
      ∃ W : Nat → En → Prop, W 0 ρ ∧ (∀ i ρ', i < (g ρ).toNat → W i ρ' → f (P.lp (W (i + 1))) (ρ'.set k (.fr (.int (g ρ - 1 + i * (-1)))))) ∧ ∀ ρ', W (g ρ).toNat ρ' → P.nx ρ') :=
  toS (ps_for hp hc (pi_revR hg hm hgr hmr (pa_cons ha pa_nil hs) hs hs2) (pg_name hN hi hx hf) hb hfs) fun B σ H ρ O P D R cc w => by
    obtain ⟨c1, l, W, w0, stp, nd⟩ := cc
    refine ⟨B, ρ, O, R, c1, fun v H1 s1 a1 => ?_⟩
    have a1 : v = .int (g ρ) := a1
    subst a1
    refine ⟨g ρ, rfl, l, for_rangeS (fun i σ H => ∃ ρ', RepE X.K G B σ H ρ' ∧ W i ρ') ⟨ρ, ⟨O, R.grow s1⟩, w0⟩ ?_ ?_⟩
    · rintro i σ H hi ⟨ρ', ⟨O', R'⟩, hw⟩
      exact ⟨B, _, _, ⟨O', R'.set (p := .int _) rfl⟩, stp i ρ' hi hw, ⟨fun σ' H' ρ' R' h => ⟨ρ', R', h⟩, w.rt, w.rl, w.rn, w.nx, fun σ' H' ρ' R' h => ⟨ρ', R', h⟩, w.er⟩⟩
    · rintro σ H ⟨ρ', R', hw⟩
      exact w.nx σ H ρ' R' (nd ρ' hw)
/-- the two of a pair -/
noncomputable def fstP : PV → PV
  | .tup [a, _] => a
  | _ => .non
noncomputable def sndP : PV → PV
  | .tup [_, b] => b
  | _ => .non
noncomputable def isPair (q : PV) : Prop := q = .tup [fstP q, sndP q]
/-- for a, b in a list of pairs -/
theorem xst_forT {k j : Nat} {g : En → List PV} {kk : Nat} (hp : PassesOwn (model X.prog X.w) X.A X.env X.xe) (hc : X.calm = true) (hl : PE X l (tX X.K G C fun ρ => .lst (g ρ)))
    (hgt : PG X (.Tuple [.Name x px, .Name y py] kk tp) (gTup X.K 2 (gCons (gName k) (gCons (gName j) gNil)))) (hb : PSs X body (ts X.K G Er f)) (hfs : ∀ x, foldedSetIterable l X.env x = pure x := by intro _; rfl) :
    PS X (.For (.Tuple [.Name x px, .Name y py] kk tp) l body [] pos) (ts X.K G Er fun P ρ => (C ρ ∧ ∀ q ∈ g ρ, isPair q) ∧ ∃ W : Nat → En → Prop, W 0 ρ ∧
      (∀ i n ρ', (g ρ)[i]? = some n → W i ρ' → f (P.lp (W (i + 1))) ((ρ'.set k (.fr (fstP n))).set j (.fr (sndP n)))) ∧ ∀ ρ', W (g ρ).length ρ' → P.nx ρ') :=
  toS (ps_for hp hc (pi_list hl) hgt hb hfs) fun B σ H ρ O P D R c w => by
    obtain ⟨⟨c1, c2⟩, W, w0, st, nd⟩ := c
    refine ⟨B, ρ, O, R, c1, fun v H1 s1 a1 => ?_⟩
    obtain ⟨a, vs, e, hq, hal⟩ := a1
    have R1 := R.grow s1
    have w1 := owe_base R1 w
    have el := hal.length
    refine ⟨a, e, ⟨_, .inl (same_rd mn_le hq)⟩, for_list (xs := vs) (fun i σ H => ∃ ρ', RepE X.K G (B.at H1 O) σ H ρ' ∧ W i ρ') ⟨ρ, ⟨O, R1.rebase⟩, w0⟩ ?_ ?_ ?_⟩
    · rintro i σ H _ ⟨ρ', ⟨O', R'⟩, _⟩
      exact .inl (same_rd ((Rep.base_mn B H1 O).trans R'.same) hq)
    · rintro i y σ H hy ⟨ρ', ⟨O', R'⟩, hw⟩
      obtain ⟨n, en, an⟩ := hal.get hy
      have ip := c2 n (List.mem_of_getElem? en)
      have an2 := At.mono (R1.seen R') _ _ an
      rw [ip] at an2
      obtain ⟨T, us, rfl, hT, al⟩ := an2
      obtain ⟨v1, r1, rfl, x1, v2, r2, rfl, x2, rfl⟩ := al
      refine ⟨T, _, rfl, SqT.of (mn_le _ _ hT), rfl, _, _, rfl, _, _, rfl, rfl, ?_⟩
      exact ⟨_, _, _, ⟨O', (R'.set x1).set x2⟩, st i n ρ' en hw, ⟨fun σ' H' ρ' R' h => ⟨ρ', R', h⟩, w1.rt, w1.rl, w1.rn, w1.nx, fun σ' H' ρ' R' h => ⟨ρ', R', h⟩, w1.er⟩⟩
    · rintro σ H ⟨ρ', R', hw⟩
      rw [← el] at hw
      exact w1.nx σ H ρ' R' (nd ρ' hw)
end
section
variable {K : PySem.W.Frag} {G : Gx} {σ : L2.St} {H : Hp} {Q : VK} {Cs Cb : En → Prop} {gp : En → PV} {cap : List (Option Nat)}
/-- over a range from a to b -/
theorem lc_R2 (h : tXp K G (fun ρ => (Ca ρ ∧ C2 ρ) ∧ (-(2 ^ 62) ≤ ga ρ ∧ ga ρ < 2 ^ 62 ∧ -(2 ^ 62) ≤ gb ρ ∧ gb ρ < 2 ^ 62) ∧ (gb ρ - ga ρ).toNat ≤ 1000 ∧ ∀ k : Nat, k < (gb ρ - ga ρ).toNat → Cb ((capR (none :: cap) ρ).set 0 (.fr (.int (ga ρ + k))))) (fun ρ => (List.range (gb ρ - ga ρ).toNat).map fun (k : Nat) => gp ((capR (none :: cap) ρ).set 0 (.fr (.int (ga ρ + k))))) σ H Q) :
    tLC (none :: cap) (iRng2 (tCons (tXI K G Ca ga) (tCons (tXI K G C2 gb) tNil))) (gName 0) noTest (tX K G Cb gp) σ H Q := by
  obtain ⟨B, ρ, O, R, ⟨⟨c1, c2⟩, l, c4, c5⟩, q⟩ := h
  refine ⟨B, ρ, O, R, c1, fun v H1 s1 a1 => ⟨B, ρ, O, R.grow s1, c2, fun u H2 s2 a2 => ?_⟩⟩
  have a1 : v = .int (ga ρ) := a1
  have a2 : u = .int (gb ρ) := a2
  subst a1 a2
  have hz : (List.range (gb ρ - ga ρ).toNat).length = (gb ρ - ga ρ).toNat := List.length_range
  refine ⟨ga ρ, gb ρ, rfl, l, fun D hD => ?_⟩
  refine lc_main (List.range (gb ρ - ga ρ).toNat) (fun _ v => (capS (none :: cap) σ).set 0 (some v)) (fun (k : Nat) => (capR (none :: cap) ρ).set 0 (.fr (.int (ga ρ + k)))) (fun (k : Nat) => .int (ga ρ + k)) ((R.grow s1).grow s2) hD (by rw [hz]; exact c4) (fun i H hi s => by rw [hz] at hi; exact hi) ?_ (fun H s => by rw [hz]; exact Nat.le_refl _) (fun k H _ s R' => R'.set (p := .int _) rfl) ?_ ?_ ?_
  · rintro i k x H H' en s ⟨rfl, rfl⟩
    have hlt : i < (gb ρ - ga ρ).toNat := by
      have := (List.getElem?_eq_some_iff.mp en).1
      rw [hz] at this
      exact this
    rw [List.getElem?_range hlt] at en
    cases en
    exact ⟨Same.refl _, fun kk hk => hk⟩
  · intro k
    show ExtS (none :: capS cap σ) (some (.int _) :: capS cap σ)
    exact ext_refl _
  · intro k hk
    exact c5 k (List.mem_range.mp hk)
  · intro H' ys s hd al
    exact q D ys H' ((s1.trans s2).trans s) ((s1.trans s2).free hD) hd al
end
section
variable {X : Cx} {G : Gx} {Er : ER} {N' : List Str} {sc : Scope} {cl : List (Str × Addr)} {cap : List (Option Nat)} {el tg src : Expr} {at' spos px : Pos} {Cs Cb Ca C2 Cc : En → Prop} {gs : En → List Int} {ga gb gc gi : En → Int} {gp : En → PV} {i : Nat} {x : Str} {a b c : Expr}
theorem frP_of {t : TE} {st : Stmt} {C : En → Prop} {g : En → List PV} (h : PS X st (tAsg t (gName i))) (k : ∀ σ H Q, tXp X.K G C g σ H Q → t σ H Q) : PS X st (ts X.K G Er fun P ρ => C ρ ∧ ∀ ns, ns = g ρ → P.nx (ρ.set i (.fr (.lst ns)))) :=
  toS h fun B σ H ρ O P D R c w => k σ H _ ⟨B, ρ, O, R, c.1, fun a vs H1 s1 n1 e1 al => w.nx _ H1 _ ⟨O, (R.grow s1).set (p := .lst _) ⟨a, vs, rfl, .inl (by
    rw [mn_of]
    · exact e1
    · cases z : O a with
      | false => rfl
      | true => exact absurd n1 (R.dom a z)), by
    refine AtL.mono ?_ _ _ al
    exact mn_anti hide_le⟩⟩ (c.2 _ rfl)⟩
theorem xst_lcR2f (hN : X.N.Nodup) (hi' : X.N[i]? = some x) (hx : X.env.scope.names.lookup x = some .local) (L : LcOk X N' sc cl (none :: cap)) (hc : X.calm = true) (hgl : Gl X "range") (hm : X.mg "range" = none) (ha : PE X a (tXI X.K G Ca ga)) (hb : PE X b (tXI X.K G C2 gb)) (hg : ∀ s H fp, PG (cxComp X N' sc cl s H fp) tg (gName 0)) (he : ∀ s H fp, PE (cxComp X N' sc cl s H fp) el (tXI X.K G Cb gi))
    (hsw : swapsWith (.ListComp el [⟨tg, .Call (.Name "range" p) [a, b] [] pos', [], 0⟩] sc at') (some (.Name x px)) spos.line X.env = pure true) (hst : starEach [a, b] X.env = [(false, eval a X.env), (false, eval b X.env)] := by rfl) (hs2 : starEach [b] X.env = [(false, eval b X.env)] := by rfl) (hs : ∀ x, foldedSetIterable (.Call (.Name "range" p) [a, b] [] pos') X.env x = pure x := by intro _; rfl) :
    PS X (.Assign [.Name x px] (.ListComp el [⟨tg, .Call (.Name "range" p) [a, b] [] pos', [], 0⟩] sc at') spos) (ts X.K G Er fun P ρ => ((Ca ρ ∧ C2 ρ) ∧ (-(2 ^ 62) ≤ ga ρ ∧ ga ρ < 2 ^ 62 ∧ -(2 ^ 62) ≤ gb ρ ∧ gb ρ < 2 ^ 62) ∧ (gb ρ - ga ρ).toNat ≤ 1000 ∧ ∀ k : Nat, k < (gb ρ - ga ρ).toNat → Cb ((capR (none :: cap) ρ).set 0 (.fr (.int (ga ρ + k))))) ∧ ∀ ns, ns = ((List.range (gb ρ - ga ρ).toNat).map fun (k : Nat) => gi ((capR (none :: cap) ρ).set 0 (.fr (.int (ga ρ + k))))) → P.nx (ρ.set i (.fr (.ints ns)))) :=
  fr_of (ps_lc hN hi' hx L hc (pi_range2 hgl hm (pa_cons ha (pa_cons hb pa_nil hs2) (by rw [hst, hs2])) hst hs2) hg (fun _ _ _ => pts_nil) he hsw hs) fun σ H Q h => lc_R2 (p_of_l h)
end
/-! lists of pairs of a list of numbers and a number, compared -/
noncomputable def isGo (q : PV) : Prop := ∃ g o, q = .tup [.ints g, .int o]
theorem isGo.pair (h : isGo q) : isPair q := by
  obtain ⟨g, o, rfl⟩ := h
  rfl
theorem areDat_go : ∀ {l : List PV}, (∀ q ∈ l, isGo q) → areDat l
  | [], _ => True.intro
  | q :: r, h => by
    obtain ⟨g, o, rfl⟩ := h q List.mem_cons_self
    exact ⟨⟨True.intro, True.intro, True.intro⟩, areDat_go fun x hx => h x (List.mem_cons_of_mem _ hx)⟩
theorem canLay_go : ∀ {l : List PV}, (∀ q ∈ l, isGo q) → PyData.canLayAll0 (dats l) = true ∧ PyData.depthAll (dats l) ≤ 2
  | [], _ => ⟨rfl, by decide⟩
  | q :: r, h => by
    obtain ⟨g, o, rfl⟩ := h q List.mem_cons_self
    obtain ⟨h1, h2⟩ := canLay_go (l := r) fun x hx => h x (List.mem_cons_of_mem _ hx)
    refine ⟨?_, ?_⟩
    · simp [dat, dats, PyData.canLay0, PyData.canLayAll0, PySem.W.ke_canLayAll0, h1]
    · simp only [dats, PyData.depthAll]
      refine Nat.max_le.mpr ⟨?_, h2⟩
      simp [dat, dats, PyData.depth, PyData.depthAll, PySem.W.ke_depthAll]
theorem has_go (h : ∀ q ∈ l, isGo q) : (Shape.list (.tuple [.list .int, .int])).has (dat (.lst l)) = true := by
  have key : ∀ l : List PV, (∀ q ∈ l, isGo q) → ((dats l).all (Shape.has (.tuple [.list .int, .int]))) = true := fun l => by
    induction l with
    | nil => intro _; rfl
    | cons q r ih =>
      intro h
      obtain ⟨g, o, rfl⟩ := h q List.mem_cons_self
      have hg : (Shape.list .int).has (.list (g.map PyData.int)) = true := list_map_has fun _ => rfl
      simp only [dats, List.all_cons, ih fun x hx => h x (List.mem_cons_of_mem _ hx), Bool.and_true]
      simp only [dat, dats, Shape.has, Shape.hasAll, Bool.and_true]
      simp only [Shape.has] at hg
      rw [hg]
      rfl
  simp only [dat, Shape.has]
  exact key l h
theorem datOk_go (h : ∀ q ∈ l, isGo q) (h2 : ∀ q ∈ r, isGo q) : DatOk (.lst l) (.lst r) := by
  have sh : ∀ l : List PV, (∀ q ∈ l, isGo q) → SeqAt.shaped (dat (.lst l)) = true := fun l h => by
    obtain ⟨h1, h2⟩ := canLay_go h
    unfold SeqAt.shaped
    simp only [dat, PyData.canLay0, PyData.depth, h1, Bool.true_and, decide_eq_true_eq]
    omega
  exact ⟨areDat_go h, areDat_go h2, sh l h, sh r h2, SeqAt.noMix_of_shape (.list (.tuple [.list .int, .int])) rfl _ _ (has_go h) (has_go h2)⟩
theorem eqD_self (p : PV) : eqD p p := PySem.Spec.same_self _
end L3

/-! ### any, not of a list, lists of values of one's own, list(reversed(..)) -/
namespace L2
open PySem PySem.Spec PyProof.Rows
theorem bls_are : ∀ {bs : List Bool} {its : List Value}, Vals (bs.map V.bl) its → its = bs.map Value.bool
  | [], _, h => by cases h; rfl
  | b :: r, _, h => by
    cases h with
    | cons h1 h2 =>
      have e : _ = Value.bool b := h1
      rw [bls_are h2, e]
      rfl
/-! list(reversed(a list)) -/
section
variable {prog : Program} {w : World} {A : Around} {R : Result → Shared → Prop} {s : Shared}
variable {I : Addr} {fp wr : List Addr} {G : Array GenState → Array GenState → Prop} {n : Nat} {P : Nat → Value → Prop} {St : Nat → Shared → Prop}
end
section
variable {prog : Program} {w : World} {A : Around} {E : Value → Shared → Prop} {s : Shared}
variable {I : Addr} {fp wr : List Addr} {G : Array GenState → Array GenState → Prop} {n : Nat} {P : Nat → Value → Prop} {St : Nat → Shared → Prop}
end
end L2
namespace L3
open PySem PySem.Spec PyProof.Rows L2
section
variable {X : Cx} {G : Gx} {Er : ER} {a b c e : Expr} {pos p : Pos} {C Ca : En → Prop} {gl : En → List Int} {g : En → PV} {gp : En → List PV} {i : Nat} {x : Str} {px pa pc : Pos}
noncomputable def isTB : PV → Bool
  | .bl b => b
  | _ => false
theorem atL_bls {K : PySem.W.Frag} {H : Hp} : ∀ {ps : List PV} {vs : List V}, AtL K G H ps vs → (∀ q ∈ ps, ∃ b, q = .bl b) → vs = (ps.map isTB).map V.bl
  | [], _, h, _ => h
  | q :: r, _, h, k => by
    obtain ⟨v, t, rfl, e, z⟩ := h
    obtain ⟨b, rfl⟩ := k q List.mem_cons_self
    rw [e, atL_bls z fun q hq => k q (List.mem_cons_of_mem _ hq)]
    rfl
noncomputable def isOP (ρ : En) (i : Nat) : Prop := ρ[i]? = some (.ow (.lst (pvP (getP ρ i))))
/-- a value behind a list of one's own -/
theorem xst_appP (i : Nat) (he : PE X e (tX X.K G C g)) (hN : X.N[i]? = some x := by rfl) (hv : Vis X.env.scope x := by first | exact Or.inl rfl | exact Or.inr (Or.inl rfl) | exact Or.inr (Or.inr rfl))
    (hd : (x == ("__debug__" : Str)) = false := by decide) (hcd : (x == ("__classdict__" : Str)) = false := by decide)
    (hbase : attributeBase (.Name x px) "append" X.env (eval (.Name x px) X.env) = eval (.Name x px) X.env := by rfl)
    (hfew : ((backTo pc (starEach (e :: []) X.env)).all (fun x => !x.1) && (backToKw pc (keywordEach [] X.env)).all (fun x => x.1.isSome)
      && decide ((e :: []).length + ([] : List Keyword).length + (if ([] : List Keyword).isEmpty then 0 else 1) < 30)) = true := by rfl)
    (hline : (pa.endLine == pc.line) = true := by rfl) (hs : starEach (e :: []) X.env = (false, eval e X.env) :: starEach [] X.env := by rfl) (hplain : (backTo pc (starEach [] X.env)).any (·.1) = false := by rfl)
    (hsw : swapsWith (.Call (.Attribute (.Name x px) "append" pa) [e] [] pc) none pos.line X.env = pure false := by rfl) :
    PS X (.Expr (.Call (.Attribute (.Name x px) "append" pa) [e] [] pc) pos) (ts X.K G Er fun P ρ => isOP ρ i ∧ C ρ ∧ (pvP (getP ρ i)).length < sizeLine ∧ P.nx (ρ.set i (.ow (.lst (pvP (getP ρ i) ++ [g ρ]))))) :=
  toS (ps_expr (pe_bm PySem.F.plainAttrs_list PySem.F.slot_list_append PySem.F.type_list_append mt_append (pe_var hN hv hd hcd) (pa_cons he pa_nil hs) hbase hfew hline hs hplain) hsw) fun B σ H ρ O P D R c w => by
    obtain ⟨c0, c1, c2, c3⟩ := c
    obtain ⟨a, vs, e1, e2, e3, e4, e5⟩ := R.ow i _ c0
    have el := e5.length
    refine ⟨_, e1, .inl ⟨rfl, _, SqL.of e4⟩, B, ρ, O, R, c1, fun v H1 s1 a1 => ?_⟩
    refine ⟨a, _, _, rfl, rfl, s1 _ _ e4, by rw [← el]; exact c2, w.nx σ _ _ ⟨O, (R.grow s1).change c0 e1 (p' := .lst (pvP (getP ρ i) ++ [g ρ])) ?_⟩ c3⟩
    exact AtL.snoc (AtL.mono (mn_same s1) _ _ e5) a1
end
end L3

/-! ### lists of lists: comprehensions over them, items, slices, changes -/
namespace L3
open PySem PySem.Spec PyProof.Rows L2
section
variable {K : PySem.W.Frag} {G : Gx} {σ : L2.St} {H : Hp} {Q : VK} {Cs Cb : En → Prop} {gp : En → PV} {cap : List (Option Nat)}
/-- over a list of values -/
theorem lc_V {gl : En → List PV} (h : tXp K G (fun ρ => Cs ρ ∧ (gl ρ).length ≤ 1000 ∧ ∀ q ∈ gl ρ, Cb ((capR (none :: cap) ρ).set 0 (.fr q))) (fun ρ => (gl ρ).map fun q => gp ((capR (none :: cap) ρ).set 0 (.fr q))) σ H Q) :
    tLC (none :: cap) (iList K (tX K G Cs fun ρ => .lst (gl ρ))) (gName 0) noTest (tX K G Cb gp) σ H Q := by
  obtain ⟨B, ρ, O, R, ⟨c1, c2, c4⟩, q⟩ := h
  refine ⟨B, ρ, O, R, c1, fun v H1 s1 a1 => ?_⟩
  obtain ⟨a, vs, rfl, hq, hal⟩ := a1
  have hq1 : SqL K H1 a vs := .inl (same_rd mn_le hq)
  have el := hal.length
  have R1 := R.grow s1
  refine ⟨a, rfl, ⟨_, hq1⟩, fun D hD => ?_⟩
  have one : ∀ i n, (gl ρ)[i]? = some n → At K G (mn H1 O) n (vs.getD i .non) := fun i n en => by
    have hi : i < vs.length := by rw [← el]; exact (List.getElem?_eq_some_iff.mp en).1
    obtain ⟨n', en', an⟩ := hal.get (List.getElem?_eq_getElem hi)
    rw [en] at en'
    cases en'
    rw [List.getD_eq_getElem?_getD, List.getElem?_eq_getElem hi]
    exact an
  obtain ⟨items, hit⟩ : ∃ items : List (Nat × PV), items = (gl ρ).zipIdx.map fun z => (z.2, z.1) := ⟨_, rfl⟩
  have hlen : items.length = (gl ρ).length := by rw [hit, List.length_map, List.length_zipIdx]
  have hat : ∀ (i : Nat) (it : Nat × PV), items[i]? = some it → it.1 = i ∧ (gl ρ)[i]? = some it.2 := fun i it e => by
    rw [hit, List.getElem?_map, List.getElem?_zipIdx] at e
    cases eg : (gl ρ)[i]? with
    | none => rw [eg] at e; cases e
    | some n =>
      rw [eg] at e
      have e := Option.some.inj e
      subst e
      exact ⟨Nat.zero_add i, rfl⟩
  have hmem : ∀ it ∈ items, (gl ρ)[it.1]? = some it.2 := fun it hm => by
    obtain ⟨i, e⟩ := List.mem_iff_getElem?.mp hm
    obtain ⟨h1, h2⟩ := hat i it e
    rw [h1]
    exact h2
  have hmap : items.map (fun it => gp ((capR (none :: cap) ρ).set 0 (.fr it.2))) = (gl ρ).map fun q => gp ((capR (none :: cap) ρ).set 0 (.fr q)) := by
    refine List.ext_getElem? fun i => ?_
    rw [List.getElem?_map, List.getElem?_map]
    by_cases c : i < (gl ρ).length
    · have c' : i < items.length := by omega
      obtain ⟨h1, h2⟩ := hat i items[i] (List.getElem?_eq_getElem c')
      rw [List.getElem?_eq_getElem c', h2]
      rfl
    · rw [List.getElem?_eq_none (show items.length ≤ i by omega), List.getElem?_eq_none (show (gl ρ).length ≤ i by omega)]
      rfl
  refine lc_main items (fun _ v => (capS (none :: cap) σ).set 0 (some v)) (fun it => (capR (none :: cap) ρ).set 0 (.fr it.2)) (fun it => vs.getD it.1 .non) R1 hD (by rw [hlen]; exact c2)
    (fun i H hi s => ⟨vs, vs[i]'(by rw [← el, ← hlen]; exact hi), s.seq hq1, by rw [List.getElem?_eq_getElem]⟩) ?_ (fun H s => ⟨_, s.seq hq1, by rw [hlen, el]; exact Nat.le_refl _⟩) (fun it H hm s R' => ?_) ?_ ?_ ?_
  · rintro i it x H H' en s ⟨rfl, hx⟩
    obtain ⟨h1, h2⟩ := hat i it en
    have e3 := hx _ (s.seq hq1)
    refine ⟨Same.refl _, fun kk hk => ?_⟩
    rw [h1, List.getD_eq_getElem?_getD, e3] at hk
    exact hk
  · exact R'.set (At.mono (mn_hide (O := O) s hD) _ _ (one _ _ (hmem it hm)))
  · intro it
    exact ext_refl _
  · intro it hm
    exact c4 it.2 (List.mem_of_getElem? (hmem it hm))
  · intro H' ys s hd al
    refine q D ys H' (s1.trans s) (s1.free hD) hd ?_
    rw [hmap] at al
    exact al
end
section
variable {X : Cx} {G : Gx} {Er : ER} {N' : List Str} {sc : Scope} {cl : List (Str × Addr)} {cap : List (Option Nat)} {el tg src : Expr} {at' spos px : Pos} {Cs Cb : En → Prop} {gn gi : En → Int} {gp : En → PV} {gl : En → List PV} {i : Nat} {x : Str}
end
section
variable {K : PySem.W.Frag} {G : Gx} {H : Hp}
theorem atL_drop : ∀ {ps : List PV} {vs : List V}, AtL K G H ps vs → ∀ k : Nat, AtL K G H (ps.drop k) (vs.drop k)
  | _, _, h, 0 => h
  | [], _, h, k + 1 => by
    rw [h]
    rfl
  | p :: r, _, h, k + 1 => by
    obtain ⟨u, t, rfl, e, z⟩ := h
    exact atL_drop z k
theorem atL_take : ∀ {ps : List PV} {vs : List V}, AtL K G H ps vs → ∀ k : Nat, AtL K G H (ps.take k) (vs.take k)
  | _, _, _, 0 => rfl
  | [], _, h, k + 1 => by
    rw [h]
    rfl
  | p :: r, _, h, k + 1 => by
    obtain ⟨u, t, rfl, e, z⟩ := h
    exact ⟨u, t.take k, rfl, e, atL_take z k⟩
end
section
variable {X : Cx} {G : Gx} {Er : ER} {a b e : Expr} {pos p px : Pos} {C Ca Cb : En → Prop} {gb : En → Int} {g : En → PV} {gp : En → List PV} {i : Nat} {x : Str}
noncomputable def cutP (xs : List PV) (lo hi : Option Int) : List PV := (xs.drop (HT.sIx xs.length 0 lo)).take (HT.sIx xs.length xs.length hi - HT.sIx xs.length 0 lo)
/-- x[lo:hi] of a list of values -/
theorem xp_slice {lo hi : Option Expr} {Cl Ch : En → Prop} {gl gh : En → Option Int} (ha : PE X a (tX X.K G C fun ρ => .lst (gp ρ))) (hl : PO X lo (tXo X.K G Cl gl)) (hh : PO X hi (tXo X.K G Ch gh)) :
    PE X (.Subscript a (.Slice lo hi none p2) pos) (tXp X.K G (fun ρ => C ρ ∧ Cl ρ ∧ Ch ρ) fun ρ => cutP (gp ρ) (gl ρ) (gh ρ)) :=
  fun pins s σ H Q I ⟨B, ρ, O, R, c, q⟩ => pe_slice sl_list ha hl hh pins s σ H Q I ⟨B, ρ, O, R, c.1, fun v H1 s1 a1 => ⟨B, ρ, O, R.grow s1, c.2.1, fun H2 s2 => ⟨B, ρ, O, (R.grow s1).grow s2, c.2.2, fun H3 s3 => by
    obtain ⟨l, vs, rfl, r, al⟩ := a1
    have al3 := AtL.mono (mn_same (s2.trans s3)) _ _ al
    have ell := al.length
    refine ⟨l, _, rfl, (s2.trans s3).seq (.inl (same_rd mn_le r)), fun y hy => q y _ _ (((s1.trans s2).trans s3).trans (same_new hy _)) (((s1.trans s2).trans s3).free hy) upd_same (AtL.mono (mn_hide (same_new hy _) hy) _ _ ?_)⟩
    show AtL X.K G (mn H3 O) (cutP (gp ρ) (gl ρ) (gh ρ)) (cutV vs (gl ρ) (gh ρ))
    unfold cutP cutV
    rw [ell]
    exact atL_take (atL_drop al3 _) _⟩⟩⟩
end
/-! rests by a prime, alone -/
noncomputable def KR (cR : Addr) (H : Hp) (a : Addr) (z : Int) : Prop := 0 < z ∧ ∃ dx fs, H a = some (.ins cR dx fs) ∧ fs.lookup ("size" : Str) = some (.int z) ∧ ∀ m ∈ kMeths, fs.lookup m = none
section
variable {X : Cx} {G : Gx} {pos p : Pos} {j k : Nat} {x y : Str} {C : Addr} {e : Expr} {Ca : En → Prop} {ga : En → Int}
end
/-! tables of numbers, compared -/
end L3

/-! a list of numbers, written by a comprehension over range of two and of three -/
namespace L3
open PySem L2 PyProof.Rows
section
variable {X : Cx} {G : Gx} {N' : List Str} {sc : Scope} {cl : List (Str × Addr)} {cap : List (Option Nat)} {el tg : Expr} {at' : Pos} {Cb Ca C2 Cc : En → Prop} {ga gb gc gi : En → Int} {a b c : Expr}
end
end L3

/-! for x in a tuple of values -/
namespace L3
open PySem L2 PyProof.Rows
section
variable {X : Cx} {G : Gx} {Er : ER} {pos : Pos} {f : FS} {C : En → Prop} {e : Expr}
end
end L3

/-! ### max with a default; zip, enumerate and tests over lists of values; sums of them -/
namespace L2
open PySem PySem.Spec PyProof.Rows
section
variable {prog : Program} {w : World} {A : Around} {R : Result → Shared → Prop} {E : Value → Shared → Prop} {I : Addr} {fp wr : List Addr} {n : Nat} {Pv : Nat → Value → Prop} {St : Nat → Heap → Prop}
end
end L2
namespace L3
open PySem PySem.Spec PyProof.Rows L2
section
variable {X : Cx} {G : Gx} {Er : ER} {a b e : Expr} {pos p px apos kp pz : Pos} {C Ca Cb : En → Prop} {gl : En → List Int} {gp hp : En → List PV} {g : En → PV} {i j k : Nat} {x : Str}
/-- len of a list of values of one's own -/
theorem xn_lenO (i : Nat) (hm : X.mg "len" = none) (hN : X.N[i]? = some x := by rfl) (hg : Gl X "len" := by rfl) (hv : Vis X.env.scope x := by first | exact Or.inl rfl | exact Or.inr (Or.inl rfl) | exact Or.inr (Or.inr rfl))
    (hd : (x == ("__debug__" : Str)) = false := by decide) (hcd : (x == ("__classdict__" : Str)) = false := by decide) (he : starEach [.Name x px] X.env = [(false, eval (.Name x px) X.env)] := by rfl) :
    PE X (.Call (.Name "len" p) [.Name x px] [] pos) (tXI X.K G (fun ρ => isOP ρ i) fun ρ => ((pvP (getP ρ i)).length : Int)) :=
  toX (pe_callB call_len_seq hg hm bt_len (pa_cons (pe_var hN hv hd hcd) pa_nil he) (by decide) (by decide) he rfl) fun B σ H ρ O Q R c q => by
    obtain ⟨l, vs, e1, e2, e3, e4, e5⟩ := R.ow i _ c
    have el := e5.length
    exact ⟨_, e1, l, vs, rfl, .inl (SqL.of e4), by rw [← el]; exact q _ H (Same.refl H) rfl⟩
end
/-! comprehensions over zip, enumerate, with a test, of lists of values -/
section
variable {K : PySem.W.Frag} {G : Gx} {σ : L2.St} {H : Hp} {Q : VK} {Cs Cs' Cb Ct : En → Prop} {pt : En → Prop} [∀ ρ, Decidable (pt ρ)] {gp : En → PV} {cap : List (Option Nat)} {gl hl : En → List PV}
end
section
variable {X : Cx} {G : Gx} {Er : ER} {N' : List Str} {sc : Scope} {cl : List (Str × Addr)} {cap : List (Option Nat)} {el tg src tst l l2 : Expr} {at' spos px p pos' : Pos} {Cs Cs' Ct Cb : En → Prop} {pt : En → Prop} [∀ ρ, Decidable (pt ρ)] {gp : En → PV} {gl hl : En → List PV} {i : Nat} {x : Str}
theorem xst_lcVPf (hN : X.N.Nodup) (hi' : X.N[i]? = some x) (hx : X.env.scope.names.lookup x = some .local) (L : LcOk X N' sc cl (none :: cap)) (hc : X.calm = true) (hi : PE X src (tX X.K G Cs fun ρ => .lst (gl ρ))) (hg : ∀ s H fp, PG (cxComp X N' sc cl s H fp) tg (gName 0)) (he : ∀ s H fp, PE (cxComp X N' sc cl s H fp) el (tX X.K G Cb gp))
    (hsw : swapsWith (.ListComp el [⟨tg, src, [], 0⟩] sc at') (some (.Name x px)) spos.line X.env = pure true) (hs : ∀ x, foldedSetIterable src X.env x = pure x := by intro _; rfl) :
    PS X (.Assign [.Name x px] (.ListComp el [⟨tg, src, [], 0⟩] sc at') spos) (ts X.K G Er fun P ρ => (Cs ρ ∧ (gl ρ).length ≤ 1000 ∧ ∀ q ∈ gl ρ, Cb ((capR (none :: cap) ρ).set 0 (.fr q))) ∧ ∀ ns, ns = ((gl ρ).map fun q => gp ((capR (none :: cap) ρ).set 0 (.fr q))) → P.nx (ρ.set i (.fr (.lst ns)))) :=
  frP_of (ps_lc hN hi' hx L hc (pi_list hi) hg (fun _ _ _ => pts_nil) he hsw hs) fun σ H Q h => lc_V h
end
end L3

/-! ### a comprehension whose own name is read by one inside it -/
namespace L2
open PySem PySem.Spec PyProof.Rows
section
variable {M : Model} {A : Around} {E : Value → Shared → Prop} {s : Shared}
end
section
variable {X : Cx} {pins : List (Addr × Obj)} {σ : St} {H : Hp} {s : Shared} {N' : List Str} {sc : Scope} {cl : List (Str × Addr)} {cap : List (Option Nat)} {fp : List Addr} {y : Str}
end
section
variable {X : Cx} {pins : List (Addr × Obj)} {σ : St} {H : Hp} {s : Shared} {N' : List Str} {sc : Scope} {cl : List (Str × Addr)} {cap : List (Option Nat)} {fp : List Addr} {y : Str}
  {el tg src : Expr} {cs : List Expr} {at' : Pos} {g : TG} {tt : TT} {te : TE} {J : It} {it : Addr} {tn : Nat → Heap → Prop} {Q : VK}
end
end L2
namespace L3
open PySem PySem.Spec PyProof.Rows L2
section
variable {X : Cx} {G : Gx} {Er : ER} {N' : List Str} {sc : Scope} {cl : List (Str × Addr)} {cap : List (Option Nat)} {el tg src : Expr} {at' spos px : Pos} {Cs Cb : En → Prop} {gn gi : En → Int} {gp : En → PV} {i : Nat} {x y : Str} {p pos' : Pos}
end
end L3

/-! ### pop at a place, insert, of lists of values of one's own; zip with a test -/
namespace L2
open PySem PySem.Spec PyProof.Rows
section
variable {X : Cx}
end
end L2
namespace L3
open PySem PySem.Spec PyProof.Rows L2
section
variable {K : PySem.W.Frag} {G : Gx} {H : Hp}
end
section
variable {X : Cx} {G : Gx} {Er : ER} {a b e : Expr} {pos p px py apos pc pa : Pos} {C Ca Cb : En → Prop} {gb : En → Int} {g : En → PV} {i j : Nat} {x y : Str}
end
section
variable {K : PySem.W.Frag} {G : Gx} {σ : L2.St} {H : Hp} {Q : VK} {Cs Cs' Cb Ct : En → Prop} {pt : En → Prop} [∀ ρ, Decidable (pt ρ)] {gp : En → PV} {cap : List (Option Nat)} {gl hl : En → List PV}
end
section
variable {X : Cx} {G : Gx} {Er : ER} {N' : List Str} {sc : Scope} {cl : List (Str × Addr)} {cap : List (Option Nat)} {el tg src tst l l2 : Expr} {at' spos px p pos' : Pos} {Cs Cs' Ct Cb : En → Prop} {pt : En → Prop} [∀ ρ, Decidable (pt ρ)] {gp : En → PV} {gl hl : En → List PV} {i : Nat} {x : Str}
end
end L3

/-! ### not in a table; a list of two taken apart; wholes and rests -/
namespace L2
open PySem PySem.Spec PyProof.Rows
section
variable {X : Cx} {pos : Pos}
end
end L2
namespace L3
open PySem PySem.Spec PyProof.Rows L2
section
variable {X : Cx} {G : Gx} {Er : ER} {f : FS} {C : En → Prop} {pos : Pos} {i j : Nat} {e : Expr}
end
/-! not in a table -/
section
variable {X : Cx} {G : Gx} {a b : Expr} {pos : Pos} {Ca Cb : En → Prop} {gl : En → List Int} {gp : En → List PV}
end
/-! wholes and rests by a prime -/
noncomputable def KWR (cW cR : Addr) (H : Hp) (a : Addr) (z : Int) : Prop := KW cW H a z ∨ KR cR H a z
end L3

/-! ### three kinds made; enumerate and zip of tables in a for -/
namespace L3
open PySem PySem.Spec PyProof.Rows L2
section
variable {X : Cx} {G : Gx} {pos p : Pos} {j k : Nat} {x y z : Str} {C : Addr} {e e2 : Expr} {Ca Cb : En → Prop} {ga gb : En → Int}
end
section
variable {X : Cx} {G : Gx} {Er : ER} {f : FS} {C C2 : En → Prop} {pos p pos' : Pos}
/-- for a, b in zip(two lists of values) -/
theorem xst_forZP {k j : Nat} {g h : En → List PV} {kk : Nat} (hp : PassesOwn (model X.prog X.w) X.A X.env X.xe) (hc : X.calm = true) (hg : Gl X "zip") (hm : X.mg "zip" = none) (hl : PE X l (tX X.K G C fun ρ => .lst (g ρ))) (hl2 : PE X l2 (tX X.K G C2 fun ρ => .lst (h ρ)))
    (hgt : PG X (.Tuple [.Name x px, .Name y py] kk tp) (gTup X.K 2 (gCons (gName k) (gCons (gName j) gNil)))) (hb : PSs X body (ts X.K G Er f))
    (hst : starEach [l, l2] X.env = (false, eval l X.env) :: starEach [l2] X.env := by rfl) (hst2 : starEach [l2] X.env = [(false, eval l2 X.env)] := by rfl) (hpl : (backTo pos' (starEach [l2] X.env)).any (·.1) = false := by rfl) (hfs : ∀ x, foldedSetIterable (.Call (.Name "zip" p) [l, l2] [] pos') X.env x = pure x := by intro _; rfl) :
    PS X (.For (.Tuple [.Name x px, .Name y py] kk tp) (.Call (.Name "zip" p) [l, l2] [] pos') body [] pos) (ts X.K G Er fun P ρ => (C ρ ∧ C2 ρ) ∧ ∃ W : Nat → En → Prop, W 0 ρ ∧
      (∀ i n m ρ', (g ρ)[i]? = some n → (h ρ)[i]? = some m → W i ρ' → f (P.lp (W (i + 1))) ((ρ'.set k (.fr n)).set j (.fr m))) ∧ ∀ ρ', W (min (g ρ).length (h ρ).length) ρ' → P.nx ρ') :=
  toS (ps_for hp hc (pi_zip hg hm (pa_cons hl (pa_cons hl2 pa_nil hst2) hst) hst hpl) hgt hb hfs) fun B σ H ρ O P D R c w => by
    obtain ⟨⟨c1, c2⟩, W, w0, st, nd⟩ := c
    refine ⟨B, ρ, O, R, c1, fun v H1 s1 a1 => ⟨B, ρ, O, R.grow s1, c2, fun u H2 s2 a2 => ?_⟩⟩
    obtain ⟨a, vs, rfl, hq, hal⟩ := a1
    obtain ⟨b, us, rfl, hq2, hau⟩ := a2
    have R1 := (R.grow s1).grow s2
    have w1 := owe_base R1 w
    have el := hal.length
    have eu := hau.length
    have hqa : Rd (mn H2 O) a (.lst vs) := same_rd (mn_same s2) hq
    have hal2 := AtL.mono (mn_same s2) _ _ hal
    refine ⟨a, b, rfl, ⟨_, .inl (same_rd mn_le hqa)⟩, ⟨_, .inl (same_rd mn_le hq2)⟩, for_zip (xs := vs) (ys := us) (fun i σ H => ∃ ρ', RepE X.K G (B.at H2 O) σ H ρ' ∧ W i ρ') ⟨ρ, ⟨O, R1.rebase⟩, w0⟩ ?_ ?_ ?_⟩
    · rintro i σ H ⟨ρ', ⟨O', R'⟩, _⟩
      exact ⟨.inl (same_rd ((Rep.base_mn B H2 O).trans R'.same) hqa), .inl (same_rd ((Rep.base_mn B H2 O).trans R'.same) hq2)⟩
    · rintro i x y σ H T hx hy ⟨ρ', ⟨O', R'⟩, hw⟩ hT
      obtain ⟨n, en, an⟩ := hal2.get hx
      obtain ⟨m, em, am⟩ := hau.get hy
      have R2 := R'.grow (same_new hT (.tup [x, y]))
      refine ⟨T, _, rfl, SqT.of upd_same, rfl, _, _, rfl, _, _, rfl, rfl, ?_⟩
      exact ⟨_, _, _, ⟨O', (R2.set (At.mono (R1.seen R2) _ _ an)).set (At.mono (R1.seen R2) _ _ am)⟩, st i n m ρ' en em hw, ⟨fun σ' H' ρ' R' h => ⟨ρ', R', h⟩, w1.rt, w1.rl, w1.rn, w1.nx, fun σ' H' ρ' R' h => ⟨ρ', R', h⟩, w1.er⟩⟩
    · rintro σ H ⟨ρ', R', hw⟩
      rw [← el, ← eu] at hw
      exact w1.nx σ H ρ' R' (nd ρ' hw)
end
end L3

/-! ### a comprehension with a test over a list of values of one's own; a list of a list and a table, compared -/
namespace L3
open PySem PySem.Spec PyProof.Rows L2
section
variable {K : PySem.W.Frag} {G : Gx} {σ : L2.St} {H : Hp} {Q : VK} {Cb Ct : En → Prop} {pt : En → Prop} [∀ ρ, Decidable (pt ρ)] {gp : En → PV} {cap : List (Option Nat)} {j : Nat}
end
section
variable {X : Cx} {G : Gx} {N' : List Str} {sc : Scope} {cl : List (Str × Addr)} {cap : List (Option Nat)} {el tg tst : Expr} {at' px : Pos} {Ct Cb : En → Prop} {pt : En → Prop} [∀ ρ, Decidable (pt ρ)] {gp : En → PV}
end
end L3

/-! ### a comprehension over reversed(a list of values) -/
namespace L3
open PySem PySem.Spec PyProof.Rows L2
section
variable {K : PySem.W.Frag} {G : Gx} {σ : L2.St} {H : Hp} {Q : VK} {Cs Cb : En → Prop} {gp : En → PV} {cap : List (Option Nat)} {gl : En → List PV}
end
section
variable {X : Cx} {G : Gx} {Er : ER} {N' : List Str} {sc : Scope} {cl : List (Str × Addr)} {cap : List (Option Nat)} {el tg src : Expr} {at' spos px p pos' : Pos} {Cs Cb : En → Prop} {gp : En → PV} {gl : En → List PV} {i : Nat} {x : Str}
end
end L3
namespace L3
open PySem PySem.Spec PyProof.Rows L2
section
variable {X : Cx} {G : Gx} {a b : Expr} {pos : Pos} {Ca Cb : En → Prop} {ga gb : En → Int}
end
end L3

/-! ### count(True), index(True) of lists of truths; makers that do not refuse here -/
namespace L2
open PySem PySem.Spec PyProof.Rows
section
variable {X : Cx}
end
end L2
namespace L3
open PySem PySem.Spec PyProof.Rows L2
section
variable {K : PySem.W.Frag} {G : Gx} {H : Hp}
end
section
variable {X : Cx} {G : Gx} {e : Expr} {C : En → Prop} {g : En → PV} {apos cpos p : Pos} {k2 : Nat}
end
/-! where a text begins with constants alone, Lean walks into it as it looks at its type: shut it away -/
section
variable {X : Cx} {G : Gx} {Er : ER} {a b c e : Expr} {es : List Expr} {sts : List Stmt} {C Ca Cb : En → Prop} {g : En → PV} {gb : En → Int} {gp gs : En → List PV} {f1 f2 : Ps → En → Prop} {pos p2 : Pos} {t : TE} {ta : TA} {tt : TS}
end
end L3

/-! ### a number (not) in a list of numbers, its index, `is not False`, a tuple whose last thing may refuse -/
namespace L2
open PySem PySem.Spec PyProof.Rows
section
variable {X : Cx}
end
end L2
namespace L3
open PySem PySem.Spec PyProof.Rows L2
section
variable {X : Cx} {G : Gx} {Er : ER} {E : XK} {a b e e1 e2 e3 : Expr} {C Ca Cb C1 C2 C3 : En → Prop} {ga : En → Int} {gl : En → List Int} {g g1 g2 : En → PV} {FE : En → Rs} {apos cpos p pos : Pos} {k2 : Nat}
end
end L3

/-! ### a lambda as the key of a sort -/
namespace L2
open PySem PySem.Spec PyProof.Rows
/-! lists: a permutation of images is the image of a permutation; one order only -/
section
variable {X : Cx} {pins : List (Addr × Obj)} {σ : St} {H : Hp} {s : Shared}
end
end L2
namespace L2
open PySem PySem.Spec PyProof.Rows
section
variable {prog : Program} {w : World} {A : Around} {s : Shared} {Q : Value → Shared → Prop} {E : Value → Shared → Prop}
end
end L2
namespace L3
open PySem PySem.Spec PyProof.Rows L2
section
variable {K : PySem.W.Frag} {G : Gx} {H : Hp}
end
/-- a code value of a def that makes a lambda of the name q -/
noncomputable def LamC (K : PySem.W.Frag) (cd : Value) (q : Str) : Prop := ∃ c P, cd = .ref c ∧ (c, P, q) ∈ lamsIn K
section
variable {X : Cx} {G : Gx} {a : Expr} {pos p kp posL p1 p2 p3 : Pos} {Ca : En → Prop} {ga : En → PV} {k j : Nat} {y : Str} {params : Arguments} {scope : Scope}
end
/-- a def of the module that makes a lambda -/
noncomputable def LamDef (K : PySem.W.Frag) (mg : Str → Option Value) (x : Str) : Prop := ∃ f oc od fd sl, mg x = some (.ref f) ∧ K.lookup f = some ⟨oc, od, .func fd, sl⟩ ∧ LamC K fd.code (x ++ ".<locals>." ++ "<lambda>")
noncomputable def lamHas (K : PySem.W.Frag) (cd : Value) (q : Str) : Bool := match cd with
  | .ref c => (lamsIn K).any fun x => x.1 == c && x.2.2 == q
  | _ => false
theorem lamHas_of {K : PySem.W.Frag} {cd : Value} {q : Str} (h : lamHas K cd q = true) : LamC K cd q := by
  unfold lamHas at h
  split at h
  · rename_i c
    obtain ⟨x, hx, e⟩ := List.any_eq_true.mp h
    rw [Bool.and_eq_true, beq_iff_eq, beq_iff_eq] at e
    obtain ⟨a, b, d⟩ := x
    obtain ⟨e1, e2⟩ := e
    subst e1 e2
    exact ⟨a, b, rfl, hx⟩
  · cases h
section
variable {P : Program} {w : World} {K : PySem.W.Frag} {mg : Str → Option Value} {base : Heap} {G : Gx}
end
end L3

/-! ### lists of numbers compared by <, keys (length, list) compared -/
namespace L2
open PySem PySem.Spec PyProof.Rows
open PySem.AutoSeq1 (wpAny_loadPart')
open PySem.MeetsSeq PySem.MeetsSeq2 PySem.MeetsSeq3 PySem.SeqAt
section
variable {prog : Program} {w : World} {A : Around} {E : Value → Shared → Prop} {s : Shared} {a b : Addr} {xs ys : List Value} {ns ms : List Int} {Q : Value → Shared → Prop}
end
section
variable {prog : Program} {w : World} {A : Around} {E : Value → Shared → Prop} {s : Shared} {Q : Bool → Shared → Prop}
end
end L2

/-! ### the library's tree of comparisons sorts (fewer than 64 things, one strict order, none alike) -/
namespace L2
open PySem PySem.Spec PyProof.Rows PySem.W
noncomputable def KOk (n : Nat) (lt : Nat → Nat → Bool) {α : Type} (Post : α → Prop) : KasT α → Prop
  | .ret a => Post a
  | .ask i j k => i < n ∧ j < n ∧ KOk n lt Post (k (lt i j))
section
variable {n : Nat} {lt : Nat → Nat → Bool} {α β : Type}
/-- a strict order of the first n -/
structure Ord (n : Nat) (lt : Nat → Nat → Bool) : Prop where
  asy : ∀ i j, i < n → j < n → lt i j = true → lt j i = false
  tot : ∀ i j, i < n → j < n → i ≠ j → lt i j = false → lt j i = true
  tr : ∀ i j k, i < n → j < n → k < n → lt i j = true → lt j k = true → lt i k = true
noncomputable def PR (n : Nat) (p : Array Nat) : Prop := p.toList.Perm (List.range n)
noncomputable def Srt (lt : Nat → Nat → Bool) (p : Array Nat) (m : Nat) : Prop := ∀ i j, i < j → j < m → lt (p.getD i 0) (p.getD j 0) = true
noncomputable def Dsc (lt : Nat → Nat → Bool) (p : Array Nat) (m : Nat) : Prop := ∀ i j, i < j → j < m → lt (p.getD j 0) (p.getD i 0) = true
end
end L2

/-! ### sorted with a key (length, list) -/
namespace L3
open PySem PySem.Spec PyProof.Rows L2
/-! the order -/
section
variable {X : Cx} {pins : List (Addr × Obj)} {σ : L2.St} {H : Hp} {s t : Shared} {D kS : Addr} {G : Gx} {O : Addr → Bool}
/-- an address that nothing here knows -/
structure Fresh (X : Cx) (pins : List (Addr × Obj)) (D : Addr) : Prop where
  big : X.s₀.heap.objs.size ≤ D
  loc : D ≠ X.env.locals
  cel : ∀ x c, X.env.cells.lookup x = some c → c ≠ D
  pin : ∀ p ∈ X.pn ++ pins, p.1 ≠ D
  fs : D ∉ X.fs
end
section
variable {X : Cx} {pins : List (Addr × Obj)} {σ : L2.St} {H : Hp} {s t : Shared} {D kS : Addr} {G : Gx} {O : Addr → Bool} {A : Around} {f : Value} {its : List Value} {gs : List (List Int)} {e1 : Nat} {P : PySem.Fin → Shared → Prop} {E : Value → Shared → Prop}
end
end L3

/-! ### sorted by (length, list): the rules -/
namespace L3
open PySem PySem.Spec PyProof.Rows L2
section
variable {X : Cx} {pins : List (Addr × Obj)} {σ : L2.St} {H : Hp} {s t : Shared} {D l : Addr} {G : Gx} {O : Addr → Bool} {f : Value} {its : List Value} {gs : List (List Int)} {E : Value → Shared → Prop}
end
end L3

/-! ### sorted(.., key=f) and sorted(.., key=lambda y: f(y[0])), f told by (length, list) -/
namespace L2
open PySem PySem.Spec PyProof.Rows
section
variable {prog : Program} {w : World} {A : Around} {s : Shared} {Q : Value → Shared → Prop} {E : Value → Shared → Prop}
end
end L2
namespace L3
open PySem PySem.Spec PyProof.Rows L2
section
variable {X : Cx} {pins : List (Addr × Obj)} {σ : L2.St} {H : Hp} {s : Shared} {G : Gx} {O : Addr → Bool} {A : Around} {pre : List PV → Prop} {F : List PV → PV} {j k : Nat} {fn : Str} {x : Str}
end
section
variable {X : Cx} {G : Gx} {a : Expr} {pos p pk kp posL p1 p2 p3 pf pc : Pos} {Ca : En → Prop} {ga : En → PV} {i j k : Nat} {x y fn : Str} {params : Arguments} {scope : Scope} {pre : List PV → Prop} {F : List PV → PV}
end
end L3

/-! ### a comprehension with a test over range -/
namespace L3
open PySem PySem.Spec PyProof.Rows L2
section
variable {K : PySem.W.Frag} {G : Gx} {σ : L2.St} {H : Hp} {Q : VK} {Cs Ct Cb : En → Prop} {pt : En → Prop} [∀ ρ, Decidable (pt ρ)] {gn : En → Int} {gp : En → PV} {cap : List (Option Nat)}
end
section
variable {X : Cx} {G : Gx} {N' : List Str} {sc : Scope} {cl : List (Str × Addr)} {cap : List (Option Nat)} {el tg src tst : Expr} {at' p pos' : Pos} {Cs Ct Cb : En → Prop} {pt : En → Prop} [∀ ρ, Decidable (pt ρ)] {gn : En → Int} {gi : En → Int}
end
end L3

/-! ### short words for what the readings say often -/
namespace L3
open PySem PySem.Spec PyProof.Rows L2
end L3

namespace L2
open PySem PySem.Spec PyProof.Rows
/-! ### an error's own attribute -/
noncomputable abbrev excM (C B : Addr) : List Value := [.ref C, .ref B, .type "ValueError", .type "Exception", .type "BaseException", .type "object"]
theorem ownN1 : classOwn (.type "ValueError") "__setattr__" = pure none := by rfl
theorem ownN2 : classOwn (.type "Exception") "__setattr__" = pure none := by rfl
theorem ownN3 : classOwn (.type "BaseException") "__setattr__" = pure none := by rfl
section
variable {K : PySem.W.Frag} {prog : Program} {w : World} {A : Around} {E : Value → Shared → Prop} {s : Shared} {a C B : Addr} {oe : Obj} {vs : Array Value} {name : Str} {v : Value} {Q : Unit → Shared → Prop} {cd : ClassData}
theorem looks_refuse (X : K.In s.heap) (he : s.heap.get? a = some oe) (hc : oe.cls = .ref C) (hcd : PySem.W.clsIn K C = some cd) (hm : cd.mro = excM C B) :
    PySem.W.Looks (model prog w) s.heap (Builtin.ObjectAttr.refuseIfOverridden (.ref a) "__setattr__") () := by
  unfold Builtin.ObjectAttr.refuseIfOverridden
  have LT : PySem.W.Looks (model prog w) s.heap (typeOf (.ref a)) (.ref C) := by
    rw [← hc]
    exact (PySem.W.Looks.ld he).andThen .now
  refine LT.andThen ?_
  have LM : PySem.W.Looks (model prog w) s.heap (mroOf (.ref C)) (excM C B) := by
    rw [← hm]
    exact (PySem.W.looks_clsIn X hcd).andThen .now
  refine LM.andThen ?_
  simp only [List.forIn_cons, List.forIn_nil, ownN1, ownN2, ownN3, PySem.F.own_object_setattr, pure_bind]
  exact PySem.W.Looks.now
theorem exc_set {nm q : Str} {N : Addr} {bs : List Value} {sn : List Str} {sub : List Value} {ab : Bool} {col : Option Bool} {dcl : Option Addr} {k0 k1 k2 k3 k5 : Option Value} {newId : String} (X : K.In s.heap) (he : s.heap.get? a = some oe) (hc : oe.cls = .ref C) (hd : oe.dict = none) (hf : oe.data = .fields vs)
    (hs : PySem.W.findIn K (.ref C) "__setattr__" = some (some (.builtin "object.__setattr__"))) (hC : s.heap.get? C = some (excClassObj nm q C N bs (excM C B).tail true sn sub ab col dcl k0 k1 k2 k3 k5 newId))
    (hcd : PySem.W.clsIn K C = some cd) (hm : cd.mro = excM C B) (hh : cd.hasDict = true) (hn : PySem.W.findIn K (.ref C) name = some none)
    (h : ∀ h' d, s.heap.get? d = none → h'.get? a = some { oe with dict := some d } → h'.Ns1 d (fun x => if x = name then some v else none) → (∀ b o, b ≠ a → s.heap.get? b = some o → h'.get? b = some o) → Q () { s with heap := h', toks := s.toks + 2 }) :
    wpAny (model prog w) A (setAttr (.ref a) name v) Q E s := by
  have J : PySem.W.InstAt s.heap a oe C none := ⟨he, hc, by unfold PySem.W.notCls; rw [hf], by rw [hd]; exact True.intro⟩
  refine PySem.W.set_plain X J hs ?_
  refine codeAny_call_builtin (by decide +kernel) PySem.F.entry_object_setattr ?_
  have hb : (excM C B).tail.contains (.type "object") = true := by
    show ([.ref B, .type "ValueError", .type "Exception", .type "BaseException", .type "object"] : List Value).contains (.type "object") = true
    simp
  refine wpAny_check_slot_inst (h := s.heap) (g := s.gens) (d := s.drawn) (t := s.toks + 1) (os := s.os) (x := a) (rest := [.str name s.toks, v]) (id := "object.__setattr__") PySem.F.bk_object_setattr PySem.F.sp_object_setattr (PySem.F.args_object_setattr_3 _ _ _) hb he hc hC ?_
  rw [PySem.W.osa_eq]
  refine wpAny_bind ((looks_refuse X he hc hcd hm).here (s := { s with toks := s.toks + 1 }) ?_)
  have LT : PySem.W.Looks (model prog w) s.heap (typeOf (.ref a)) (.ref C) := by
    rw [← hc]
    exact (PySem.W.Looks.ld he).andThen .now
  refine wpAny_bind (LT.here (s := { s with toks := s.toks + 1 }) ?_)
  refine wpAny_bind ((PySem.W.looks_findIn X hn).here (s := { s with toks := s.toks + 1 }) ?_)
  refine wpAny_bind (m := Builtin.ObjectAttr.storeTaker? none) (wpAny_pure ?_)
  show wpAny _ _ (Builtin.ObjectAttr.storeInOwnDict (.ref a) (.ref C) (.str name s.toks) name v false) _ _ _
  unfold Builtin.ObjectAttr.storeInOwnDict
  refine wpAny_bind (m := ownStreamTells (.ref a) (.ref C)) (wpAny_pure ?_)
  show wpAny _ _ (do
    let r ← Builtin.ObjectAttr.ownDictForStores (.ref a)
    match r with
      | some d => Builtin.ObjectAttr.storeInDict d (.str name s.toks) name v
      | none => Builtin.ObjectAttr.noDictFor (.ref a) (.ref C) name false) _ _ _
  refine wpAny_bind ?_
  show wpAny _ _ (instanceDict a true) _ _ _
  unfold instanceDict
  refine wpAny_bind (wpAny_loadPart he ?_)
  dsimp only
  rw [hc]
  dsimp only
  refine wpAny_bind ((PySem.W.looks_clsIn X hcd).here (s := { s with toks := s.toks + 1 }) ?_)
  rw [hh, hd]
  rw [if_neg (by decide)]
  dsimp only
  rw [if_neg (show ¬ (!true || !typeHasDict (.ref C)) = true from Bool.false_ne_true), hf]
  dsimp only
  refine wpAny_bind (wpAny_alloc ?_)
  dsimp only
  have hda : s.heap.objs.size ≠ a := Nat.ne_of_gt (Heap.lt_size he)
  have e1 := Heap.get?_push_size s.heap (o := { cls := .type "dict", data := .dict #[] }) rfl
  have e2 := Heap.get?_push_of_some (h := s.heap) { cls := .type "dict", data := .dict #[] } he
  refine wpAny_bind (wpAny_update e2 ?_)
  have e3 := Heap.get?_update_self (fun o => { cls := o.cls, dict := some s.heap.objs.size, data := o.data, slots := o.slots }) e2 (by rw [hf]; rfl)
  have e4 := (Heap.get?_update_other (s.heap.push { cls := .type "dict", data := .dict #[] }) (fun o => { cls := o.cls, dict := some s.heap.objs.size, data := o.data, slots := o.slots }) (Ne.symm hda)).trans e1
  refine wpAny_pure (a := some s.heap.objs.size) ?_
  dsimp only
  unfold Builtin.ObjectAttr.storeInDict
  refine wpAny_bind (m := Builtin.ObjectAttr.newKeyGuard s.heap.objs.size name (.str name s.toks)) (wpAny_pure ?_)
  have ns : ((s.heap.push { cls := .type "dict", data := .dict #[] }).update a fun o => { cls := o.cls, dict := some s.heap.objs.size, data := o.data, slots := o.slots }).Ns1 s.heap.objs.size fun _ => none :=
    Heap.Ns1.of_empty ⟨_, #[], _, e4, rfl, (fun e he => absurd he (by simp)), fun _ => rfl⟩
  refine wpAny_bind (wpAny_nsSet1 ns fun h' hn2 hs2 => ?_)
  obtain ⟨oD, esD, epD, hoD, hdD, hcD⟩ := hn2.count (PySem.Within.cons (ns := []) name v (fun _ z => absurd rfl z))
  refine wpAny_bind (wpAny_lookBehind hoD (by rw [hdD]; exact pastItsLine_dict (Nat.le_trans hcD (by show 1 ≤ _; rw [sizeLine_eq]; omega))) ?_)
  refine wpAny_pure (h h' s.heap.objs.size ?_ ?_ hn2 fun b o hb q => ?_)
  · cases z : s.heap.get? s.heap.objs.size with
    | none => rfl
    | some o => exact absurd (Heap.lt_size z) (Nat.lt_irrefl _)
  · rw [hs2.2 a (Ne.symm hda)]
    exact e3
  · have nb : s.heap.objs.size ≠ b := Nat.ne_of_gt (Heap.lt_size q)
    rw [hs2.2 b (Ne.symm nb), Heap.get?_update_other _ _ (Ne.symm hb)]
    exact Heap.get?_push_of_some _ q
end
end L2

namespace L2
open PySem PySem.Spec PyProof.Rows
section
variable {K : PySem.W.Frag} {prog : Program} {w : World} {A : Around} {R : Result → Shared → Prop} {s : Shared} {a C B : Addr} {oe : Obj} {us : List Value} {nm q : Str} {N : Addr} {bs bm : List Value} {hdct : Bool} {sn : List Str} {sub : List Value} {ab : Bool} {col : Option Bool} {dcl : Option Addr} {k0 k1 k2 k3 k5 : Option Value} {newId : String}
theorem exc_call (hC : s.heap.get? C = some (excClassObj nm q C N bs bm hdct sn sub ab col dcl k0 k1 k2 k3 k5 newId))
    (h : wpAny (model prog w) (A.under (.builtin "type.__call__" { pos := .ref C :: us })) (Builtin.«type.__call__» { pos := .ref C :: us }) (fun fin s' => match fin with | .done f => R (.ok f) s' | .again c' => c'.quiet = true ∧ codeAny (model prog w) A c' R s') (fun e s' => R (.error e) s') s) :
    codeAny (model prog w) A (.call (.ref C) { pos := us }) R s := by
  refine codeAny_of_tree ?_
  show wpAny (model prog w) _ (callAny (.ref C) { pos := us }) _ _ _
  unfold callAny
  dsimp only
  refine wpAny_bind (wpAny_load hC ?_)
  dsimp only
  unfold callAny.viaDunder
  have LT : PySem.W.Looks (model prog w) s.heap (specialOf (.ref C) "__call__") (some (.builtin "type.__call__")) := by
    have e : PySem.W.Looks (model prog w) s.heap (typeOf (.ref C)) (.type "type") := (PySem.W.Looks.ld hC).andThen .now
    refine e.andThen ?_
    rw [PySem.F.lookup_type_call]
    exact .now
  refine wpAny_bind (LT.here ?_)
  dsimp only
  rw [PySem.F.bind_type_call]
  refine wpAny_bind (wpAny_pure ?_)
  dsimp only
  refine wpAny_bind (m := callAny.plainCallee (.builtin "type.__call__")) (wpAny_pure (a := true) ?_)
  rw [if_pos rfl]
  refine wpAny_pure (a := Fin.again _) ⟨rfl, ?_⟩
  refine codeAny_call_builtin_code (by kernel_rfl) (wpAny_check_type_call_sub hC ?_)
  refine codeAny_builtin PySem.F.entry_type_call ?_
  exact h
theorem looks_made (hC : s.heap.get? C = some (excClassObj nm q C N bs bm hdct sn sub ab col dcl k0 k1 k2 k3 k5 newId)) : PySem.W.Looks (model prog w) s.heap (Bind.madeBy (.ref C)) (some newId) := by
  unfold Bind.madeBy
  have LM : PySem.W.Looks (model prog w) s.heap (mroOf (.ref C)) (.ref C :: bm) := (PySem.W.Looks.ld hC).andThen .now
  refine LM.andThen ?_
  simp only [List.forIn_cons]
  have LS : PySem.W.Looks (model prog w) s.heap (slotAt C 4) (some (.builtin newId)) := (PySem.W.Looks.ld hC).andThen .now
  exact PySem.W.Looks.andThen (a := (some (some newId), Value.ref C)) (PySem.W.Looks.andThen (a := ForInStep.done (some (some newId), Value.ref C)) (LS.andThen .now) .now) .now
theorem exc_type_call {Q : PySem.Fin → Shared → Prop} {E : Value → Shared → Prop} {fI : Addr} (X : K.In s.heap) (hC : s.heap.get? C = some (excClassObj nm q C N bs bm hdct sn sub ab col dcl k0 k1 k2 k3 k5 "ValueError.__new__")) (tl : OwnTail s.heap bmV bm)
    (hi : PySem.W.findIn K (.ref C) "__init__" = some (some (.ref fI))) (hfn : PySem.W.typeIn K (.ref fI) = some (.type "function")) (hs : PySem.W.mroIn K C (.ref C) = some true) (hz : us.length ≤ sizeLine)
    (h : ∀ h' e, e = s.heap.objs.size + 1 → s.heap.MadeExcOf h' e (.ref C) us → wpAny (model prog w) A (call (.ref fI) (.ref e :: us)) (fun r s' => r = .none ∧ Q (.done (.ret (.ref e))) s') E { s with heap := h' }) :
    wpAny (model prog w) A (Builtin.«type.__call__» { pos := .ref C :: us }) Q E s := by
  unfold Builtin.«type.__call__»
  dsimp only
  rw [if_neg (show ¬ ((Value.ref C == Value.type "type") = true) from Bool.false_ne_true)]
  have LM : PySem.W.Looks (model prog w) s.heap (mroOf (.ref C)) (.ref C :: bm) := (PySem.W.Looks.ld hC).andThen .now
  refine wpAny_bind (LM.here ?_)
  rw [if_neg (show ¬ ((Value.ref C :: bm).isEmpty = true) from Bool.false_ne_true)]
  refine wpAny_bind ((looks_made hC).here ?_)
  dsimp only
  refine wpAny_bind (wpAny_pure ?_)
  refine wpAny_bind (wpAny_holding (wpAny_call (codeAny_call_builtin_code (by kernel_rfl) (wpAny_check_new_subU (h := s.heap) (g := s.gens) (d := s.drawn) (t := s.toks) (os := s.os) PySem.F.excBase_ValueError (by decide +kernel) tl hC ?_))))
  refine codeAny_exc_new_subU PySem.F.excBase_ValueError (by decide +kernel) PySem.F.excBase_ValueError tl hC ?_ hz
  dsimp only
  have e1 := Heap.get?_push_size s.heap (o := { cls := .type "tuple", data := .seq us.toArray }) rfl
  have kp : ∀ b o, s.heap.get? b = some o → ((s.heap.push { cls := .type "tuple", data := .seq us.toArray }).push { cls := .ref C, data := .fields #[.ref s.heap.objs.size, .none, .none, .none, .bool false, .none] }).get? b = some o := fun b o e => Heap.get?_push_of_some _ (Heap.get?_push_of_some _ e)
  have e2 : ((s.heap.push { cls := .type "tuple", data := .seq us.toArray }).push { cls := .ref C, data := .fields #[.ref s.heap.objs.size, .none, .none, .none, .bool false, .none] }).get? (s.heap.objs.size + 1) = some { cls := .ref C, data := .fields #[.ref s.heap.objs.size, .none, .none, .none, .bool false, .none] } := by
    have := Heap.get?_push_size (s.heap.push { cls := .type "tuple", data := .seq us.toArray }) (o := { cls := .ref C, data := .fields #[.ref s.heap.objs.size, .none, .none, .none, .bool false, .none] }) rfl
    rwa [Heap.size_push] at this
  have n0 : ∀ k, s.heap.get? (s.heap.objs.size + k) = none := fun k => by
    cases z : s.heap.get? (s.heap.objs.size + k) with
    | none => rfl
    | some o => exact absurd (Heap.lt_size z) (Nat.not_lt.mpr (Nat.le_add_right _ k))
  have made : s.heap.MadeExcOf ((s.heap.push { cls := .type "tuple", data := .seq us.toArray }).push { cls := .ref C, data := .fields #[.ref s.heap.objs.size, .none, .none, .none, .bool false, .none] }) (s.heap.objs.size + 1) (.ref C) us :=
    ⟨kp, n0 1, s.heap.objs.size, e2, n0 0, Heap.get?_push_of_some _ e1⟩
  generalize (s.heap.push { cls := .type "tuple", data := .seq us.toArray }).push { cls := .ref C, data := .fields #[.ref s.heap.objs.size, .none, .none, .none, .bool false, .none] } = h' at *
  have X' : K.In h' := fun b o e => kp b o (X b o e)
  have LT : PySem.W.Looks (model prog w) h' (typeOf (.ref (s.heap.objs.size + 1))) (.ref C) := (PySem.W.Looks.ld e2).andThen .now
  refine wpAny_bind (((LT.andThen (PySem.W.looks_mroIn X' hs)) : PySem.W.Looks (model prog w) h' (isInstance (.ref (s.heap.objs.size + 1)) (.ref C)) true).here (s := { s with heap := h' }) ?_)
  rw [if_neg (by decide)]
  refine wpAny_bind (wpAny_holding ?_)
  unfold callSpecial?
  refine wpAny_bind (((LT.andThen (PySem.W.looks_findIn X' hi)) : PySem.W.Looks (model prog w) h' (specialOf (.ref (s.heap.objs.size + 1)) "__init__") (some (.ref fI))).here (s := { s with heap := h' }) ?_)
  dsimp only
  refine wpAny_holding (wpAny_bind ((PySem.W.bind_fn X' (.ref (s.heap.objs.size + 1)) hfn).here (s := { s with heap := h' }) ?_))
  dsimp only
  refine wpAny_bind (thn (h h' _ rfl made) fun r s' ⟨er, q⟩ => wpAny_pure ?_)
  subst er
  dsimp only
  rw [if_neg (by decide)]
  exact wpAny_pure q
end
end L2

namespace L2
open PySem PySem.Spec PyProof.Rows
section
variable {K : PySem.W.Frag} {prog : Program} {w : World} {A : Around} {E : Value → Shared → Prop} {s : Shared} {a C B t0 : Addr} {oe : Obj} {vs : Array Value} {us : List Value} {nm q : Str} {N : Addr} {bs bm : List Value} {hdct : Bool} {sn : List Str} {sub : List Value} {ab : Bool} {col : Option Bool} {dcl : Option Addr} {k0 k1 k2 k3 k5 : Option Value} {newId : String}
/-- ValueError.__init__ of an error of an own class: its first field becomes a new tuple -/
theorem exc_init {bmB : List Value} {nid : String} (F : ExcBaseFacts "ValueError" nid "ValueError.__init__" bmB) (tl : OwnTail s.heap bmB bm) {Q : Value → Shared → Prop}
    (hC : s.heap.get? C = some (excClassObj nm q C N bs bm hdct sn sub ab col dcl k0 k1 k2 k3 k5 newId))
    (he : s.heap.get? a = some oe) (hc : oe.cls = .ref C) (hd : oe.data = .fields vs) (h0 : vs[0]? = some (.ref t0))
    (h : Q .none { s with heap := (s.heap.push { cls := .type "tuple", data := .seq us.toArray }).update a (Obj.mapFields (·.setIfInBounds 0 (.ref s.heap.objs.size))) }) (hz : us.length ≤ sizeLine) :
    wpAny (model prog w) A (call (.builtin "ValueError.__init__") (.ref a :: us)) Q E s := by
  refine wpAny_call (codeAny_call_builtin F.init.plain F.initEntry (wpAny_check_init_subU (h := s.heap) (g := s.gens) (d := s.drawn) (t := s.toks) (os := s.os) F tl hC he hc ?_))
  unfold Builtin.«BaseException.__init__»
  dsimp only
  rw [if_neg (by simp)]
  unfold newTuple Builtin.BaseException.bexcPut
  have hsz : 0 < vs.size := (Array.getElem?_eq_some_iff.mp h0).1
  have he₁ := Heap.get?_push_of_some (h := s.heap) { cls := .type "tuple", data := .seq us.toArray } he
  refine wpAny_bind (wpAny_newObj_type (wpAny_bind (wpAny_bind (wpAny_field he₁ hd h0 (wpAny_bind (wpAny_setField he₁ hd hsz ?_))))) (by show us.toArray.size ≤ sizeLine; rw [List.size_toArray]; exact hz))
  exact wpAny_letGo (wpAny_pure h)
end
end L2

namespace L2
open PySem PySem.Spec PyProof.Rows
/-- an error class of the text with an __init__ of its own, right under B, which is right under ValueError -/
structure ErrC (K : PySem.W.Frag) (C B fI : Addr) : Prop where
  ob : ∃ nm q N bs sn sub ab col dcl k0 k1 k2 k3 k5, K.lookup C = some (excClassObj nm q C N bs (excM C B).tail true sn sub ab col dcl k0 k1 k2 k3 k5 "ValueError.__new__")
  tl : PySem.W.tailIn K bmV (excM C B).tail = true
  sa : PySem.W.findIn K (.ref C) "__setattr__" = some (some (.builtin "object.__setattr__"))
  ini : PySem.W.findIn K (.ref C) "__init__" = some (some (.ref fI))
  fn : PySem.W.typeIn K (.ref fI) = some (.type "function")
  kp : PySem.W.keepIn K (.ref C) = true
theorem ErrC.cd {K : PySem.W.Frag} {C B fI : Addr} (q : ErrC K C B fI) : ∃ cd, PySem.W.clsIn K C = some cd ∧ cd.mro = excM C B ∧ cd.hasDict = true := by
  obtain ⟨nm, qn, N, bs, sn, sub, ab, col, dcl, k0, k1, k2, k3, k5, e⟩ := q.ob
  unfold PySem.W.clsIn
  rw [e]
  exact ⟨_, rfl, rfl, rfl⟩
theorem ErrC.sub {K : PySem.W.Frag} {C B fI : Addr} (q : ErrC K C B fI) : PySem.W.mroIn K C (.ref C) = some true := by
  obtain ⟨cd, e1, e2, _⟩ := q.cd
  unfold PySem.W.mroIn
  rw [e1, Option.bind_some, e2, if_neg (by exact Bool.false_ne_true)]
  simp [excM]
/-- B.__init__, read off the class B: ValueError's -/
structure ClsB (K : PySem.W.Frag) (B : Addr) : Prop where
  ga : PySem.W.specialIn K (.ref B) "__getattribute__" = some (some (.builtin "type.__getattribute__"))
  rd : PySem.W.readsIn K B (.type "type") = true
  fc : PySem.W.findCls K (.ref B) (.type "type") "__init__" = some (.val (.builtin "ValueError.__init__"))
noncomputable abbrev exOb (C : Addr) (dd : Option Addr) (t : Addr) : Obj := { cls := .ref C, dict := dd, data := .fields #[.ref t, .none, .none, .none, .bool false, .none] }
/-- an error that has not been raised yet -/
noncomputable def exO (C a : Addr) (dd : Option Addr) : HO := .ext fun h => ∃ t, h.get? a = some (exOb C dd t)
theorem exO_ok {P : Program} {w : World} {H : Hp} {h : Heap} {C a t : Addr} {dd : Option Addr} (e : h.get? a = some (exOb C dd t)) : ObjOk P w H h a (exO C a dd) :=
  ⟨⟨t, e⟩, ⟨_, e⟩, fun _ _ ⟨t, q⟩ k => ⟨t, k _ q⟩⟩
theorem upd_eq {H : Hp} {a : Addr} {o : HO} (e : H a = some o) : upd H a o = H := by
  funext b
  unfold upd
  split
  · rename_i z; rw [z, e]
  · rfl
section
variable {X : Cx} {CX : CXT} {k : Nat} {B C fI : Addr} {E : XK} {x : Str} {p pos apos : Pos} {e o : Expr} {es : List Expr} {t : TA} {ta tv : TE}
noncomputable def tExI (C : Addr) (t : TA) : TE := fun σ H Q => t σ H fun vs H1 => ∃ a us, vs = .ref a :: us ∧ us.length ≤ 1000 ∧ H1 a = some (exO C a none) ∧ Q .non H1
theorem pe_excI {pl : Sem Bool} (hg : Gl X x) (hm : X.mg x = some (.ref B)) (c : ClsB X.K B) (q : ErrC X.K C B fI) (ha : PA X (e :: es) t)
    (hdb : (x == ("__debug__" : Str)) = false := by decide) (hst : starEach (e :: es) X.env = (false, eval e X.env) :: starEach es X.env := by rfl) (hpl : (backTo pos (starEach es X.env)).any (·.1) = false := by rfl)
    (ht : eval (.Call (.Attribute (.Name x p) "__init__" apos) (e :: es) [] pos) X.env = (do
      let ov ← eval (.Name x p) X.env
      standAt apos.atName
      let (f, first) ← holding [ov] (getMethod ov "__init__" pl)
      callWith pos f first (backTo pos (starEach (e :: es) X.env)) (backToKw pos (keywordEach [] X.env))) := by rfl) : PE X (.Call (.Attribute (.Name x p) "__init__" apos) (e :: es) [] pos) (tExI C t) := by
  intro pins s σ H Q I h
  refine PySem.W.methodCall_KW (pl := pl) (ld_glob I hg hm ?_ hdb) ht
  refine PySem.W.method_cls I.kIn c.ga (PySem.W.cls_value I.kIn c.rd c.fc rfl ?_)
  have I' := I.tok (s.toks + 1)
  have hA := ha pos pins _ σ H _ I' h
  rw [hst] at hA ⊢
  refine Calls.callWith_builtin (by show (false || (backTo pos (starEach es X.env)).any (·.1)) = false; rw [hpl] <;> rfl) (Calls.evalArgs_plain ?_)
  refine thn hA fun us s1 ⟨vs, H1, I1, r, qq⟩ => ?_
  obtain ⟨a, ws, rfl, hl, hx, qq⟩ := qq
  cases r with
  | cons ru rs =>
    rename_i u us' _
    obtain rfl : u = Value.ref a := ru
    obtain ⟨nm, qn, N, bs, sn, sub, ab, col, dcl, k0, k1, k2, k3, k5, eC⟩ := q.ob
    obtain ⟨⟨t0, he⟩, _⟩ := I1.hok a _ hx
    refine exc_init PySem.F.excBase_ValueError (PySem.W.tail_of_in I1.kIn q.tl) (I1.kIn _ _ eC) he rfl rfl rfl ?_ (by rw [← rs.length]; exact Nat.le_trans hl (by rw [sizeLine_eq]; omega))
    have e1 := Heap.get?_push_of_some (h := s1.heap) { cls := .type "tuple", data := .seq us'.toArray } he
    have e2 := Heap.get?_update_self (Obj.mapFields (·.setIfInBounds 0 (.ref s1.heap.objs.size))) e1 rfl
    have I2 := I1.write (x := a) (e := a) (o := exO C a none) (t' := s1.toks) (h' := (s1.heap.push { cls := .type "tuple", data := .seq us'.toArray }).update a (Obj.mapFields (·.setIfInBounds 0 (.ref s1.heap.objs.size))))
      (by rw [hx]; exact True.intro) (.inl rfl) (fun b u hb z => by rw [Heap.get?_update_other _ _ (Ne.symm hb)]; exact Heap.get?_push_of_some _ z) ⟨_, e2⟩ (exO_ok (t := s1.heap.objs.size) e2)
    rw [upd_eq hx] at I2
    exact ⟨.non, H1, I2, rfl, qq⟩
end
end L2

namespace L2
open PySem PySem.Spec PyProof.Rows
section
variable {X : Cx} {CX : CXT} {k : Nat} {B C fI : Addr} {E : XK} {x f : Str} {p pos apos pos' : Pos} {e o value : Expr} {es : List Expr} {t : TA} {ta tv : TE}
noncomputable def sExS (C : Addr) (ta tv : TE) (f : Str) : TS := fun D σ H => tv σ H fun y H1 => ta σ H1 fun x H2 => ∃ a, x = .ref a ∧ H2 a = some (exO C a none) ∧ ∀ d, H2 d = none → d ≠ a → D.nx σ (upd (upd H2 a (exO C a (some d))) d (.xd [(f, y)]))
theorem ps_excS (q : ErrC X.K C B fI) (hn : PySem.W.findIn X.K (.ref C) f = some none) (hex : X.ex = []) (ha : PE X o ta) (hv : PE X value tv) (hs : swapsWith value (some (.Attribute o f pos')) pos.line X.env = pure false) :
    PS X (.Assign [.Attribute o f pos'] value pos) (sExS C ta tv f) := by
  intro pins s σ H D I h
  refine plainObj_wpAny_Assign_Attribute (thn (hv pins s σ H _ I h) fun u s1 ⟨y, H1, I1, ry, q1⟩ => thn (ha pins s1 σ H1 _ I1 q1) fun ov s2 ⟨x, H2, I2, rx, a, ex, ea, q2⟩ => ?_) hs
  subst ex
  obtain rfl : ov = Value.ref a := rx
  obtain ⟨nm, qn, N, bs, sn, sub, ab, col, dcl, k0, k1, k2, k3, k5, eC⟩ := q.ob
  obtain ⟨cd, c1, c2, c3⟩ := q.cd
  obtain ⟨⟨t0, he⟩, _⟩ := I2.hok a _ ea
  refine exc_set I2.kIn he rfl rfl rfl q.sa (I2.kIn _ _ eC) c1 c2 c3 hn fun h' d nd e1 ns kp => ?_
  have hd : H2 d = none := I2.untracked nd
  have da : d ≠ a := fun z => by rw [z, he] at nd; cases nd
  have I3 := I2.write (x := a) (e := a) (o := exO C a (some d)) (t' := s2.toks + 2) (h' := h') (by rw [ea]; exact True.intro) (.inl rfl) (fun b u hb z => kp b u hb z) ⟨_, e1⟩ (exO_ok (t := t0) e1)
  have nw := I2.newAt hex nd
  have hl : d ≠ X.env.locals := fun z => by
    obtain ⟨m, ⟨ob, _, _, eo, _⟩, _⟩ := I2.loc
    rw [← z, nd] at eo; cases eo
  have I4 := I3.trackN (T := d) (o := .xd [(f, y)]) (by rw [upd_ne da]; exact hd) hl nw.1 nw.2.2.1 nw.2.2.2 ⟨_, ns, fun g => ?_⟩
  · exact ⟨σ, _, I4, q2 d hd da⟩
  · show RelO (List.lookup g [(f, y)]) (if g = f then some u else none)
    by_cases z : g = f
    · rw [if_pos z, z]
      simp only [List.lookup_cons, beq_self_eq_true]
      exact ry
    · rw [if_neg z]
      simp only [List.lookup_cons, beq_eq_false_iff_ne.mpr z, List.lookup_nil]
      exact True.intro
end
end L2

namespace L2
open PySem PySem.Spec PyProof.Rows
section
variable {M : Model} {A : Around} {E : Value → Shared → Prop} {env : Env} {nm q : Str} {C N : Addr} {bs bm : List Value} {hdct : Bool} {sn : List Str} {sub : List Value} {ab : Bool} {col : Option Bool} {dd : Option Addr} {k0 k1 k2 k3 k5 : Option Value} {newId : String}
theorem raise_made {s : Shared} {x : Sem Value} {Q : Flow → Shared → Prop} (hbase : bm.contains (.type "BaseException") = true) (hh : A.handled = none)
    (h : wpAny M A x (fun v s₁ => ∃ e t d, v = .ref e ∧ s₁.heap.get? C = some (excClassObj nm q C N bs bm hdct sn sub ab col dd k0 k1 k2 k3 k5 newId) ∧
      s₁.heap.get? e = some (exOb C d t) ∧ E (.ref e) s₁) E s) :
    wpAny M A (raiseStmt env (some x) none) Q E s := by
  have hcB : (Value.ref C :: bm).contains (.type "BaseException") = true := by rw [List.contains_cons, hbase, Bool.or_true]
  unfold raiseStmt
  refine wpAny_bind (wpAny_mono h (fun v s₁ h₁ => ?_) fun _ _ x => x)
  obtain ⟨e, t, d', rfl, hC, he, hE⟩ := h₁
  obtain ⟨hp, g, d, tk, os⟩ := s₁
  repeat (first | with_reducible refine wpAny_loadPart_at he ?_ | with_reducible refine wpAny_loadPart_at hC ?_ | (with_reducible refine wpAny_isSubtype_exc hC ?_; rw [hcB]) | wp_step)
  exact wpAny_raiseNew_none hh hE
end
/-- H without a -/
noncomputable def del (H : Hp) (a : Addr) : Hp := fun b => if b = a then none else H b
theorem del_same {H : Hp} {a : Addr} : del H a a = none := by unfold del; rw [if_pos rfl]
theorem del_ne {H : Hp} {a b : Addr} (h : b ≠ a) : del H a b = H b := by unfold del; rw [if_neg h]
theorem HOk.del {P : Program} {w : World} {H : Hp} {h : Heap} {a : Addr} {φ : Heap → Prop} (ok : HOk P w H h) (e : H a = some (.ext φ)) : HOk P w (del H a) h := fun b o q => by
  have nb : b ≠ a := fun z => by rw [z, del_same] at q; cases q
  rw [del_ne nb] at q
  refine (ok b o q).stay (fun _ _ _ z => z) (fun c z => ?_) (fun c xs z => ?_) fun c o u z => ?_
  · rw [del_ne (fun y => by rw [y, e] at z; cases z)]; exact z
  · rw [del_ne (fun y => by rw [y, e] at z; cases z)]; exact z
  · rw [del_ne (fun y => by rw [y, e] at z; cases z)]; exact z
theorem Un.del {fs ex : List Addr} {H H' : Hp} {h h' : Heap} {a : Addr} (u : Un fs ex H H' h h') (n : H a = none) : Un fs ex H (L2.del H' a) h h' where
  keep := u.keep
  slot := u.slot
  free := fun b o e z x => by
    by_cases y : b = a
    · rw [y, del_same]
    · rw [del_ne y]; exact u.free b o e z x
  there := u.there
  tups := fun b xs e => by rw [del_ne (fun y => by rw [y, n] at e; cases e)]; exact u.tups b xs e
  frzs := fun b o v e => by rw [del_ne (fun y => by rw [y, n] at e; cases e)]; exact u.frzs b o v e
  tbls := fun b ps e => by
    obtain ⟨m, z⟩ := u.tbls b ps e
    exact ⟨m, by rw [del_ne (fun y => by rw [y, n] at e; cases e)]; exact z⟩
/-- what a new error with a dict does in this context -/
noncomputable def NewX (X : Cx) (E : XK) : Prop := ∀ (pins : List (Addr × Obj)) (σ : St) (H H2 : Hp) (s s' : Shared) (a C d t : Addr), Inv X pins σ H s → s.heap.get? a = none → s'.os = s.os → AllBare s'.gens → Un (frs X.stack) [] H H2 s.heap s'.heap → HOk X.prog X.w H2 s'.heap → H2 a = none →
  s'.heap.get? a = some (exOb C (some d) t) → E (.ref C) (some d) H2 → X.xe (.ref a) s'
theorem newX {P : Program} {w : World} {K : PySem.W.Frag} {mg : Str → Option Value} {base : Heap} {N : List Str} {qual : Str} {scope : Scope} {f : Addr} {cd : Value} {A : Around} {outer : List Env} {s : Shared} {H : Hp} {E : XK} :
    NewX (cxOf (CXe P w) P w K mg base N qual scope f cd A outer s H E) E := fun pins σ H1 H2 s1 s' a C d t I na ho hb u hok h2 he hE =>
  leave_new I rfl rfl rfl ho hb u hok ⟨h2, na⟩ he rfl rfl rfl rfl hE (M := model P w) (E' := fun e' s2 => CXe P w outer H s E e' s2) fun s2 q => q
section
variable {X : Cx} {k : Nat} {B C fI : Addr} {fd : FuncData} {ps : List Str} {sp : Sp} {E : XK} {x : Str} {np cpos pos : Pos} {e : Expr} {es : List Expr} {t : TA}
noncomputable def tRaiseX (C : Addr) (sp : Sp) (E : XK) (t : TA) : TS := fun _ σ H => t σ H fun vs H1 => ∀ a, H1 a = none → sp (.ref a :: vs) (upd H1 a (exO C a none)) (fun v H2 => v = .non ∧ ∃ d, H2 a = some (exO C a (some d)) ∧ E (.ref C) (some d) (del H2 a)) E0
theorem run_raise {pins : List (Addr × Obj)} {σ : St} {H : Hp} {s : Shared} {us : List Value} {vs : List V} (q : ErrC X.K C B fI) (F : FnOk X.prog X.w X.K X.mg X.base CX0 k fI fd ps sp) (hr : Room (k + 1) X.A) (hb : Binds X.K fd ps [])
    (I : Inv X pins σ H s) (r : Vals vs us) (hz : us.length ≤ sizeLine)
    (h : ∀ a, H a = none → sp (.ref a :: vs) (upd H a (exO C a none)) (fun v H2 => v = .non ∧ ∃ d, H2 a = some (exO C a (some d)) ∧ E (.ref C) (some d) (del H2 a)) E0) :
    wpAny (model X.prog X.w) X.A (call (.ref C) us) (fun u s' => ∃ a H2 d t, u = .ref a ∧ s.heap.get? a = none ∧ s'.os = s.os ∧ AllBare s'.gens ∧ Un (frs X.stack) [] H H2 s.heap s'.heap ∧ HOk X.prog X.w H2 s'.heap ∧ H2 a = none ∧
      s'.heap.get? a = some (exOb C (some d) t) ∧ E (.ref C) (some d) H2) X.xe s := by
  obtain ⟨nm, qn, N, bs, sn, sub, ab, col, dcl, k0, k1, k2, k3, k5, eC⟩ := q.ob
  refine wpAny_call (exc_call (I.kIn _ _ eC) (exc_type_call I.kIn (I.kIn _ _ eC) (PySem.W.tail_of_in I.kIn q.tl) q.ini q.fn q.sub hz fun h' a ea made => ?_))
  obtain ⟨t0, e0, _⟩ := made.there
  have na : H a = none := I.untracked made.new
  have I2 : Inv X pins σ (upd H a (exO C a none)) { s with heap := h' } := I.laid (t' := s.toks) made.keeps (by rw [ea]; exact Nat.le_succ _) (exO_ok (t := t0) e0)
  have hq := h a na
  have r2 : Vals (V.ref a :: vs) (Value.ref a :: us) := .cons rfl r
  have hl : (Value.ref a :: us).length = ps.length := by rw [← r2.length]; exact F.len _ _ _ _ hq
  have r3 : Vals (V.ref a :: vs) (Value.ref a :: us ++ []) := by rw [List.append_nil]; exact r2
  refine wpAny_call (codeAny_mono (F.run _ X.stack _ _ ⟨Value.ref a :: us, []⟩ (Value.ref a :: us ++ []) _ _ E0 (hr.make C us []) (I2.env0.make C us []) (hb _ (Value.ref a :: us) I2.kIn (by rw [List.append_nil]; exact hl)) r3 hq) fun r s' hq' => ?_)
  cases r with
  | error e => exact hq'.elim
  | ok fl =>
    cases fl with
    | ret u =>
      obtain ⟨v, H2, ho, hbare, un, hok, rv, ev, d, hx, hE⟩ := hq'
      subst ev
      obtain ⟨⟨t1, e1⟩, _⟩ := hok a _ hx
      have u1 : Un (frs X.stack) [] H (upd H a (exO C a none)) s.heap h' := Un.laid made.keeps (by rw [ea]; exact Nat.le_succ _) na
      exact ⟨rv, a, del H2 a, d, t1, rfl, made.new, ho, hbare, (u1.trans un).del na, hok.del hx, del_same, e1, hE⟩
    | next => exact False.elim hq'
    | brk => exact False.elim hq'
    | cont => exact False.elim hq'
theorem ps_raiseX (hn : NewX X E) (hc : X.calm = true) (q : ErrC X.K C B fI) (F : FnOk X.prog X.w X.K X.mg X.base CX0 k fI fd ps sp) (hr : Room (k + 1) X.A) (hb : Binds X.K fd ps []) (hg : Gl X x) (hm : X.mg x = some (.ref C)) (ha : PA X (e :: es) t) (hz : (e :: es).length ≤ 1000 := by decide)
    (hdb : (x == ("__debug__" : Str)) = false := by decide) (he : starEach (e :: es) X.env = (false, eval e X.env) :: starEach es X.env := by rfl) (hpl : (backTo cpos (starEach es X.env)).any (·.1) = false := by rfl)
    (hl : ∀ σ H Q, t σ H Q → t σ H fun vs H1 => vs.length = (e :: es).length ∧ Q vs H1) : PS X (.Raise (some (.Call (.Name x np) (e :: es) [] cpos)) none pos) (tRaiseX C sp E t) := by
  intro pins s σ H D I h
  obtain ⟨nm, qn, N, bs, sn, sub, ab, col, dcl, k0, k1, k2, k3, k5, eC⟩ := q.ob
  rw [arm_exec_Raise]
  refine wpAny_bind (wpAny_standAt (raise_made (C := C) (nm := nm) (q := qn) (N := N) (bs := bs) (bm := (excM C B).tail) (hdct := true) (sn := sn) (sub := sub) (ab := ab) (col := col) (dd := dcl) (k0 := k0) (k1 := k1) (k2 := k2) (k3 := k3) (k5 := k5) (newId := "ValueError.__new__") (by simp [excM]) (I.ok.hd hc) ?_))
  refine wpAny_bind (wpAny_mono (Q := fun v s' => ∃ e t d, v = .ref e ∧ s'.heap.get? C = some (excClassObj nm qn C N bs (excM C B).tail true sn sub ab col dcl k0 k1 k2 k3 k5 "ValueError.__new__") ∧
      s'.heap.get? e = some (exOb C d t) ∧ X.xe (.ref e) s') ?_ (fun v s₃ h₃ => wpAny_bind (wpAny_standAt (wpAny_pure h₃))) fun _ _ x => x)
  refine wpAny_Call_Name_kw (ld_glob I hg hm ?_ hdb)
  refine PySem.W.callWith_K (h₀ := X.base) I.ok.mod.kin q.kp (thn (ha cpos pins s σ H _ I (hl σ H _ h)) fun us s1 ⟨vs, H1, I1, r, l1, q1⟩ => ⟨I1.kIn, ?_⟩) he hpl
  refine thn (run_raise q F hr hb I1 r (by show us.length ≤ sizeLine; rw [← r.length, l1]; exact Nat.le_of_lt (small1000 hz)) q1) fun u s' ⟨a, H2, d, t1, e1, e2, e3, e4, e5, e6, e7, e8, e9⟩ => ?_
  refine ⟨a, t1, some d, e1, ?_, e8, hn pins σ H1 H2 s1 s' a C d t1 I1 e2 e3 e4 e5 e6 e7 e8 e9⟩
  exact (I1.call' (ch := []) e3 e5 e6 e4 (fun b z => absurd z (by simp))).kIn _ _ eC
end
end L2

namespace L2
open PySem PySem.Spec PyProof.Rows
section
variable {X : Cx} {a : Expr} {ta : TE} {pos : Pos}
/-- one sign in a text -/
theorem op_in1 : OpR X (compareOp .In) (fun x y H Q => ∃ c j, x = .str ⟨#[c]⟩ ∧ y = .str j ∧ Q (.bl (decide (c ∈ j.cps.toList))) H) := by
  intro pins s σ H x y u v Q I rx ry ⟨c, j, e1, e2, q⟩
  refine op_in_str pins s σ H x y u v Q I rx ry ⟨_, _, e1, e2, ?_⟩
  rw [StrLaws.found_one]
  exact q
/-- int(text) -/
theorem call_int_text : CallR X (.type "int") (fun xs H Q => ∃ z n, xs = [.str z] ∧ intText? z = some n ∧ z.length ≤ 640 ∧ Q (.int n) H) := by
  rintro pins s σ H xs us Q I r ⟨z, n, rfl, hn, hl, q⟩
  cases r with
  | cons r1 r2 =>
    cases r2
    obtain ⟨t, rfl⟩ := r1
    exact PySem.W.KIN.call_text hn hl ⟨.int n, H, I.tok _, ⟨_, rfl⟩, q⟩
/-- a text that stands at the top -/
theorem pe_globS {x : Str} {z : Str} (hg : Gl X x) (hm : ∃ tk, X.mg x = some (.str z tk)) (hd : (x == ("__debug__" : Str)) = false := by decide) : PE X (.Name x pos) (tC (.str z)) :=
  fun pins s σ H Q I h => let ⟨_, hm⟩ := hm; pe_glob hg hm (v := .str z) ⟨_, rfl⟩ hd pins s σ H Q I h
/-- f"u{n}w" -/
noncomputable def tFI (u w : Str) (ta : TE) : TE := fun σ H Q => u.length ≤ sizeLine ∧ ta σ H fun x H1 => ∃ n : Int, x = .int n ∧ n.natAbs.log2 < 1920 ∧ (u ++ (toString n : Str)).length ≤ sizeLine ∧ (u ++ (toString n : Str) ++ w).length ≤ sizeLine ∧ Q (.str (u ++ (toString n : Str) ++ w)) H1
theorem pe_fI {u w : Str} {j j2 : Nat} {p1 p2 p3 : Pos} (ha : PE X a ta) : PE X (.JoinedStr [.Constant (.str u) j p1, .FormattedValue a (-1) none p2, .Constant (.str w) j2 p3] pos) (tFI u w ta) := by
  intro pins s σ H Q I h
  obtain ⟨l0, h⟩ := h
  refine JoinedStr_many ?_
  refine joinParts_cons (Calls.Constant_str ?_)
  refine ⟨by rw [empty_app]; exact l0, ?_⟩
  rw [empty_app]
  have I0 : Inv X pins σ H { s with toks := s.toks + 1 } := I.kept fun _ _ e => e
  refine joinParts_cons (FormattedValue_plain (thn (ha pins _ σ H _ I0 h) fun v s1 ⟨x, H1, I1, r1, n, ex, l1, l2, l3, q1⟩ => ?_))
  subst ex
  obtain ⟨t, rfl⟩ := r1
  refine formatField_int_small l1 ?_
  refine ⟨l2, ?_⟩
  show wpAny _ _ (joinParts (u ++ (toString n : Str)) [eval (.Constant (.str w) j2 p3) X.env]) _ _ _
  refine joinParts_cons (Calls.Constant_str ?_)
  refine ⟨l3, ?_⟩
  refine joinParts_nil ?_ l3
  exact ⟨.str _, H1, I1.kept fun _ _ e => e, ⟨_, rfl⟩, q1⟩
end
end L2

namespace L2
open PySem PySem.Spec PyProof.Rows
section
variable {X : Cx} {CX : CXT} {j k : Nat} {C : Addr} {ps : List Str} {sp : Sp} {E : XK} {m : Str} {pos apos : Pos} {e o : Expr} {es : List Expr} {ta : TE} {t : TA}
theorem pe_methO {pl : Sem Bool} (om : OkM X.prog X.w X.K X.mg X.base CX j C m ps sp) (hr : Room k X.A) (hx : Passes CX X E) (he : PE X o ta) (ha : PA X (e :: es) t) (hj : j ≤ k := by decide)
    (hst : starEach (e :: es) X.env = (false, eval e X.env) :: starEach es X.env := by rfl) (hpl : (backTo pos (starEach es X.env)).any (·.1) = false := by rfl)
    (ht : eval (.Call (.Attribute o m apos) (e :: es) [] pos) X.env = (do
      let ov ← eval o X.env
      standAt apos.atName
      let (f, first) ← holding [ov] (getMethod ov m pl)
      callWith pos f first (backTo pos (starEach (e :: es) X.env)) (backToKw pos (keywordEach [] X.env))) := by rfl) :
    PE X (.Call (.Attribute o m apos) (e :: es) [] pos) (tMeth C m sp [] E ta t) := by
  obtain ⟨f, fd, F, b, mm, c⟩ := om.ex
  exact pe_meth he c mm (F.mono hj) hr b .nil hx ha hst hpl ht
theorem pe_methO0 {pl : Sem Bool} (om : OkM X.prog X.w X.K X.mg X.base CX j C m ps sp) (hr : Room k X.A) (hx : Passes CX X E) (he : PE X o ta) (hj : j ≤ k := by decide)
    (ht : eval (.Call (.Attribute o m apos) [] [] pos) X.env = (do
      let ov ← eval o X.env
      standAt apos.atName
      let (f, first) ← holding [ov] (getMethod ov m pl)
      callWith pos f first (backTo pos (starEach [] X.env)) (backToKw pos (keywordEach [] X.env))) := by rfl) :
    PE X (.Call (.Attribute o m apos) [] [] pos) (tMeth C m sp [] E ta tNil) := by
  obtain ⟨f, fd, F, b, mm, c⟩ := om.ex
  exact pe_meth0 he c mm (F.mono hj) hr b .nil hx ht
theorem ip_addS : PIp X .Add (fun x y H Q => ∃ i j, x = .str i ∧ y = .str j ∧ i.length + j.length ≤ sizeLine ∧ Q (.str (i ++ j)) H) := iop_add_str
end
theorem del_made {H : Hp} {a d : Addr} {o u : HO} (ha : H a = none) (hd : d ≠ a) (x : HO) : del (upd (upd (upd H a o) a u) d x) a = upd H d x := by
  funext b
  by_cases z : b = a
  · subst z
    rw [del_same, upd_ne (Ne.symm hd)]
    exact ha.symm
  · rw [del_ne z]
    by_cases y : b = d
    · subst y; rw [upd_same, upd_same]
    · rw [upd_ne y, upd_ne y, upd_ne z, upd_ne z]
end L2

namespace L2
open PySem PySem.Spec PyProof.Rows
section
variable {X : Cx} {pins : List (Addr × Obj)} {σ : St} {H : Hp} {s : Shared}
end
section
variable {X : Cx} {sp : Sp} {ps : List Str} {e : Expr} {es : List Expr} {t : TA} {f x n y y0 : Str} {C : Addr} {i j l k k' : Nat} {fp px py py0 pn hp cp p1 p2 pos : Pos}
end
end L2

namespace L2
open PySem PySem.Spec PyProof.Rows
section
variable {prog : Program} {w : World} {A : Around} {E : Value → Shared → Prop} {s : Shared} {K : PySem.W.Frag} {x C : Addr} {o : Obj} {od : Option Obj} {name : Str} {expr : Bool}
end
section
variable {X : Cx} {e : Expr} {ta : TE} {f : Str} {pos : Pos}
end
end L2

namespace L3
open PySem PySem.Spec PyProof.Rows L2
/-- a def of a text that tells a new list of numbers, or refuses with a place -/
noncomputable def spX (cB : Addr) (pre : Str → Prop) (F : Str → Int ⊕ List Int) : Sp := fun vs H Q E => ∃ t : Str, vs = [.str t] ∧ pre t ∧ (∀ ns, F t = .inr ns → ∀ H' a, Same H H' → H a = none → H' a = some (.lst (ns.map V.int)) → Q (.ref a) H') ∧
  ∀ z, F t = .inl z → ∀ H2 d, Same H H2 → H d = none → H2 d = some (.xd [("place", .int z)]) → E (.ref cB) (some d) H2
section
variable {K : PySem.W.Frag} {G : Gx} {B : Bs} {σ : L2.St} {H : Hp} {ρ : En} {O : Addr → Bool} {i : Nat}
end
section
variable {X : Cx} {G : Gx} {Er : ER} {e : Expr} {C : En → Prop} {gt : En → Str} {pre : Str → Prop} {F : Str → Int ⊕ List Int} {f x n y y0 : Str} {Cc cB : Addr} {i j k k' l : Nat} {ps : List Str} {fp px py py0 pn hp cp p1 p2 pos : Pos}
end
end L3

namespace L3
open PySem PySem.Spec PyProof.Rows L2
section
variable {X : Cx} {G : Gx} {a c e : Expr} {p pos : Pos} {Ca Cc C : En → Prop} {ga gc g : En → PV} {cB : Addr}
end
end L3

namespace L2
open PySem PySem.Spec PyProof.Rows
section
variable {X : Cx}
/-- z[lo:hi] of a text -/
theorem sl_str : SlR X (fun x lo hi H Q => ∃ z, x = .str z ∧ z.length ≤ sizeLine ∧ Q (.str (StrLaws.sliceText z lo hi)) H) := by
  intro pins s σ H x v vl vu lo hi sl Q I rx hs pl pu h
  obtain ⟨z, rfl, hz, q⟩ := h
  obtain ⟨t, rfl⟩ := rx
  have part : ∀ {v : Value} {o : Option Int}, IsPart v o → ∃ l : Option (Int × Tok), v = partValue l ∧ l.map (·.1) = o := fun h => by
    cases h with
    | none => exact ⟨none, rfl, rfl⟩
    | int i t => exact ⟨some (i, t), rfl, rfl⟩
  obtain ⟨l, rfl, rfl⟩ := part pl
  obtain ⟨u, rfl, rfl⟩ := part pu
  refine ⟨"str", _, PySem.F.slot_str_getitem.lookup, typeIs_str s z t, ?_⟩
  refine wpAny_getItem_str_slice (l := l) (u := u) (st := none) hs rfl ?_
  unfold sliceMade
  unfold StrLaws.sliceText at q
  split
  · rename_i c
    rw [if_pos (by exact c)] at q
    exact ⟨.str z, H, I, ⟨t, rfl⟩, q⟩
  · rename_i c
    rw [if_neg (by exact c)] at q
    simp only [Made.post]
    refine ⟨?_, .str _, H, I.tok _, ⟨_, rfl⟩, q⟩
    show ((slicePicked z l u none).filterMap (z.cps[·]?)).toArray.size ≤ sizeLine
    rw [List.size_toArray]
    refine Nat.le_trans (List.length_filterMap_le _ _) (Nat.le_trans ?_ hz)
    exact PySem.sliceIndices_le _ _ _
end
end L2

namespace L3
open PySem PySem.Spec PyProof.Rows L2
section
variable {X : Cx} {G : Gx} {a b e : Expr} {p p2 pos : Pos} {Ca Cb C : En → Prop} {gs gt : En → Str} {gi gj : En → Int}
theorem xs_from (he : PE X e (tXS X.K G C gs)) (hb : PE X b (tXI X.K G Cb gi)) : PE X (.Subscript e (.Slice (some b) none none p2) pos) (tXS X.K G (fun ρ => C ρ ∧ Cb ρ ∧ (gs ρ).length ≤ sizeLine) fun ρ => StrLaws.sliceText (gs ρ) (some (gi ρ)) none) :=
  toX (pe_slice sl_str he (po_some hb) po_none) fun B σ H ρ O Q R c q => ⟨B, ρ, O, R, c.1, fun v H1 s1 a1 => ⟨B, ρ, O, R.grow s1, c.2.1, fun u H2 s2 a2 => ⟨gi ρ, a2, gs ρ, a1, c.2.2, q _ H2 (s1.trans s2) rfl⟩⟩⟩
noncomputable def hdS (z : Str) : Nat := z.cps.toList.getD 0 0
theorem xe_in1 (ha : PE X a (tXS X.K G Ca gs)) (hb : PE X b (tXS X.K G Cb gt)) (hm : behindInMarks .In b = false := by with_unfolding_all rfl) : PE X (.Compare a [.In] [b] pos) (tXB X.K G (fun ρ => Ca ρ ∧ Cb ρ ∧ gs ρ = ⟨#[hdS (gs ρ)]⟩) fun ρ => hdS (gs ρ) ∈ (gt ρ).cps.toList) :=
  toX (pe_cmpR op_in1 ha hb hm) fun B σ H ρ O Q R c q => ⟨B, ρ, O, R, c.1, fun v H1 s1 a1 => ⟨B, ρ, O, R.grow s1, c.2.1, fun u H2 s2 a2 => ⟨hdS (gs ρ), gt ρ, (show v = .str (gs ρ) from a1).trans (congrArg V.str c.2.2), a2, q _ H2 (s1.trans s2) rfl⟩⟩⟩
end
end L3

namespace L2
open PySem PySem.Spec PyProof.Rows
end L2

namespace L2
open PySem PySem.Spec PyProof.Rows
end L2
namespace L3
open PySem PySem.Spec PyProof.Rows L2
section
variable {X : Cx} {G : Gx} {Er : ER} {f : FS} {C : En → Prop} {pos : Pos}
end
section
variable {X : Cx} {G : Gx} {e : Expr} {p pos : Pos} {C : En → Prop} {gs : En → Str}
/-- int(text) -/
theorem xn_intS (hm : X.mg "int" = none) (bt : bootBuiltins "int" = some (.type "int")) (he : PE X e (tXS X.K G C gs)) (hg : Gl X "int" := by rfl) (hs : starEach [e] X.env = [(false, eval e X.env)] := by rfl) : PE X (.Call (.Name "int" p) [e] [] pos) (tXI X.K G (fun ρ => C ρ ∧ (intText? (gs ρ)).isSome = true ∧ (gs ρ).length ≤ 640) fun ρ => (intText? (gs ρ)).getD 0) :=
  toX (pe_callTy call_int_text hg hm bt (pa_cons he pa_nil hs) (he := hs)) fun B σ H ρ O Q R c q => ⟨B, ρ, O, R, c.1, fun v H1 s1 a1 => by
    have a1 : v = .str (gs ρ) := a1
    subst a1
    obtain ⟨n, en⟩ := Option.isSome_iff_exists.mp c.2.1
    refine ⟨gs ρ, n, rfl, en, c.2.2, q _ H1 s1 ?_⟩
    show V.int n = V.int ((intText? (gs ρ)).getD 0)
    rw [en]; rfl⟩
end
end L3

namespace L2
open PySem PySem.Spec PyProof.Rows
section
variable {X : Cx} {es : List Expr} {ms : List Str} {m : Str} {j : Nat} {p : Pos}
end
end L2
namespace L3
open PySem PySem.Spec PyProof.Rows L2
section
variable {X : Cx} {G : Gx} {b : Expr} {es : List Expr} {ms : List Str} {k : Nat} {p pos : Pos} {Cb : En → Prop} {gi : En → Int}
end
end L3

namespace L3
open PySem PySem.Spec PyProof.Rows L2
section
variable {X : Cx} {G : Gx} {a b c : Expr} {pos : Pos} {Ca Cb Cc : En → Prop} {ga gb gc : En → Int}
end
end L3

namespace L3
open PySem PySem.Spec PyProof.Rows L2
end L3

namespace L3
open PySem PySem.Spec PyProof.Rows L2
section
variable {X : Cx} {G : Gx} {a b : Expr} {pos : Pos} {Ca Cb : En → Prop} {ga gb : En → Str}
end
end L3

namespace L2
open PySem PySem.Spec PyProof.Rows
/-! ### tokens are only ever counted up -/
end L2
namespace L3
open PySem PySem.Spec PyProof.Rows L2
section
variable {X : Cx} {G : Gx} {a b e : Expr} {p pos : Pos} {Ca Cb C : En → Prop} {gs gt : En → Str}
/-- len(text) -/
theorem xn_lenS (hm : X.mg "len" = none) (ha : PE X a (tXS X.K G C gs)) (hg : Gl X "len" := by rfl) (he : starEach [a] X.env = [(false, eval a X.env)] := by rfl) :
    PE X (.Call (.Name "len" p) [a] [] pos) (tXI X.K G (fun ρ => C ρ ∧ (gs ρ).length ≤ sizeLine) fun ρ => ((gs ρ).length : Int)) :=
  toX (pe_callB call_len_str hg hm bt_len (pa_cons ha pa_nil he) (by decide) (by decide) he rfl) fun B σ H ρ O Q R c q => ⟨B, ρ, O, R, c.1, fun v H1 s1 a1 => ⟨gs ρ, by rw [show v = .str (gs ρ) from a1], c.2, q _ H1 s1 rfl⟩⟩
end
end L3

namespace L2
open PySem PySem.Spec PyProof.Rows
/-! ### where a token is known to have been given out -/
noncomputable def PEt (X : Cx) (e : Expr) (t : TE) : Prop :=
  ∀ (pins : List (Addr × Obj)) (s : Shared) (σ : St) (H : Hp) (Q : VK), 1 ≤ s.toks → Inv X pins σ H s → t σ H Q → wpAny (model X.prog X.w) X.A (eval e X.env) (EP X pins σ Q) X.xe s
section
variable {X : Cx} {tg : Expr}
end
section
variable {X : Cx} {o e : Expr} {es : List Expr} {to : TE} {t : TA} {name : Str} {apos cpos : Pos} {T id : String} {r : V → List V → Hp → VK → Prop}
end
section
variable {X : Cx} {o e : Expr} {to te ta : TE} {pos : Pos}
/-- what split tells of a text -/
theorem vals_strs : ∀ (l : List (Str × Tok)), Vals ((l.map (·.1)).map V.str) (strValues l)
  | [] => .nil
  | (x, t) :: r => .cons ⟨t, rfl⟩ (vals_strs r)
theorem mt_split : MtR X "str.split" (fun x xs H Q => ∃ z y, x = .str z ∧ xs = [.str y] ∧ (y.length == 0) = false ∧ z.length < sizeLine ∧ (PySem.Txt.split z y).length ≤ sizeLine ∧ ∀ a, H a = none → Q (.ref a) (upd H a (.lst ((PySem.Txt.split z y).map V.str)))) := by
  intro pins s σ H x xs v us Q I rx rs h
  obtain ⟨z, y, rfl, rfl, hy, hz, hs, q⟩ := h
  obtain ⟨t, rfl⟩ := rx
  obtain ⟨u', rfl, w, rfl⟩ := vals1 rs
  have fin : ∀ (l : List (Str × Tok)) (k : Nat), l.map (·.1) = PySem.Txt.split z y → EP X pins σ Q (.ref s.heap.objs.size) { s with heap := s.heap.push { cls := .type "list", data := .seq (strValues l).toArray }, toks := k } := fun l k e => by
    have iv := vals_strs l
    rw [e] at iv
    exact ⟨.ref s.heap.objs.size, _, I.lnew (t' := k) iv (by rw [List.length_map]; exact hs), rfl, q _ I.fresh⟩
  cases h1 : (decide (z.length < y.length) || decide (Builtin.Str.strKind z < Builtin.Str.strKind y))
  · cases hf : (Builtin.Str.occurrences z y 0 z.length (z.length + 1)).isEmpty
    · have e : PySem.Txt.split z y = Builtin.Str.partsBetween z (Builtin.Str.occurrences z y 0 z.length (z.length + 1)) y.length := (if_neg (ne_true_of_eq_false h1)).trans (if_neg (ne_true_of_eq_false hf))
      refine call_meets F.slot_str_split (typeIs_str _ _ _) F.entry_str_split (F.args_str_split_2 _ _) (meets_str_split_sep z y t w h1 hy hf (Nat.le_of_lt hz) (by rw [← e]; exact hs)) ?_
      rw [strsFrom_eq]
      exact fin _ _ ((numbered_texts _ _).trans e.symm)
    · exact call_meets F.slot_str_split (typeIs_str _ _ _) F.entry_str_split (F.args_str_split_2 _ _) (meets_str_split_not_found z y t w h1 hy hf) (fin [(z, t)] s.toks ((if_neg (ne_true_of_eq_false h1)).trans (if_pos hf)).symm)
  · exact call_meets F.slot_str_split (typeIs_str _ _ _) F.entry_str_split (F.args_str_split_2 _ _) (meets_str_split_cannot_occur z y t w h1) (fin [(z, t)] s.toks (if_pos h1).symm)
theorem mt_part : MtR X "str.partition" (fun x xs H Q => ∃ z y, x = .str z ∧ xs = [.str y] ∧ (y.length == 0) = false ∧ z.length ≤ sizeLine ∧ ∀ a, H a = none → Q (.ref a) (upd H a (.tup [.str (PySem.Txt.partition z y).1, .str (PySem.Txt.partition z y).2.1, .str (PySem.Txt.partition z y).2.2]))) := by
  intro pins s σ H x xs v us Q I rx rs h
  obtain ⟨z, y, rfl, rfl, hy, hz, q⟩ := h
  obtain ⟨t, rfl⟩ := rx
  obtain ⟨u', rfl, w, rfl⟩ := vals1 rs
  refine call_meets F.slot_str_partition (typeIs_str _ _ _) F.entry_str_partition (F.args_str_partition_2 _ _) (meets_str_partition z y t w hy hz) ?_
  have fin : ∀ (a b c : Str) (ta tb tc : Tok) (k : Nat), PySem.Txt.partition z y = (a, b, c) → EP X pins σ Q (.ref s.heap.objs.size) { s with heap := s.heap.push { cls := .type "tuple", data := .seq [.str a ta, .str b tb, .str c tc].toArray }, toks := k } := fun a b c ta tb tc k e => by
    rw [e] at q
    exact ⟨.ref s.heap.objs.size, _, I.laid (o := .tup [.str a, .str b, .str c]) (t' := k) (fun _ _ q => Heap.get?_push_of_some _ q) (Nat.le_refl _) ⟨by show 3 ≤ sizeLine; decide, _, .cons ⟨ta, rfl⟩ (.cons ⟨tb, rfl⟩ (.cons ⟨tc, rfl⟩ .nil)), ⟨_, Heap.get?_push_size _ rfl, rfl, _, rfl⟩⟩, rfl, q _ I.fresh⟩
  have hp : PySem.Txt.partition z y = PySem.Txt.partition z y := rfl
  conv at hp => rhs; unfold PySem.Txt.partition
  revert fin hp
  cases Builtin.Str.occurrences z y 0 z.length 1 with
  | nil => intro fin hp; exact fin _ _ _ _ _ _ _ hp
  | cons i r => intro fin hp; exact fin _ _ _ _ _ _ _ hp
end
end L2
namespace L3
open PySem PySem.Spec PyProof.Rows L2
section
variable {X : Cx} {G : Gx} {Er : ER} {o e : Expr} {p pos apos cpos : Pos} {C Ca : En → Prop} {gs : En → Str} {y u : Str} {t : TE} {g : En → PV} {st : Stmt} {f f1 f2 f3 : FS} {ut : TS}
theorem atL_strs {K : PySem.W.Frag} {H : Hp} : ∀ ns : List Str, AtL K G H (ns.map PV.str) (ns.map V.str)
  | [] => rfl
  | n :: r => ⟨_, _, rfl, rfl, atL_strs r⟩
/-- z.partition(y) -/
theorem xp_part {k1 : Nat} {p1 : Pos} (ho : PE X o (tXS X.K G C gs)) (hy : (y.length == 0) = false) (hbase : attributeBase o "partition" X.env (eval o X.env) = eval o X.env := by rfl)
    (hline : (apos.endLine == cpos.line) = true := by rfl) : PE X (.Call (.Attribute o "partition" apos) [.Constant (.str y) k1 p1] [] cpos)
      (tX X.K G (fun ρ => C ρ ∧ (gs ρ).length ≤ sizeLine) fun ρ => .tup [.str (PySem.Txt.partition (gs ρ) y).1, .str (PySem.Txt.partition (gs ρ) y).2.1, .str (PySem.Txt.partition (gs ρ) y).2.2]) :=
  toX (pe_bm PySem.F.plainAttrs_str PySem.F.slot_str_partition PySem.F.type_str_partition mt_part ho (pa_cons pe_str pa_nil) hbase rfl hline) fun B σ H ρ O Q R c q => ⟨B, ρ, O, R, c.1, fun v H1 s1 a1 => by
    have a1 : v = .str (gs ρ) := a1
    subst a1
    refine ⟨rfl, gs ρ, y, rfl, rfl, hy, c.2, fun a na => q _ _ (s1.trans (same_new na _)) ?_⟩
    have R1 := R.grow s1
    have oa : O a = false := by
      cases y : O a with
      | false => rfl
      | true => exact absurd na (R1.dom a y)
    exact ⟨a, _, rfl, (by rw [mn_of oa]; exact upd_same), _, _, rfl, rfl, _, _, rfl, rfl, _, _, rfl, rfl, rfl⟩⟩
/-- != of texts, as a test -/
theorem xt_neS {a b : Expr} {Cb : En → Prop} {ga gb : En → Str} (ha : PE X a (tXS X.K G Ca ga)) (hb : PE X b (tXS X.K G Cb gb)) : PT X (.Compare a [.NotEq] [b] pos) (tXT X.K G (fun ρ => Ca ρ ∧ Cb ρ) fun ρ => ¬ ga ρ = gb ρ) :=
  fun pins s σ H Q I ⟨_, ρ, _, R, c, q⟩ => pt_cmpR op_ne ha hb (nomark _) pins s σ H Q I (two R c.1 c.2 fun v u _ H2 s1 s2 a1 a2 => by
    have a1 : v = .str (ga ρ) := a1
    have a2 : u = .str (gb ρ) := a2
    subst a1 a2
    refine ⟨rfl, _, rfl, ?_⟩
    have k := q H2 (s1.trans s2)
    by_cases z : ga ρ = gb ρ
    · simpa [z] using k
    · simpa [z] using k)
end
/-- no def of the text makes a lambda -/
theorem lamOk_nil {K : PySem.W.Frag} {h : Heap} (e : (lamsIn K).isEmpty = true) : LamOk K h := by
  have e : lamsIn K = [] := List.isEmpty_iff.mp e
  have n : ∀ x, ¬ x ∈ lamsIn K := fun x hx => by rw [e] at hx; exact List.not_mem_nil hx
  exact ⟨fun x hx => absurd hx (n x), fun x hx => absurd hx (n x), fun x hx => absurd hx (n x)⟩
end L3

namespace L2
open PySem PySem.Spec PyProof.Rows
/-! ### over the signs of a text -/
theorem walksS {prog : Program} {w : World} {A : Around} (hh : A.handled = none) (it : Addr) (x : Str) (t : Tok) : Walks prog w A it [it] [it] x.cps.size (SignAt x) (fun i h => h.IsStrIter it (strIterType x) x t i) := by
  unfold strIterType
  split
  · exact Walks.strAscii hh it x t
  · exact Walks.strWide hh it x t
noncomputable def ItT (x : Str) : It := ⟨fun i _ => i < x.cps.size, fun i H v H' => H' = H ∧ ∃ c, v = .str ⟨#[c]⟩ ∧ x.cps[i]? = some c, fun i _ => i = x.cps.size⟩
theorem turn_str {P : Program} {w : World} {K : PySem.W.Frag} {tg : Expr} (x : Str) (t : Tok) (it : Addr) : Turn P w K tg (ItT x) [it] it (fun i h => h.IsStrIter it (strIterType x) x t i) where
  mem := by simp
  obj := fun i h st b hb => by
    have e : b = it := by simpa using hb
    subst e
    obtain ⟨o, e, c, d⟩ := st
    exact ⟨o, e, fun v z => by rw [d] at z; cases z⟩
  keep := fun i h h' st k => by
    obtain ⟨o, ho, r⟩ := st
    exact ⟨o, k it (by simp) o ho, r⟩
  item := by
    intro X hP hw hK hc i pins s σ H E I hf st hg
    subst hP hw hK
    refine (walksS (I.ok.hd hc) it x t).item i s _ E hg st fun v h' tk hv st' hk => ?_
    obtain ⟨c, u, hc', rfl⟩ := hv
    have I1 : Inv X pins σ H { s with heap := h', toks := tk } := I.turnedL hf fun b o hb q => hk b o hb q
    obtain ⟨o, e, cl, d⟩ := id st'
    exact ⟨_, rfl, go_of (s := { s with heap := h', toks := tk }) e cl d (by unfold strIterType; split <;> decide) ⟨.str ⟨#[c]⟩, H, I1, ⟨_, rfl⟩, ⟨rfl, c, rfl, hc'⟩, st', fun b hb => (hf b hb).1⟩⟩
  done := by
    intro X hP hw hK hc i pins s σ H E I hf st hg
    subst hP hw hK
    have hg : i = x.cps.size := hg
    subst hg
    exact (walksS (I.ok.hd hc) it x t).done s _ E st fun h' tk hk => ⟨rfl, I.turnedL hf fun b o hb q => hk b o hb q⟩
  self := fun A i s Q E st h => by
    unfold strIterType at st
    split at st
    · exact wpAny_pyIter_striter_ascii st h
    · exact wpAny_pyIter_striter_wide st h
noncomputable def iStr (tl : TE) : TI := fun σ H R => tl σ H fun x H1 => ∃ z, x = .str z ∧ R (ItT z) H1
theorem pi_str {X : Cx} {tg l : Expr} {tl : TE} (hl : PE X l tl) : PI X tg l (iStr tl) := by
  intro pins s σ H R I h
  refine thn (hl pins s σ H _ I h) fun v s1 ⟨x, H1, I1, r1, z, e, q⟩ => ?_
  subst e
  obtain ⟨t, rfl⟩ := r1
  refine wpAny_pyIter_strU ?_
  refine ⟨s1.heap.objs.size, [s1.heap.objs.size], _, _, H1, rfl, I1.kept (t' := s1.toks) fun b o e => Heap.get?_push_of_some _ e, turn_str z t _, ⟨_, Heap.get?_push_size _ rfl, rfl, rfl⟩, fun b hb => ?_, q⟩
  have e : b = s1.heap.objs.size := by simpa using hb
  subst e
  exact I1.fpOk (Nat.le_refl _) (I1.hok.fresh (Nat.le_refl _))
theorem call_allB {X : Cx} (hc : X.calm = true) : CallR X (.builtin "all") (fun xs H Q => ∃ (a : Addr) (bs : List Bool), xs = [.ref a] ∧ Rd H a (.lst (bs.map V.bl)) ∧ Q (.bl (bs.all id)) H) := by
  intro pins s σ H xs us Q I rv h
  obtain ⟨a, bs, rfl, ha, q⟩ := h
  obtain ⟨u, rfl, ru⟩ := vals1 rv
  cases ru
  obtain ⟨_, its, n, r, _, e⟩ := L3.Inv.lstR I ha
  have eb := bls_are r
  subst eb
  have hL : s.heap.IsList a (bs.map Value.bool).toArray := ⟨_, e, rfl, _, rfl⟩
  have hne : a ≠ s.heap.objs.size := Nat.ne_of_lt (Heap.lt_size e)
  refine call_all_walk (wpAny_pyIter_list hL ?_)
  refine ⟨_, [s.heap.objs.size, a], [s.heap.objs.size], _, _, _, fun i => bs.getD i false, rfl, Walks.list (A := X.A.in1) (I.ok.hd hc) _ a hne (bs.map Value.bool).toArray, ⟨⟨_, Heap.get?_push_size _ rfl, rfl, rfl⟩, hL.push _⟩, fun i v s Q E hv hq => ?_, fun h' tk hk => ?_⟩
  · have hv : (bs.map Value.bool).toArray[i]? = some v := hv
    rw [List.getElem?_toArray, List.getElem?_map] at hv
    cases eb : bs[i]? with
    | none => rw [eb] at hv; cases hv
    | some b =>
      rw [eb] at hv
      have hv : Value.bool b = v := Option.some.inj hv
      subst hv
      have eg : bs.getD i false = b := by rw [List.getD_eq_getElem?_getD, eb]; rfl
      refine wpAny_truthy_bool ?_
      have hq : Q (bs.getD i false) s := hq
      rw [eg] at hq
      exact hq
  · have en : (List.range (bs.map Value.bool).toArray.size).all (fun i => bs.getD i false) = bs.all id := by
      rw [List.size_toArray, List.length_map, Bool.eq_iff_iff, List.all_eq_true, List.all_eq_true]
      constructor
      · intro h b hb
        obtain ⟨i, hi, rfl⟩ := List.mem_iff_getElem.mp hb
        have := h i (List.mem_range.mpr hi)
        rw [List.getD_eq_getElem?_getD, List.getElem?_eq_getElem hi] at this
        exact this
      · intro h i hi
        have hi := List.mem_range.mp hi
        rw [List.getD_eq_getElem?_getD, List.getElem?_eq_getElem hi]
        exact h _ (List.getElem_mem hi)
    rw [en]
    refine ⟨.bl _, H, I.kept (t' := tk) fun b o eo => hk b o (fun hm => ?_) (Heap.get?_push_of_some _ eo), rfl, q⟩
    have : b = s.heap.objs.size := List.mem_singleton.mp hm
    exact absurd (Heap.lt_size eo) (by rw [this]; exact Nat.lt_irrefl _)
/-- a try whose body raises nothing -/
theorem ps_tryC {X : Cx} {body : List Stmt} {h0 : ExceptHandler} {hs : List ExceptHandler} {pos : Pos} {t : TS} (hb : ∀ (pn : List (Addr × Obj)) (E' : Value → Shared → Prop), PSs { X with pn := pn, xe := E' } body t) : PS X (.Try body (h0 :: hs) [] [] pos) t := by
  intro pins s σ H D I h
  refine wpAny_Try_except (wpAny_mono (hb (X.pn ++ pins) (fun _ _ => False) [] s σ H D (I.toPn _) h) (fun f s1 q => ?_) fun e s' q => q.elim)
  cases f with
  | next =>
    obtain ⟨σ', H', I', q⟩ := q
    exact wpAny_execs_nil ⟨σ', H', I'.ofPn, q⟩
  | ret v => obtain ⟨x, σ', H', I', r, q⟩ := q; exact ⟨x, σ', H', I'.ofPn, r, q⟩
  | brk => obtain ⟨σ', H', I', q⟩ := q; exact ⟨σ', H', I'.ofPn, q⟩
  | cont => obtain ⟨σ', H', I', q⟩ := q; exact ⟨σ', H', I'.ofPn, q⟩
theorem mt_starts {X : Cx} : MtR X "str.startswith" (fun x xs H Q => ∃ z y, x = .str z ∧ xs = [.str y] ∧ Q (.bl (PySem.Txt.startswith z y)) H) := by
  intro pins s σ H x xs v us Q I rx rs h
  obtain ⟨z, y, rfl, rfl, q⟩ := h
  obtain ⟨t, rfl⟩ := rx
  obtain ⟨u', rfl, w, rfl⟩ := vals1 rs
  exact SC.startswith ⟨.bl _, H, I, rfl, q⟩
end L2
namespace L3
open PySem PySem.Spec PyProof.Rows L2
section
variable {K : PySem.W.Frag} {G : Gx} {σ : L2.St} {H : Hp} {Q : VK} {Cs Cb : En → Prop} {gs : En → Str} {gp : En → PV} {cap : List (Option Nat)}
/-- over the signs of a text -/
theorem lc_S (h : tXp K G (fun ρ => Cs ρ ∧ (gs ρ).length ≤ 1000 ∧ ∀ c ∈ (gs ρ).cps.toList, Cb ((capR (none :: cap) ρ).set 0 (.fr (.str ⟨#[c]⟩)))) (fun ρ => (gs ρ).cps.toList.map fun c => gp ((capR (none :: cap) ρ).set 0 (.fr (.str ⟨#[c]⟩)))) σ H Q) :
    tLC (none :: cap) (iStr (tXS K G Cs gs)) (gName 0) noTest (tX K G Cb gp) σ H Q := by
  obtain ⟨B, ρ, O, R, ⟨c1, c2, c3⟩, q⟩ := h
  refine ⟨B, ρ, O, R, c1, fun v H1 s1 a1 => ?_⟩
  have a1 : v = .str (gs ρ) := a1
  subst a1
  refine ⟨gs ρ, rfl, fun D hD => ?_⟩
  refine lc_main (gs ρ).cps.toList (fun _ v => (capS (none :: cap) σ).set 0 (some v)) (fun c => (capR (none :: cap) ρ).set 0 (.fr (.str ⟨#[c]⟩))) (fun c => .str ⟨#[c]⟩) (R.grow s1) hD (by rw [Array.length_toList]; exact c2) (fun i H hi s => by rw [Array.length_toList] at hi; exact hi) ?_ (fun H s => Array.length_toList) (fun n H _ s R' => R'.set (p := .str ⟨#[n]⟩) rfl) ?_ c3 ?_
  · rintro i n x H H' en s ⟨rfl, c, rfl, hx⟩
    rw [Array.getElem?_toList, hx] at en
    cases en
    exact ⟨Same.refl _, fun k hk => hk⟩
  · intro n
    show ExtS (none :: capS cap σ) (some _ :: capS cap σ)
    exact ext_refl _
  · intro H' ys s hd al
    exact q D ys H' (s1.trans s) (s1.free hD) hd al
end
section
variable {X : Cx} {G : Gx} {Er : ER} {N' : List Str} {sc : Scope} {cl : List (Str × Addr)} {cap : List (Option Nat)} {el tg src a b c o : Expr} {at' pos p apos cpos : Pos} {Cs Cb Ca Cc C : En → Prop} {gs : En → Str} {gp g : En → PV} {gl : En → List PV} {ga gb gc : En → Int}
theorem xp_lcW (L : LcOk X N' sc cl (none :: cap)) (hc : X.calm = true) (hi : PE X src (tXS X.K G Cs gs)) (hg : ∀ s H fp, PG (cxComp X N' sc cl s H fp) tg (gName 0)) (he : ∀ s H fp, PE (cxComp X N' sc cl s H fp) el (tX X.K G Cb gp)) (hs : ∀ x, foldedSetIterable src X.env x = pure x := by intro _; rfl) :
    PE X (.ListComp el [⟨tg, src, [], 0⟩] sc at') (tXp X.K G (fun ρ => Cs ρ ∧ (gs ρ).length ≤ 1000 ∧ ∀ c ∈ (gs ρ).cps.toList, Cb ((capR (none :: cap) ρ).set 0 (.fr (.str ⟨#[c]⟩)))) fun ρ => (gs ρ).cps.toList.map fun c => gp ((capR (none :: cap) ρ).set 0 (.fr (.str ⟨#[c]⟩)))) :=
  fun pins s σ H Q I h => pe_lc L hc (pi_str hi) hg (fun _ _ _ => pts_nil) he hs pins s σ H Q I (lc_S h)
theorem xe_all (hcm : X.calm = true) (hm : X.mg "all" = none) (ha : PE X a (tX X.K G Ca fun ρ => .lst (gl ρ))) (bt : bootBuiltins "all" = some (.builtin "all") := by rfl) (hg : Gl X "all" := by rfl) (he : starEach [a] X.env = [(false, eval a X.env)] := by rfl) : PE X (.Call (.Name "all" p) [a] [] pos) (tXB X.K G (fun ρ => Ca ρ ∧ ∀ q ∈ gl ρ, ∃ b, q = .bl b) fun ρ => ((gl ρ).map isTB).all id = true) :=
  toX (pe_callB (call_allB hcm) hg hm bt (pa_cons ha pa_nil he) (by decide) (by decide) he rfl) fun B σ H ρ O Q R c q => ⟨B, ρ, O, R, c.1, fun v H1 s1 a1 => by
    obtain ⟨l, vs, rfl, r1, al⟩ := a1
    have ev := atL_bls al c.2
    subst ev
    exact ⟨l, _, rfl, same_rd mn_le r1, q _ H1 s1 (by show V.bl _ = V.bl (decide _); rw [Bool.decide_eq_true])⟩⟩
theorem xst_tryC {body : List Stmt} {h0 : ExceptHandler} {hs : List ExceptHandler} {f : FS} (hb : ∀ (pn : List (Addr × Obj)) (E' : Value → Shared → Prop), PSs { X with pn := pn, xe := E' } body (ts X.K G Er f)) : PS X (.Try body (h0 :: hs) [] [] pos) (ts X.K G Er f) := ps_tryC hb
/-- z.startswith(y) -/
theorem xe_starts {y : Str} {k1 : Nat} {p1 : Pos} (ho : PE X o (tXS X.K G C gs)) (hbase : attributeBase o "startswith" X.env (eval o X.env) = eval o X.env := by rfl)
    (hline : (apos.endLine == cpos.line) = true := by rfl) : PE X (.Call (.Attribute o "startswith" apos) [.Constant (.str y) k1 p1] [] cpos) (tXB X.K G C fun ρ => PySem.Txt.startswith (gs ρ) y = true) :=
  toX (pe_bm PySem.F.plainAttrs_str PySem.F.slot_str_startswith PySem.F.type_str_startswith mt_starts ho (pa_cons pe_str pa_nil) hbase rfl hline) fun B σ H ρ O Q R c q => ⟨B, ρ, O, R, c, fun v H1 s1 a1 => by
    have a1 : v = .str (gs ρ) := a1
    subst a1
    exact ⟨rfl, gs ρ, y, rfl, rfl, q _ H1 s1 (by show V.bl _ = V.bl (decide _); rw [Bool.decide_eq_true])⟩⟩
/-- z.split(y), no token asked -/
theorem xp_splitE {y : Str} {k1 : Nat} {p1 : Pos} (ho : PE X o (tXS X.K G C gs)) (hy : (y.length == 0) = false) (hbase : attributeBase o "split" X.env (eval o X.env) = eval o X.env := by rfl)
    (hline : (apos.endLine == cpos.line) = true := by rfl) : PE X (.Call (.Attribute o "split" apos) [.Constant (.str y) k1 p1] [] cpos)
      (tX X.K G (fun ρ => C ρ ∧ (gs ρ).length < sizeLine ∧ (PySem.Txt.split (gs ρ) y).length ≤ sizeLine) fun ρ => .lst ((PySem.Txt.split (gs ρ) y).map PV.str)) :=
  toX (pe_bm PySem.F.plainAttrs_str PySem.F.slot_str_split PySem.F.type_str_split mt_split ho (pa_cons pe_str pa_nil) hbase rfl hline) fun B σ H ρ O Q R c q => ⟨B, ρ, O, R, c.1, fun v H1 s1 a1 => by
    have a1 : v = .str (gs ρ) := a1
    subst a1
    refine ⟨rfl, gs ρ, y, rfl, rfl, hy, c.2.1, c.2.2, fun a na => q _ _ (s1.trans (same_new na _)) ⟨a, _, rfl, ?_, atL_strs _⟩⟩
    have R1 := R.grow s1
    have oa : O a = false := by
      cases y : O a with
      | false => rfl
      | true => exact absurd na (R1.dom a y)
    exact .inl (by rw [mn_of oa]; exact upd_same)⟩
/-- a call that tells a new list (it may refuse, but does not here) -/
noncomputable def getR : Int ⊕ List Int → List Int
  | .inr ns => ns
  | _ => []
theorem xl_callX {f : Str} {e : Expr} {ps : List Str} {j k : Nat} {cB : Addr} {pre : Str → Prop} {F : Str → Int ⊕ List Int} (oo : OkE X.prog X.w X.K X.mg X.base j f ps (spX cB pre F)) (hr : Room k X.A) (ha : PE X e (tXS X.K G C gs)) (hj : j ≤ k := by decide) (hg : Gl X f := by rfl) (hdb : (f == ("__debug__" : Str)) = false := by decide)
    (he : starEach [e] X.env = [(false, eval e X.env)] := by rfl) : PE X (.Call (.Name f p) [e] [] pos) (tXl X.K G (fun ρ => C ρ ∧ pre (gs ρ) ∧ ∃ ns, F (gs ρ) = .inr ns) fun ρ => getR (F (gs ρ))) :=
  toXl (pe_callE (E := E0) oo passE0 hr (pa_cons ha pa_nil he) hj hg hdb he rfl) fun B σ H ρ O Q R c q => ⟨B, ρ, O, R, c.1, fun v H1 s1 a1 => by
    obtain ⟨c1, c2, ns, c3⟩ := c
    have a1 : v = .str (gs ρ) := a1
    subst a1
    refine ⟨gs ρ, rfl, c2, fun ms e H2 a s2 na e2 => q a H2 (s1.trans s2) (s1.free na) ?_, fun z ez => ?_⟩
    · rw [e]; exact e2
    · rw [c3] at ez; cases ez⟩
/-- a <= b <= c -/
theorem xe_chainLe (ha : PE X a (tXI X.K G Ca ga)) (hb : PE X b (tXI X.K G Cb gb)) (hc : PE X c (tXI X.K G Cc gc)) (hm : lastMarks [.LtE, .LtE] [b, c] = false := by with_unfolding_all rfl) :
    PE X (.Compare a [.LtE, .LtE] [b, c] pos) (tXB X.K G (fun ρ => Ca ρ ∧ Cb ρ ∧ Cc ρ) fun ρ => ga ρ ≤ gb ρ ∧ gb ρ ≤ gc ρ) :=
  toX (pe_chain op_le op_le ha hb hc hm) fun B σ H ρ O Q R cc q => ⟨B, ρ, O, R, cc.1, fun v H1 s1 a1 => ⟨B, ρ, O, R.grow s1, cc.2.1, fun u H2 s2 a2 => by
    refine ⟨ga ρ, gb ρ, a1, a2, _, rfl, ?_⟩
    by_cases z : ga ρ ≤ gb ρ
    · rw [if_pos (decide_eq_true z)]
      refine ⟨B, ρ, O, (R.grow s1).grow s2, cc.2.2, fun w' H3 s3 a3 => ⟨gb ρ, gc ρ, a2, a3, q _ H3 (s1.trans (s2.trans s3)) ?_⟩⟩
      show V.bl _ = V.bl _
      rw [show decide (ga ρ ≤ gb ρ ∧ gb ρ ≤ gc ρ) = decide (gb ρ ≤ gc ρ) from by simp [z]]
    · rw [if_neg (by simpa using z)]
      refine q _ H2 (s1.trans s2) ?_
      show V.bl _ = V.bl _
      rw [show decide (ga ρ ≤ gb ρ ∧ gb ρ ≤ gc ρ) = false from by simp [z]]⟩⟩
/-- a text at the top -/
theorem xs_glob {x z : Str} (hg : Gl X x) (hm : ∃ tk, X.mg x = some (.str z tk)) (hd : (x == ("__debug__" : Str)) = false := by decide) : PE X (.Name x pos) (tXS X.K G (fun _ => True) fun _ => z) :=
  toX (pe_globS hg hm hd) fun _ _ H _ _ _ _ _ q => q _ H (Same.refl H) rfl
end
/-- Wholes, and caught errors -/
noncomputable abbrev G82 (cW : Addr) : Gx := GkE (KW cW) fun h s => h.same s
theorem g82W {cW : Addr} (H : Hp) (a dx : Addr) (h : H a = some (.ins cW dx [("size", .int 0)])) : (G82 cW).ob 0 H a 0 := by
  have hm : ∀ m ∈ kMeths, List.lookup m [("size", V.int 0)] = none := by decide +kernel
  exact .inl ⟨rfl, rfl, dx, _, h, rfl, hm⟩
end L3

/-! defs that refuse or tell a value -/
namespace L3
open PySem PySem.Spec PyProof.Rows L2
noncomputable def spEV (K : PySem.W.Frag) (G : Gx) (pre : List PV → Prop) (F : List PV → Rs) : Sp := fun vs H Q E => ∃ as O, (∀ a, O a = true → H a ≠ none) ∧ AtL K G (mn H O) as vs ∧ pre as ∧ (∀ p, F as = .val p → ∀ v H', Same H H' → At K G (mn H' O) p v → Q v H') ∧ ∀ C, F as = .err C → ∀ H', Same H H' → E (.ref C) none H'
section
variable {P : Program} {w : World} {K : PySem.W.Frag} {mg : Str → Option Value} {base : Heap} {G : Gx}
theorem okEV {x : Str} {st : Stmt} {N ps : List Str} {k : Nat} {pre : List PV → Prop} {F : List PV → Rs} (d : Def K mg x st ps) (S : FnScope N ps (defScope st)) (len : ∀ as, pre as → as.length = ps.length)
    (hbody : ∀ (f : Addr) (cdv : Value) (A : Around) (outer : List Env) (s : Shared) (H : Hp) (E : XK), Room k (A.deeper (envOfC x (defScope st) s.heap.objs.size f cdv)) →
      ∃ fs, PSs (cxOf (CXe P w) P w K mg base N x (defScope st) f cdv A outer s H E) (defBody st) (ts K G (erE E) fs) ∧ ∀ as, pre as → fs { nx := fun _ => False, rt := fun p => F as = .val p, er := fun C => F as = .err C } (startR N as)) : OkE P w K mg base (k + 1) x ps (spEV K G pre F) := by
  obtain ⟨f, fd, Fu, b, m⟩ := d.ex
  refine ⟨f, fd, ?_, b, Fu.kp, m⟩
  obtain ⟨oc, od, kV, doc, pm, an, cdv, ct, osl, rfl, lk, hcd⟩ := Fu.ex
  refine fn_of lk hcd S (fun vs H Q E h => ?_) fun A outer s H vs Q E hr h => ?_
  · obtain ⟨as, O, _, al, hp, _⟩ := h
    rw [← al.length]; exact len as hp
  obtain ⟨as, O, hd, al, hp, q, qe⟩ := h
  obtain ⟨fs, b, c⟩ := hbody f cdv A outer s H E hr
  exact ⟨_, b, ⟨H, O⟩, startR N as, _, ⟨O, rep_start hd al⟩, c as hp, ⟨fun _ _ _ _ h => h.elim, fun v H' p s' a' h => q p h v H' s' a', fun _ _ _ _ _ _ h => h.elim, fun _ _ _ _ _ h => h.elim, fun _ _ _ _ h => h, fun _ _ _ _ h => h, fun H' C s' h => qe C h H' s'⟩⟩
end
section
variable {X : Cx} {G : Gx} {e : Expr} {es : List Expr} {pos p : Pos} {j k : Nat} {x : Str} {ps : List Str} {pre : List PV → Prop} {C : En → Prop} {gs : En → List PV} {F : List PV → Rs}
/-- a call that does not refuse here -/
theorem rcvV (o : OkE X.prog X.w X.K X.mg X.base j x ps (spEV X.K G pre F)) (hr : Room k X.A) (ha : PA X (e :: es) (tXs X.K G C gs)) (hj : j ≤ k := by decide) (hg : Gl X x := by rfl) (hdb : (x == ("__debug__" : Str)) = false := by decide)
    (he : starEach (e :: es) X.env = (false, eval e X.env) :: starEach es X.env := by rfl) (hpl : (backTo pos (starEach es X.env)).any (·.1) = false := by rfl) :
    PE X (.Call (.Name x p) (e :: es) [] pos) (tX X.K G (fun ρ => C ρ ∧ pre (gs ρ) ∧ (F (gs ρ)).isV) fun ρ => (F (gs ρ)).get) :=
  toX (pe_callE (E := E0) o passE0 hr ha hj hg hdb he hpl) fun B σ H ρ O Q R c q => ⟨B, ρ, O, R, c.1, fun vs H1 s1 a1 => by
    dsimp only
    rw [List.append_nil]
    refine ⟨gs ρ, O, (R.grow s1).dom, a1, c.2.1, fun p hp v H2 s2 a2 => q v H2 (s1.trans s2) ?_, fun Cc hc => ?_⟩
    · rw [hp]; exact a2
    · have z := c.2.2
      rw [hc] at z
      exact z.elim⟩
theorem xR_callV (o : OkE X.prog X.w X.K X.mg X.base j x ps (spEV X.K G pre F)) (hr : Room k X.A) (ha : PA X (e :: es) (tXs X.K G C gs)) (hj : j ≤ k := by decide) (hg : Gl X x := by rfl) (hdb : (x == ("__debug__" : Str)) = false := by decide)
    (he : starEach (e :: es) X.env = (false, eval e X.env) :: starEach es X.env := by rfl) (hpl : (backTo pos (starEach es X.env)).any (·.1) = false := by rfl) : PR X G (.Call (.Name x p) (e :: es) [] pos) (fun ρ => C ρ ∧ pre (gs ρ)) fun ρ => F (gs ρ) :=
  fun E hx pins s σ H Q I ⟨B, ρ, O, R, c, q, qe⟩ => pe_callE o hx hr ha hj hg hdb he hpl pins s σ H Q I ⟨B, ρ, O, R, c.1, fun vs H1 s1 a1 => by
    dsimp only
    rw [List.append_nil]
    exact ⟨gs ρ, O, (R.grow s1).dom, a1, c.2, fun p hp v H2 s2 a2 => q p hp v H2 (s1.trans s2) a2, fun cc hcc H2 s2 => qe cc hcc H2 (s1.trans s2)⟩⟩
end
end L3

namespace K82
open PySem L2 L3 PyProof.Rows FM
noncomputable abbrev s_cut_noughts : Stmt := top 9
theorem sc_cut_noughts : FnScope ["numbers"] ["numbers"] (defScope s_cut_noughts) := ⟨rfl, rfl, rfl, by decide +kernel, rfl, by decide +kernel, by decide +kernel⟩
noncomputable abbrev s_trimmed : Stmt := top 10
theorem sc_trimmed : FnScope ["kind", "f", "numbers"] ["kind", "f"] (defScope s_trimmed) := ⟨rfl, rfl, rfl, by decide +kernel, rfl, by decide +kernel, by decide +kernel⟩
noncomputable abbrev s_shown : Stmt := top 15
theorem sc_shown : FnScope ["f", "numbers", "text", "power"] ["f"] (defScope s_shown) := ⟨rfl, rfl, rfl, by decide +kernel, rfl, by decide +kernel, by decide +kernel⟩
noncomputable abbrev s_term_shown : Stmt := top 16
theorem sc_term_shown : FnScope ["number", "power", "figures", "ahead"] ["number", "power"] (defScope s_term_shown) := ⟨rfl, rfl, rfl, by decide +kernel, rfl, by decide +kernel, by decide +kernel⟩
noncomputable abbrev s_read : Stmt := top 18
theorem sc_read : FnScope ["text", "reader", "sums", "factor"] ["text"] (defScope s_read) := ⟨rfl, rfl, rfl, by decide +kernel, rfl, by decide +kernel, by decide +kernel⟩
noncomputable abbrev s_add_term : Stmt := top 19
theorem sc_add_term : FnScope ["sums", "factor", "reader", "term"] ["sums", "factor", "reader"] (defScope s_add_term) := ⟨rfl, rfl, rfl, by decide +kernel, rfl, by decide +kernel, by decide +kernel⟩
noncomputable abbrev s_product_shown : Stmt := top 24
theorem sc_product_shown : FnScope ["content", "pairs", "text", "g", "often", "polynomial"] ["content", "pairs"] (defScope s_product_shown) := ⟨rfl, rfl, rfl, by decide +kernel, rfl, by decide +kernel, by decide +kernel⟩
noncomputable abbrev s_product_read : Stmt := top 25
theorem sc_product_read : FnScope ["text", "pieces", "content", "pairs"] ["text"] (defScope s_product_read) := ⟨rfl, rfl, rfl, by decide +kernel, rfl, by decide +kernel, by decide +kernel⟩
noncomputable abbrev s_content_read : Stmt := top 26
theorem sc_content_read : FnScope ["text"] ["text"] (defScope s_content_read) := ⟨rfl, rfl, rfl, by decide +kernel, rfl, by decide +kernel, by decide +kernel⟩
noncomputable abbrev s_number_read : Stmt := top 27
theorem sc_number_read : FnScope ["text", "most_figures"] ["text", "most_figures"] (defScope s_number_read) := ⟨rfl, rfl, rfl, by decide +kernel, rfl, by decide +kernel, by decide +kernel⟩
noncomputable abbrev s_is_figures : Stmt := top 28
theorem sc_is_figures : FnScope ["text", "most"] ["text", "most"] (defScope s_is_figures) := ⟨rfl, rfl, rfl, by decide +kernel, rfl, by decide +kernel, by decide +kernel⟩
noncomputable abbrev s_pair_read : Stmt := top 29
theorem sc_pair_read : FnScope ["text", "halves"] ["text"] (defScope s_pair_read) := ⟨rfl, rfl, rfl, by decide +kernel, rfl, by decide +kernel, by decide +kernel⟩
noncomputable abbrev s_polynomial_read : Stmt := top 30
theorem sc_polynomial_read : FnScope ["text"] ["text"] (defScope s_polynomial_read) := ⟨rfl, rfl, rfl, by decide +kernel, rfl, by decide +kernel, by decide +kernel⟩
noncomputable abbrev s_often_read : Stmt := top 31
theorem sc_often_read : FnScope ["text", "often"] ["text"] (defScope s_often_read) := ⟨rfl, rfl, rfl, by decide +kernel, rfl, by decide +kernel, by decide +kernel⟩
noncomputable abbrev s_cell_at : Stmt := top 33
theorem sc_cell_at : FnScope ["_law_script", "_law_k"] ["_law_script", "_law_k"] (defScope s_cell_at) := ⟨rfl, rfl, rfl, by decide +kernel, rfl, by decide +kernel, by decide +kernel⟩
noncomputable abbrev s_whole : Stmt := top 34
theorem sc_whole : FnScope ["_law_found"] ["_law_found"] (defScope s_whole) := ⟨rfl, rfl, rfl, by decide +kernel, rfl, by decide +kernel, by decide +kernel⟩
noncomputable abbrev s_term : Stmt := top 35
theorem sc_term : FnScope ["_law_number", "_law_k", "_law_tail"] ["_law_number", "_law_k"] (defScope s_term) := ⟨rfl, rfl, rfl, by decide +kernel, rfl, by decide +kernel, by decide +kernel⟩
noncomputable abbrev s_law_shown : Stmt := top 36
theorem sc_law_shown : FnScope ["_law_row", "_law_text", "_law_k"] ["_law_row"] (defScope s_law_shown) := ⟨rfl, rfl, rfl, by decide +kernel, rfl, by decide +kernel, by decide +kernel⟩
noncomputable abbrev s_product : Stmt := top 37
theorem sc_product : FnScope ["_law_content", "_law_pairs", "_law_text", "_law_g", "_law_often"] ["_law_content", "_law_pairs"] (defScope s_product) := ⟨rfl, rfl, rfl, by decide +kernel, rfl, by decide +kernel, by decide +kernel⟩
noncomputable abbrev s_number_by : Stmt := top 38
theorem sc_number_by : FnScope ["_law_cell", "_law_way"] ["_law_cell"] (defScope s_number_by) := ⟨rfl, rfl, rfl, by decide +kernel, rfl, by decide +kernel, by decide +kernel⟩
noncomputable abbrev s_often_by : Stmt := top 39
theorem sc_often_by : FnScope ["_law_cell"] ["_law_cell"] (defScope s_often_by) := ⟨rfl, rfl, rfl, by decide +kernel, rfl, by decide +kernel, by decide +kernel⟩
noncomputable abbrev s_pair : Stmt := top 40
theorem sc_pair : FnScope ["_law_script", "_law_k", "_law_some", "_law_shift", "_law_g"] ["_law_script", "_law_k"] (defScope s_pair) := ⟨rfl, rfl, rfl, by decide +kernel, rfl, by decide +kernel, by decide +kernel⟩
noncomputable abbrev s_form : Stmt := top 41
theorem sc_form : FnScope ["_law_row"] ["_law_row"] (defScope s_form) := ⟨rfl, rfl, rfl, by decide +kernel, rfl, by decide +kernel, by decide +kernel⟩
noncomputable abbrev s_right : Stmt := top 42
theorem sc_right : FnScope ["_law_found", "_law_content", "_law_pairs", "_law_one", "_law_due"] ["_law_found", "_law_content", "_law_pairs"] (defScope s_right) := ⟨rfl, rfl, rfl, by decide +kernel, rfl, by decide +kernel, by decide +kernel⟩
noncomputable abbrev s_refused : Stmt := top 43
theorem sc_refused : FnScope ["_law_text", "_law_kept", "e"] ["_law_text"] (defScope s_refused) := ⟨rfl, rfl, rfl, by decide +kernel, rfl, by decide +kernel, by decide +kernel⟩
noncomputable abbrev s_law : Stmt := top 44
theorem sc_law : FnScope ["_law_script", "_law_content", "_law_pairs", "_law_size", "_law_k", "_law_g", "_law_often", "_law_turn", "_law_text"] ["_law_script"] (defScope s_law) := ⟨rfl, rfl, rfl, by decide +kernel, rfl, by decide +kernel, by decide +kernel⟩
noncomputable abbrev s_BadText_init : Stmt := inClass (top 4) 0
theorem sc_BadText_init : FnScope ["self", "place"] ["self", "place"] (defScope s_BadText_init) := ⟨rfl, rfl, rfl, by decide +kernel, rfl, by decide +kernel, by decide +kernel⟩
noncomputable abbrev s_Kind_init : Stmt := inClass (top 6) 0
theorem sc_Kind_init : FnScope ["self", "size"] ["self", "size"] (defScope s_Kind_init) := ⟨rfl, rfl, rfl, by decide +kernel, rfl, by decide +kernel, by decide +kernel⟩
noncomputable abbrev s_Wholes_init : Stmt := inClass (top 7) 0
theorem sc_Wholes_init : FnScope ["self"] ["self"] (defScope s_Wholes_init) := ⟨rfl, rfl, rfl, by decide +kernel, rfl, by decide +kernel, by decide +kernel⟩
noncomputable abbrev s_Wholes_plain : Stmt := inClass (top 7) 1
theorem sc_Wholes_plain : FnScope ["self", "number"] ["self", "number"] (defScope s_Wholes_plain) := ⟨rfl, rfl, rfl, by decide +kernel, rfl, by decide +kernel, by decide +kernel⟩
noncomputable abbrev s_Reader_init : Stmt := inClass (top 17) 0
theorem sc_Reader_init : FnScope ["self", "text"] ["self", "text"] (defScope s_Reader_init) := ⟨rfl, rfl, rfl, by decide +kernel, rfl, by decide +kernel, by decide +kernel⟩
noncomputable abbrev s_Reader_at_end : Stmt := inClass (top 17) 1
theorem sc_Reader_at_end : FnScope ["self"] ["self"] (defScope s_Reader_at_end) := ⟨rfl, rfl, rfl, by decide +kernel, rfl, by decide +kernel, by decide +kernel⟩
noncomputable abbrev s_Reader_stands : Stmt := inClass (top 17) 2
theorem sc_Reader_stands : FnScope ["self", "signs"] ["self", "signs"] (defScope s_Reader_stands) := ⟨rfl, rfl, rfl, by decide +kernel, rfl, by decide +kernel, by decide +kernel⟩
noncomputable abbrev s_Reader_taken : Stmt := inClass (top 17) 3
theorem sc_Reader_taken : FnScope ["self", "signs"] ["self", "signs"] (defScope s_Reader_taken) := ⟨rfl, rfl, rfl, by decide +kernel, rfl, by decide +kernel, by decide +kernel⟩
noncomputable abbrev s_Reader_skip_blanks : Stmt := inClass (top 17) 4
theorem sc_Reader_skip_blanks : FnScope ["self"] ["self"] (defScope s_Reader_skip_blanks) := ⟨rfl, rfl, rfl, by decide +kernel, rfl, by decide +kernel, by decide +kernel⟩
noncomputable abbrev s_Reader_taken_sign : Stmt := inClass (top 17) 5
theorem sc_Reader_taken_sign : FnScope ["self", "factor"] ["self"] (defScope s_Reader_taken_sign) := ⟨rfl, rfl, rfl, by decide +kernel, rfl, by decide +kernel, by decide +kernel⟩
noncomputable abbrev s_Reader_taken_number : Stmt := inClass (top 17) 6
theorem sc_Reader_taken_number : FnScope ["self", "figures"] ["self"] (defScope s_Reader_taken_number) := ⟨rfl, rfl, rfl, by decide +kernel, rfl, by decide +kernel, by decide +kernel⟩
noncomputable abbrev s_Reader_taken_power : Stmt := inClass (top 17) 7
theorem sc_Reader_taken_power : FnScope ["self", "power"] ["self"] (defScope s_Reader_taken_power) := ⟨rfl, rfl, rfl, by decide +kernel, rfl, by decide +kernel, by decide +kernel⟩
noncomputable abbrev s_Reader_taken_term : Stmt := inClass (top 17) 8
theorem sc_Reader_taken_term : FnScope ["self", "number"] ["self"] (defScope s_Reader_taken_term) := ⟨rfl, rfl, rfl, by decide +kernel, rfl, by decide +kernel, by decide +kernel⟩
/-- what the law asks of the text as its top has made it -/
structure Top (K : PySem.W.Frag) (mg : Str → Option Value) (cFE : Addr) (cBP : Addr) (cBT : Addr) (cK : Addr) (cW : Addr) (cRd : Addr) : Prop where
  d_cut_noughts : Def K mg "cut_noughts" s_cut_noughts ["numbers"]
  d_trimmed : Def K mg "trimmed" s_trimmed ["kind", "f"]
  d_shown : Def K mg "shown" s_shown ["f"]
  d_term_shown : Def K mg "term_shown" s_term_shown ["number", "power"]
  d_read : Def K mg "read" s_read ["text"]
  d_add_term : Def K mg "add_term" s_add_term ["sums", "factor", "reader"]
  d_product_shown : Def K mg "product_shown" s_product_shown ["content", "pairs"]
  d_product_read : Def K mg "product_read" s_product_read ["text"]
  d_content_read : Def K mg "content_read" s_content_read ["text"]
  d_number_read : Def K mg "number_read" s_number_read ["text", "most_figures"]
  d_is_figures : Def K mg "is_figures" s_is_figures ["text", "most"]
  d_pair_read : Def K mg "pair_read" s_pair_read ["text"]
  d_polynomial_read : Def K mg "polynomial_read" s_polynomial_read ["text"]
  d_often_read : Def K mg "often_read" s_often_read ["text"]
  d_cell_at : Def K mg "_law_cell_at" s_cell_at ["_law_script", "_law_k"]
  d_whole : Def K mg "_law_whole" s_whole ["_law_found"]
  d_term : Def K mg "_law_term" s_term ["_law_number", "_law_k"]
  d_law_shown : Def K mg "_law_shown" s_law_shown ["_law_row"]
  d_product : Def K mg "_law_product" s_product ["_law_content", "_law_pairs"]
  d_number_by : Def K mg "_law_number_by" s_number_by ["_law_cell"]
  d_often_by : Def K mg "_law_often_by" s_often_by ["_law_cell"]
  d_pair : Def K mg "_law_pair" s_pair ["_law_script", "_law_k"]
  d_form : Def K mg "_law_form" s_form ["_law_row"]
  d_right : Def K mg "_law_right" s_right ["_law_found", "_law_content", "_law_pairs"]
  d_refused : Def K mg "_law_refused" s_refused ["_law_text"]
  b_len : mg "len" = none
  b_range : mg "range" = none
  b_isinstance : mg "isinstance" = none
  b_bool : mg "bool" = none
  b_int : mg "int" = none
  b_list : mg "list" = none
  b_str : mg "str" = none
  b_abs : mg "abs" = none
  b_min : mg "min" = none
  b_reversed : mg "reversed" = none
  b_all : mg "all" = none
  b_zip : mg "zip" = none
  b_tuple : mg "tuple" = none
  b_ValueError : mg "ValueError" = none
  g_MOST_FIGURES : ∃ tk, mg "MOST_FIGURES" = some (.int 100 tk)
  g_HIGHEST_POWER : ∃ tk, mg "HIGHEST_POWER" = some (.int 40 tk)
  g_MOST_PAIRS : ∃ tk, mg "MOST_PAIRS" = some (.int 24 tk)
  g_MOST_OFTEN : ∃ tk, mg "MOST_OFTEN" = some (.int 40 tk)
  g_MOST_CONTENT_FIGURES : ∃ tk, mg "MOST_CONTENT_FIGURES" = some (.int 100 tk)
  g_FIGURES : ∃ tk, mg "FIGURES" = some (.str "0123456789" tk)
  i_int_int : PySem.W.kitOne K (.type "int") (.type "int") = some true
  i_int_bool : PySem.W.kitOne K (.type "int") (.type "bool") = some false
  i_list_list : PySem.W.kitOne K (.type "list") (.type "list") = some true
  i_tup_tup : PySem.W.kitOne K (.type "tuple") (.type "tuple") = some true
  i_bp_bp : PySem.W.kitOne K (.ref cBP) (.ref cBP) = some true
  i_bp_ve : PySem.W.kitOne K (.ref cBP) (.type "ValueError") = some true
  m_ForgeError : mg "ForgeError" = some (.ref cFE)
  u_ForgeError : ClsB K cFE
  m_BadProduct : mg "BadProduct" = some (.ref cBP)
  x_BadProduct : ExcC K cBP
  k_BadProduct : ErrK K cBP
  m_BadText : mg "BadText" = some (.ref cBT)
  na_BadText_place : NoAttr K cBT "place"
  m_Kind : mg "Kind" = some (.ref cK)
  m_Wholes : mg "Wholes" = some (.ref cW)
  cl_Wholes : Cls K cW
  na_Wholes_size : NoAttr K cW "size"
  m_Reader : mg "Reader" = some (.ref cRd)
  cl_Reader : Cls K cRd
  na_Reader_text : NoAttr K cRd "text"
  na_Reader_place : NoAttr K cRd "place"
  y_bp : PySem.W.exmOne K (.ref cBP) (.ref cFE) = some true
  f_BadText_init : ∃ f fd, Fun K "__init__" "BadText.__init__" s_BadText_init f fd ∧ Binds K fd ["self", "place"] [] ∧ ErrC K cBT cFE f
  f_Kind_init : ∃ f fd, Fun K "__init__" "Kind.__init__" s_Kind_init f fd ∧ Binds K fd ["self", "size"] [] ∧ ClsFn K cK "__init__" f
  f_Wholes_init : ∃ f fd, Fun K "__init__" "Wholes.__init__" s_Wholes_init f fd ∧ Binds K fd ["self"] [] ∧ Mk K cW f
  f_Wholes_plain : ∃ f fd, Fun K "plain" "Wholes.plain" s_Wholes_plain f fd ∧ Binds K fd ["self", "number"] [] ∧ Meth K cW "plain" f
  f_Reader_init : ∃ f fd, Fun K "__init__" "Reader.__init__" s_Reader_init f fd ∧ Binds K fd ["self", "text"] [] ∧ Mk K cRd f
  f_Reader_at_end : ∃ f fd, Fun K "at_end" "Reader.at_end" s_Reader_at_end f fd ∧ Binds K fd ["self"] [] ∧ Meth K cRd "at_end" f
  f_Reader_stands : ∃ f fd, Fun K "stands" "Reader.stands" s_Reader_stands f fd ∧ Binds K fd ["self", "signs"] [] ∧ Meth K cRd "stands" f
  f_Reader_taken : ∃ f fd, Fun K "taken" "Reader.taken" s_Reader_taken f fd ∧ Binds K fd ["self", "signs"] [] ∧ Meth K cRd "taken" f
  f_Reader_skip_blanks : ∃ f fd, Fun K "skip_blanks" "Reader.skip_blanks" s_Reader_skip_blanks f fd ∧ Binds K fd ["self"] [] ∧ Meth K cRd "skip_blanks" f
  f_Reader_taken_sign : ∃ f fd, Fun K "taken_sign" "Reader.taken_sign" s_Reader_taken_sign f fd ∧ Binds K fd ["self"] [] ∧ Meth K cRd "taken_sign" f
  f_Reader_taken_number : ∃ f fd, Fun K "taken_number" "Reader.taken_number" s_Reader_taken_number f fd ∧ Binds K fd ["self"] [] ∧ Meth K cRd "taken_number" f
  f_Reader_taken_power : ∃ f fd, Fun K "taken_power" "Reader.taken_power" s_Reader_taken_power f fd ∧ Binds K fd ["self"] [] ∧ Meth K cRd "taken_power" f
  f_Reader_taken_term : ∃ f fd, Fun K "taken_term" "Reader.taken_term" s_Reader_taken_term f fd ∧ Binds K fd ["self"] [] ∧ Meth K cRd "taken_term" f
section
variable {w : World} {K : PySem.W.Frag} {h : Heap} {mg : Str → Option Value} {fa f C : Addr} {od an : Option Addr} {sl : Array (Option Value)} {oc kV dc pm cd ct : Value} {x q : Str} {st : Stmt} {ps : List Str} {cFE : Addr} {cBP : Addr} {cBT : Addr} {cK : Addr} {cW : Addr} {cRd : Addr}
theorem df_mk (X : K.In h) (G : h.Ns mainGlobals mg) (a : PySem.W.nsIn K mainGlobals x = some (some (.ref f))) (l : K.lookup f = some ⟨oc, od, .func (PySem.W.fnOf x x (defArgs st) (defBody st) (defScope st) .none kV dc pm an cd ct), sl⟩) (c : PySem.W.codeIn K cd x = true) (k : PySem.W.keepIn K (.ref f) = true) (b : ∀ (kV dc pm : Value) (an : Option Addr) (cd ct : Value) (us : List Value), us.length = ps.length → bindArgs (PySem.W.fnOf x x (defArgs st) (defBody st) (defScope st) .none kV dc pm an cd ct) ⟨us, []⟩ = pure (ps.zip us)) : Def K mg x st ps := .mk' (fun_mk l c k) ((fun_mk l c k).binds b) (PySem.W.mg_of X G a)
theorem gi_mk {v : Int} {tk : Tok} (X : K.In h) (G : h.Ns mainGlobals mg) (a : PySem.W.nsIn K mainGlobals x = some (some (.int v tk))) : ∃ tk, mg x = some (.int v tk) := ⟨_, PySem.W.mg_of X G a⟩
theorem gs_mk {v : Str} {tk : Tok} (X : K.In h) (G : h.Ns mainGlobals mg) (a : PySem.W.nsIn K mainGlobals x = some (some (.str v tk))) : ∃ tk, mg x = some (.str v tk) := ⟨_, PySem.W.mg_of X G a⟩
theorem ec_mk {B : Addr} {nm q2 N bs sn sub ab col dcl k0 k1 k2 k3 k5} (o : K.lookup C = some (excClassObj nm q2 C N bs (excM C B).tail true sn sub ab col dcl k0 k1 k2 k3 k5 "ValueError.__new__")) (tl : PySem.W.tailIn K bmV (excM C B).tail = true) (sa : PySem.W.findIn K (.ref C) "__setattr__" = some (some (.builtin "object.__setattr__"))) (g : PySem.W.findIn K (.ref C) "__init__" = some (some (.ref f))) (l : K.lookup f = some ⟨oc, od, .func (PySem.W.fnOf x q (defArgs st) (defBody st) (defScope st) .none kV dc pm an cd ct), sl⟩) (c : PySem.W.codeIn K cd q = true) (k : PySem.W.keepIn K (.ref f) = true) (n : PySem.W.typeIn K (.ref f) = some (.type "function")) (kc : PySem.W.keepIn K (.ref C) = true) (b : ∀ (kV dc pm : Value) (an : Option Addr) (cd ct : Value) (us : List Value), us.length = ps.length → bindArgs (PySem.W.fnOf x q (defArgs st) (defBody st) (defScope st) .none kV dc pm an cd ct) ⟨us, []⟩ = pure (ps.zip us)) : ∃ f fd, Fun K x q st f fd ∧ Binds K fd ps [] ∧ ErrC K C B f := ⟨_, _, fun_mk l c k, (fun_mk l c k).binds b, ⟨_, _, _, _, _, _, _, _, _, _, _, _, _, _, o⟩, tl, sa, g, n, kc⟩
theorem mt1_mk {C0 : Addr} (g0 : PySem.W.findIn K (.ref C0) x = some (some (.ref f))) (l : K.lookup f = some ⟨oc, od, .func (PySem.W.fnOf x q (defArgs st) (defBody st) (defScope st) .none kV dc pm an cd ct), sl⟩) (c : PySem.W.codeIn K cd q = true) (k : PySem.W.keepIn K (.ref f) = true) (n : PySem.W.isFn K (.ref f) = true) (b : ∀ (kV dc pm : Value) (an : Option Addr) (cd ct : Value) (us : List Value), us.length = ps.length → bindArgs (PySem.W.fnOf x q (defArgs st) (defBody st) (defScope st) .none kV dc pm an cd ct) ⟨us, []⟩ = pure (ps.zip us)) : ∃ f fd, Fun K x q st f fd ∧ Binds K fd ps [] ∧ Meth K C0 x f := ⟨_, _, fun_mk l c k, (fun_mk l c k).binds b, ⟨g0, n, k⟩⟩
theorem in_mk (g : PySem.W.findIn K (.ref C) "__init__" = some (some (.ref f))) (l : K.lookup f = some ⟨oc, od, .func (PySem.W.fnOf x q (defArgs st) (defBody st) (defScope st) .none kV dc pm an cd ct), sl⟩) (c : PySem.W.codeIn K cd q = true) (k : PySem.W.keepIn K (.ref f) = true) (m : PySem.W.makesIn K C = true) (n : PySem.W.isFn K (.ref f) = true) (kc : PySem.W.keepIn K (.ref C) = true) (b : ∀ (kV dc pm : Value) (an : Option Addr) (cd ct : Value) (us : List Value), us.length = ps.length → bindArgs (PySem.W.fnOf x q (defArgs st) (defBody st) (defScope st) .none kV dc pm an cd ct) ⟨us, []⟩ = pure (ps.zip us)) : ∃ f fd, Fun K x q st f fd ∧ Binds K fd ps [] ∧ Mk K C f := ⟨_, _, fun_mk l c k, (fun_mk l c k).binds b, m, g, n, kc⟩
theorem cf_mk (g : PySem.W.findCls K (.ref C) (.type "type") "__init__" = some (.val (.ref f))) (l : K.lookup f = some ⟨oc, od, .func (PySem.W.fnOf x q (defArgs st) (defBody st) (defScope st) .none kV dc pm an cd ct), sl⟩) (c : PySem.W.codeIn K cd q = true) (k : PySem.W.keepIn K (.ref f) = true) (m : PySem.W.specialIn K (.ref C) "__getattribute__" = some (some (.builtin "type.__getattribute__"))) (n : PySem.W.readsIn K C (.type "type") = true) (b : ∀ (kV dc pm : Value) (an : Option Addr) (cd ct : Value) (us : List Value), us.length = ps.length → bindArgs (PySem.W.fnOf x q (defArgs st) (defBody st) (defScope st) .none kV dc pm an cd ct) ⟨us, []⟩ = pure (ps.zip us)) : ∃ f fd, Fun K x q st f fd ∧ Binds K fd ps [] ∧ ClsFn K C "__init__" f := ⟨_, _, fun_mk l c k, (fun_mk l c k).binds b, m, n, g, k⟩
theorem na_mk (h : PySem.W.findIn K (.ref C) x = some none) : NoAttr K C x := h
theorem xc_mk (h : PySem.W.excIn K C bmV "ValueError.__new__" = true) : ExcC K C := h
noncomputable def AMk : Prop := ∀ {P : Program} {w : World} {K : PySem.W.Frag} {mg : Str → Option Value} {base : Heap} {cFE : Addr} {cBP : Addr} {cBT : Addr} {cK : Addr} {cW : Addr} {cRd : Addr}, Top K mg cFE cBP cBT cK cW cRd → ∀ {f : Addr} {fd : FuncData}, Fun K "law" "law" s_law f fd → FnOk P w K mg base CX0 14 f fd ["_law_script"] (spLaw2 K)
theorem am {r : PySem.W.OpenLaw} (AM : AMk) (X : K.In h) (G : h.Ns mainGlobals mg) (hfa : mg "law" = some (.ref fa)) (T : Top K mg cFE cBP cBT cK cW cRd) (a : PySem.W.nsIn K mainGlobals "law" = some (some (.ref f))) (l : K.lookup f = some ⟨oc, od, .func (PySem.W.fnOf "law" "law" (defArgs s_law) (defBody s_law) (defScope s_law) .none kV dc pm an cd ct), sl⟩) (c : PySem.W.codeIn K cd "law" = true) (k : PySem.W.keepIn K (.ref f) = true) : ∃ fd : FuncData, (∀ (s : Shared) (v : Value), BindsTo s fd ⟨[v], []⟩ [("_law_script", v)]) ∧ ∀ base : Heap, K.In base → base.Ns mainGlobals mg → FnOk r.prog w K mg base CX0 14 fa fd ["_law_script"] (spLaw2 K) := by
  have e := hfa.symm.trans (PySem.W.mg_of X G a)
  cases e
  exact ⟨_, fun s v => .of_eq rfl, fun base _ _ => AM T (fun_mk l c k)⟩
theorem bn1 {Q : List Value → Prop} (h : ∀ a, Q [a]) : ∀ us : List Value, us.length = 1 → Q us := fun us hl => match us, hl with | [a], _ => h a
theorem bn2 {Q : List Value → Prop} (h : ∀ a b, Q [a, b]) : ∀ us : List Value, us.length = 2 → Q us := fun us hl => match us, hl with | [a, b], _ => h a b
theorem bn3 {Q : List Value → Prop} (h : ∀ a b c, Q [a, b, c]) : ∀ us : List Value, us.length = 3 → Q us := fun us hl => match us, hl with | [a, b, c], _ => h a b c
end
theorem walk {l : PySem.W.OpenLaw} {q : Program} {loose : List Str} {XP : (Str → Option Value) → Heap → Prop} {YP : World → Heap → Prop} {d : DefRec} {K : Params → PySem.W.Frag} (hn : l.most = some 63) (hdf : d.params.defaults = [])
    (hY : ∀ (w : World) (h : Heap), YP w h → (K w.params).In h) (hL : ∀ (w : World) (h : Heap), YP w h → LamOk (K w.params) h)
    (F : ∀ (w : World) (mg : Str → Option Value) (fa : Addr) (h : Heap), (K w.params).In h → h.Ns mainGlobals mg → mg d.name = some (.ref fa) →
      ∃ fd : FuncData, (∀ (s : Shared) (u : Value), BindsTo s fd ⟨[u], []⟩ [("_law_script", u)]) ∧ ∀ base : Heap, (K w.params).In base → base.Ns mainGlobals mg → FnOk l.prog w (K w.params) mg base CX0 14 fa fd ["_law_script"] (spLaw2 (K w.params))) :
    PySem.W.WalkO q loose XP YP l.row.toRowW d [] (fun f vs => PySem.call f vs) :=
  L2.walk_of2 (n := 63) (k := 14) (x := "_law_script") (CX := fun _ => CX0) (sp := fun w => spLaw2 (K w.params)) hn (by decide) hdf ⟨rfl, by decide, by decide⟩ hY F hL (fun _ _ a ns hl hb hS => ⟨a, ns, rfl, hS, hl, hb, fun _ => rfl⟩) fun _ _ _ _ _ z => z
end K82
section
local macro_rules | `(tactic| o_head $H) => `(tactic| (refine PySem.W.holds_open (q := K82.view) (loose := []) (Xt := fun s => PySem.W.xlAt K82.view [] s && PySem.W.recOk (PySem.W.RowW.records PySem.Challenge.rw_factorforge_k82_product_read.row.toRowW) s) (XP := PySem.W.XL K82.view []) (Yf := PySem.W.Hook.obs $H) (Ya := PySem.W.Hook.val $H) (YP := PySem.W.Hook.says $H) (N := 20000) ?hl (PySem.W.Hook.of $H) (PySem.W.Hook.keeps $H) (fun s e => PySem.W.xl_of s (Bool.and_eq_true_iff.mp e).1) PySem.W.XL.keeps (by rfl) (by rfl) (by rfl) (fun s e => PySem.W.recFacts_of (Bool.and_eq_true_iff.mp e).2) (by rfl) (by first | assumption | decide +kernel) (by decide +kernel) ⟨rfl, rfl, rfl, rfl, rfl, by decide +kernel⟩ ?hw ?hc; (case hl => (intro w; exact K82.fin w (by kernel_rfl)))))
local macro_rules | `(tactic| walk_at "bnd") => `(tactic| (first | exact fun _ _ _ _ _ _ => K82.bn1 fun _ => rfl | exact fun _ _ _ _ _ _ => K82.bn2 fun _ _ => rfl | exact fun _ _ _ _ _ _ => K82.bn3 fun _ _ _ => rfl))
open PySem PySem.W PyProof.Rows
set_option maxRecDepth 100000 in
set_option maxHeartbeats 0 in
theorem K82.pre (AM : K82.AMk) : PySem.Challenge.rw_factorforge_k82_product_read.Holds := by
  w_on; o_law; k_head; (rotate_left; rotate_right); (· w_witness2)
  k_fill
  refine K82.walk (l := PySem.Challenge.rw_factorforge_k82_product_read) rfl rfl (fun w h Y => PySem.W.kIn_of Y) (fun w h Y => L3.lamOk_nil (by kernel_rfl)) ?F
  case F =>
    intro w mg fa h KX G hmg
    refine' K82.am AM KX G hmg ?T ?a ?l ?c ?k
    case a => k_is
    case l => k_is
    case c => k_is
    case k => k_is
    case T =>
      constructor
      case m_ForgeError => (refine' PySem.W.mg_of KX G ?a; (case a => k_is))
      case m_BadProduct => (refine' PySem.W.mg_of KX G ?a; (case a => k_is))
      case m_BadText => (refine' PySem.W.mg_of KX G ?a; (case a => k_is))
      case m_Kind => (refine' PySem.W.mg_of KX G ?a; (case a => k_is))
      case m_Wholes => (refine' PySem.W.mg_of KX G ?a; (case a => k_is))
      case m_Reader => (refine' PySem.W.mg_of KX G ?a; (case a => k_is))
      all_goals first | (refine' K82.df_mk KX G ?a ?l ?c ?k ?b; (case a => k_is); (case l => k_is); (case c => k_is); (case k => k_is); (case b => walk_at "bnd")) | (refine' K82.lm_mk KX G ?a ?l ?c; (case a => k_is); (case l => k_is); (case c => kernel_rfl)) | (refine' PySem.W.mg_none_of KX G ?a; (case a => k_is)) | (refine' K82.gi_mk KX G ?a; (case a => k_is)) | (refine' K82.gs_mk KX G ?a; (case a => k_is)) | (refine' K82.ec_mk ?o ?tl ?sa ?g ?l ?c ?k ?n ?kc ?b; (case o => k_is); (case g => k_is); (case l => k_is); (case c => k_is); (case k => k_is); (case n => k_is); (case kc => k_is); (case sa => k_is); (case tl => kernel_rfl); (case b => walk_at "bnd")) | (refine' K82.mt1_mk ?g0 ?l ?c ?k ?n ?b; (case g0 => k_is); (case l => k_is); (case c => k_is); (case k => k_is); (case n => k_is); (case b => walk_at "bnd")) | (refine' K82.in_mk ?g ?l ?c ?k ?m ?n ?kc ?b; (case g => k_is); (case l => k_is); (case c => k_is); (case k => k_is); (case m => k_is); (case n => k_is); (case kc => k_is); (case b => walk_at "bnd")) | (refine' K82.cf_mk ?g ?l ?c ?k ?m ?n ?b; (case g => k_is); (case l => k_is); (case c => k_is); (case k => k_is); (case m => k_is); (case n => k_is); (case b => walk_at "bnd")) | (refine' K82.na_mk ?a; (case a => k_is)) | (refine' K82.xc_mk ?a; (case a => k_exc)) | kit_is | kts_exm | (constructor <;> k_is)
end
namespace K82
open PySem L2 L3 PyProof.Rows FM
local macro_rules | `(tactic| walk_at "pn0") => `(tactic| first | omega | (dsimp only; omega) | (dsimp only [List.length_cons, List.length_nil]; omega) | (simp [L2.gI, L2.start] <;> omega))
local macro_rules | `(tactic| walk_at "pn1") => `(tactic| first | exact True.intro | rfl | assumption | decide | decide +kernel | exact L2.mul_okR (by decide) | exact L2.mul_okL (by decide) | exact ⟨by decide, by decide +kernel⟩ | exact ⟨by decide, by decide, by decide⟩ | walk_at "pn0" | exact L2.mul_okR ⟨by walk_at "pn0", by walk_at "pn0"⟩ | exact L2.mul_okL ⟨by walk_at "pn0", by walk_at "pn0"⟩)
local macro_rules | `(tactic| walk_at "pn") => `(tactic| first | (refine ⟨?_, ?_⟩ <;> walk_at "pn") | walk_at "pn1" | (intro _; walk_at "pn"))
local macro_rules | `(tactic| walk_at "xs1") => `(tactic| first | exact True.intro | exact (rfl : _ = some _) | exact (rfl : L3.isI _ _) | exact (rfl : L3.isL _ _) | exact (rfl : L3.isF _ _) | exact (rfl : L3.isK _ _) | exact (rfl : L3.isO _ _) | exact (Or.inl rfl : L3.isLO _ _) | exact (Or.inr (Or.inl rfl) : L3.isLO _ _) | exact (Or.inr (Or.inr rfl) : L3.isLO _ _) | walk_at "pn1")
local macro_rules | `(tactic| walk_at "xs") => `(tactic| first | (refine And.intro ?_ ?_ <;> walk_at "xs") | walk_at "xs1")

section
variable {P : Program} {w : World} {K : PySem.W.Frag} {mg : Str → Option Value} {base : Heap} {cFE cBP cBT cK cW cRd : Addr}
noncomputable def spKInit (K : PySem.W.Frag) : Sp := fun vs H Q _ => ∃ (p C dx : Addr) (z : Int), vs = [.ref p, .int z] ∧ H p = some (.ins C dx []) ∧ Cls K C ∧ NoAttr K C "size" ∧ Q .non (upd H p (.ins C dx [("size", .int z)]))
theorem oc_Kind_init (T : Top K mg cFE cBP cBT cK cW cRd) : OkC P w K mg base CX0 1 "Kind" cK "__init__" ["self", "size"] (spKInit K) := by
  obtain ⟨f, fd, F, b, c⟩ := T.f_Kind_init
  refine ⟨f, fd, F.ok sc_Kind_init (fun vs H Q E h => ?_) (fun cdv A outer s H vs Q E hr h => ?_), b, c, T.m_Kind⟩
  · obtain ⟨p, C, dx, z, rfl, _⟩ := h
    rfl
  obtain ⟨p, C, dx, z, rfl, hp, cl, na, k⟩ := h
  refine ⟨_, (pss_one (ps_fld (pv 0) (pn_var 1) rfl)), ?_⟩
  exact ⟨rfl, _, rfl, p, C, dx, [], rfl, hp, cl, na, by decide, k⟩
theorem oi_Wholes (T : Top K mg cFE cBP cBT cK cW cRd) : OkI P w K mg base CX0 2 "Wholes" cW ["self"] (spNewW cW) := by
  obtain ⟨f, fd, F, b, c⟩ := T.f_Wholes_init
  refine ⟨f, fd, F.ok sc_Wholes_init (fun vs H Q E h => ?_) (fun cdv A outer s H vs Q E hr h => ?_), b, c, T.m_Wholes⟩
  · obtain ⟨p, dx, rfl, _⟩ := h
    rfl
  obtain ⟨p, dx, rfl, hp, k⟩ := h
  refine ⟨_, (pss_one (ps_expr (pe_clsO (oc_Kind_init T) hr pass0 (pa_cons (pv 0) (pa_cons pn_int pa_nil))))), ?_⟩
  exact ⟨_, rfl, True.intro, p, cW, dx, 0, rfl, hp, T.cl_Wholes, T.na_Wholes_size, k⟩
noncomputable def F_plain : Int → List Int → Int := fun z ns => match ns with
  | [n] => pl z n
  | _ => 0
noncomputable abbrev anyK : Int → List Int → Prop := fun _ _ => True
theorem km_plain (T : Top K mg cFE cBP cBT cK cW cRd) : KM P w K mg base 1 (KW cW) "plain" 1 anyK F_plain := by
  refine ⟨fun H a z ka => ?_⟩
  obtain ⟨q0, dx, fs, e, hz, hm⟩ := ka
  subst q0
  refine ⟨cW, dx, fs, ["self", "number"], e, hm "plain" (by decide +kernel), ?_⟩
  obtain ⟨f, fd, F, b, m1⟩ := T.f_Wholes_plain
  refine ⟨f, fd, F.ok sc_Wholes_plain (fun vs H Q E h => ?_) (fun cdv A outer s H vs Q E hr h => ?_), b, m1, T.cl_Wholes⟩
  · obtain ⟨ns, hl, rfl, _⟩ := h
    show (ns.map V.int).length + 1 = 2
    rw [List.length_map, hl]
  · obtain ⟨ns, hl, rfl, _, _, k⟩ := h
    obtain ⟨n, rfl⟩ := len1 hl
    refine ⟨_, (pss_one (ps_ret (pn_var 1))), ?_⟩
    exact ⟨rfl, k⟩

noncomputable def preCell : List Int → List Int → Prop := fun _ is => match is with
  | [k] => 0 ≤ k
  | _ => False
noncomputable def F_cell : List Int → List Int → Int := fun xs is => match is with
  | [k] => xs.getD k.toNat 0
  | _ => 0
theorem ok_cell_at (T : Top K mg cFE cBP cBT cK cW cRd) : Ok P w K mg base 1 "_law_cell_at" ["_law_script", "_law_k"] (spS K 1 preCell F_cell) := by
  refine Def.ok T.d_cell_at sc_cell_at (fun vs H Q E h => ?_) (fun f cdv A outer s H vs Q E hr h => ?_)
  · obtain ⟨a, xs, is, hl, rfl, _⟩ := h
    show (is.map V.int).length + 1 = 2
    rw [List.length_map, hl]
  obtain ⟨sa, ns, is, hl, rfl, hS, hp, k⟩ := h
  obtain ⟨i, rfl⟩ := len1 hl
  have hp : 0 ≤ i := hp
  have k : Q (.int (ns.getD i.toNat 0)) H := k
  refine ⟨_, (pss_cons (ps_ifP (ptn_lt (pn_var 1) (pn_len 0 sa (ns.map V.int) T.b_len))
 (pss_one (ps_ret (pn_item 0 sa ns (pn_var 1) (fun _ _ => rfl))))
 pss_nil)
 (pss_one (ps_ret pn_int))), ?_⟩
  have el : (ns.map V.int).length = ns.length := List.length_map _
  refine ⟨⟨rfl, ⟨rfl, hS⟩⟩, fun q => ?_, fun q => ?_⟩
  · have q : i < ((ns.map V.int).length : Int) := q
    refine ⟨⟨rfl, rfl, hS, ?_, ?_⟩, ?_⟩
    · show -(ns.length : Int) ≤ i
      omega
    · show i < (ns.length : Int)
      omega
    · show Q (.int (ns.getD (if 0 ≤ i then i else i + ns.length).toNat 0)) H
      rw [if_pos hp]
      exact k
  · have q : ¬ i < ((ns.map V.int).length : Int) := q
    have e : ns.getD i.toNat 0 = 0 := by
      rw [List.getD_eq_getElem?_getD, List.getElem?_eq_none (by omega)]; rfl
    rw [e] at k
    exact ⟨True.intro, k⟩
theorem kx_cell_at (T : Top K mg cFE cBP cBT cK cW cRd) : Ok P w K mg base 1 "_law_cell_at" ["_law_script", "_law_k"] (spFI K (G82 cW) (L3.preS 1 preCell) fun as => F_cell (scrI as) (allI as.tail)) := liftS (ok_cell_at T)

/-! ### noughts at the end are cut -/
theorem trimZ_step (h : ns ≠ []) (h0 : ns.getD (ns.length - 1) 0 = 0) : trimZ ns.dropLast = trimZ ns := by
  have e : ns = ns.dropLast ++ [0] := by
    have e1 := List.dropLast_concat_getLast h
    have e2 : ns.getLast h = 0 := by
      rw [List.getLast_eq_getElem]
      rw [List.getD_eq_getElem?_getD, List.getElem?_eq_getElem (by have := List.length_pos_iff.mpr h; omega)] at h0
      exact h0
    rw [e2] at e1
    exact e1.symm
  rw [e, trimZ_zero, List.dropLast_concat]
theorem trimZ_done (h : ¬ (ns ≠ [] ∧ ns.getD (ns.length - 1) 0 = 0)) : trimZ ns = ns := by
  by_cases c : ns = []
  · rw [c]; rfl
  · have h0 : ¬ ns.getD (ns.length - 1) 0 = 0 := fun z => h ⟨c, z⟩
    have e1 := List.dropLast_concat_getLast c
    have e2 : ns.getLast c ≠ 0 := by
      rw [List.getLast_eq_getElem]
      rw [List.getD_eq_getElem?_getD, List.getElem?_eq_getElem (by have := List.length_pos_iff.mpr c; omega)] at h0
      exact h0
    rw [← e1, trimZ_ne _ e2]
theorem last_at (ns : List Int) (h : ns ≠ []) : ixO ns.length (-1) = ns.length - 1 := by
  have := List.length_pos_iff.mpr h
  unfold ixO
  rw [if_neg (by omega)]
  omega

/-! ### polynomials: trimmed, value, slope -/
theorem kx_cut_noughts (T : Top K mg cFE cBP cBT cK cW cRd) : Ok P w K mg base 1 "cut_noughts" ["numbers"] (spM (fun _ => True) trimZ) := by
  refine Def.ok T.d_cut_noughts sc_cut_noughts (fun vs H Q E h => ?_) (fun f cdv A outer s H vs Q E hr h => ?_)
  · obtain ⟨a, ns, rfl, _⟩ := h
    rfl
  obtain ⟨a, ns, rfl, hH, _, q⟩ := h
  refine ⟨_, (pss_one (ps_while PassesOwn.never (pw_and (pt_truth (pv 0) (fun _ => rfl)) (pw_and1 (pt_cmpR op_eq (pe_item 0 (pn_neg pn_int) (fun _ _ => rfl)) pn_int (nomark _)))).pt
 (pss_one (ps_expr (pe_bm0 PySem.F.plainAttrs_list PySem.F.slot_list_pop PySem.F.type_list_pop mt_pop (pv 0)))))), ?_⟩
  refine ⟨fun m σ H' => σ = [some (.ref a)] ∧ ∃ ms, m = ms.length ∧ H' = upd H a (.lst (ms.map V.int)) ∧ trimZ ms = trimZ ns, ⟨ns.length, rfl, ns, rfl, ?_, rfl⟩, ?_⟩
  · funext b
    by_cases c : b = a
    · rw [c, upd_same, hH]
    · rw [upd_ne c]
  rintro m σ H' ⟨rfl, ms, rfl, rfl, hm⟩
  refine ⟨_, rfl, _, .inl ⟨_, SqL.of upd_same, rfl⟩, ?_⟩
  by_cases c : ms = []
  · subst c
    refine iteF ?_
    refine iteF ?_
    refine q _ (fun b o hb e => ?_) ?_
    · rw [upd_ne hb]; exact e
    · rw [upd_same, ← hm]; rfl
  · have hlen := List.length_pos_iff.mpr c
    have e1 : (!(ms.map V.int).isEmpty) = true := by cases ms <;> simp at c ⊢
    rw [e1]
    refine iteT ?_
    refine ⟨True.intro, a, ms, ms.getD (ms.length - 1) 0, rfl, SqL.of upd_same, ?_, ?_⟩
    · have z := getD_at (ns := ms) (i := -1) (by omega) (by omega)
      show atI (ms.map V.int) (-1) = _
      rw [z, if_neg (by omega)]
      have : (-1 + (ms.length : Int)).toNat = ms.length - 1 := by omega
      rw [this]
    refine ⟨True.intro, rfl, _, rfl, ?_⟩
    by_cases d : ms.getD (ms.length - 1) 0 = 0
    · have e2 : decide (V.int (ms.getD (ms.length - 1) 0) = V.int 0) = true := decide_eq_true (by rw [d])
      rw [e2]
      refine iteT ?_
      refine ⟨fun σ H' => σ = [some (.ref a)] ∧ H' = upd H a (.lst (ms.dropLast.map V.int)), ?_, ?_⟩
      · rintro σ' H' ⟨rfl, rfl⟩
        refine ⟨ms.dropLast.length, by rw [List.length_dropLast]; omega, rfl, _, rfl, rfl, ?_⟩
        rw [← hm]; exact trimZ_step c d
      · refine ⟨_, rfl, .inl ⟨rfl, _, SqL.of upd_same⟩, a, _, V.int (ms[ms.length - 1]'(by omega)), rfl, rfl, upd_same, ?_, rfl, ?_⟩
        · rw [List.length_map, List.getElem?_map, List.getElem?_eq_getElem (by omega)]
          rfl
        · rw [upd_upd, List.map_dropLast]
    · have e2 : decide (V.int (ms.getD (ms.length - 1) 0) = V.int 0) = false := decide_eq_false (by intro z; exact d (by injection z))
      rw [e2]
      refine iteF ?_
      refine q _ (fun b o hb e => ?_) ?_
      · rw [upd_ne hb]; exact e
      · rw [upd_same, ← hm, trimZ_done fun z => d z.2]
theorem kx_trimmed (T : Top K mg cFE cBP cBT cK cW cRd) : Ok P w K mg base 2 "trimmed" ["kind", "f"] (spL K (G82 cW) (fun as => ∃ z f, as = [.ob 0 z, .ints f] ∧ f.length ≤ 1000) fun as => match as with
    | [.ob 0 z, .ints f] => trimZ (f.map (pl z))
    | _ => []) := by
  refine okL T.d_trimmed sc_trimmed (fun as ⟨a, b, h, _⟩ => by rw [h]; rfl) (fun f cdv A outer s H E hr => ⟨_, (xss_cons (xst_lcL (i := 2) sc_trimmed.nd rfl rfl (N' := ["number", "kind"]) (cap := [some 0]) (lc_ok rfl rfl rfl rfl ⟨⟨rfl, Or.inr (Or.inl rfl), (fun z => nomatch (show (some NameKind.cell : Option NameKind) = some NameKind.local from z)), Or.inl rfl, _, rfl, rfl⟩, True.intro⟩ ⟨rfl, True.intro⟩ rfl) rfl (xl 1) (fun _ _ _ => (pg_name (i := 0) (show (["number", "kind"] : List Str).Nodup by decide +kernel) rfl (Or.inl rfl) (.inr rfl))) (fun _ _ _ => (xn_kmeth 1 (km_plain T) hr (xa_cons (xn 0) xa_nil))) rfl)
 (xss_cons (xst_mut 2 (kx_cut_noughts T) hr)
 (xss_one (xst_retO 2)))), fun as hp => ?_⟩)
  obtain ⟨z, f, rfl, hf⟩ := hp
  refine ⟨⟨rfl, hf, fun n _ => ⟨rfl, ⟨rfl, True.intro⟩, True.intro, True.intro⟩⟩, fun ns e => ?_⟩
  have e : ns = f.map (pl z) := e
  refine ⟨rfl, True.intro, rfl, ?_⟩
  show trimZ ns = trimZ (f.map (pl z))
  rw [e]

/-! ### texts of polynomials: the law's states and the reader -/
inductive Rst where
  | start | sign | num (k : Nat) | zero | x | caret | one (d : Nat) | two | behind
noncomputable def isF (c : Nat) : Bool := decide (48 ≤ c) && decide (c ≤ 57)
noncomputable def nxF : Rst → Nat → Option Rst
  | .start, c => some (if c = 48 then .zero else .num 1)
  | .sign, c => some (if c = 48 then .zero else .num 1)
  | .num k, _ => if k < 100 then some (.num (k + 1)) else none
  | .caret, c => some (.one (c - 48))
  | .one d, c => if (0 < d ∧ d < 4) ∨ (d = 4 ∧ c = 48) then some .two else none
  | _, _ => none
noncomputable def nxB : Rst → Option Rst
  | .start => some .start
  | .sign => some .sign
  | .caret => none
  | _ => some .behind
noncomputable def nxS : Rst → Option Rst
  | .sign => none
  | .caret => none
  | _ => some .sign
noncomputable def nxX : Rst → Option Rst
  | .start => some .x
  | .sign => some .x
  | .num _ => some .x
  | .zero => some .x
  | _ => none
noncomputable def nxC : Rst → Option Rst
  | .x => some .caret
  | _ => none
noncomputable def nxR (s : Rst) (c : Nat) : Option Rst :=
  if isF c then nxF s c else if c = 32 then nxB s else if c = 43 ∨ c = 45 then nxS s else if c = 120 then nxX s else if c = 94 then nxC s else none
noncomputable def endR : Rst → Bool
  | .start => false
  | .sign => false
  | .caret => false
  | _ => true
/-- how many signs are left where a text is bad -/
noncomputable def plc : Rst → List Nat → Option Nat
  | s, [] => if endR s then none else some 0
  | s, c :: r => match nxR s c with
    | none => some (r.length + 1)
    | some s' => plc s' r
inductive Rr (α : Type) where
  | ok (a : α) (r : List Nat) | bad (m : Nat)
noncomputable def skipB : List Nat → List Nat
  | [] => []
  | c :: r => if c = 32 then skipB r else c :: r
noncomputable def figs : Nat → List Nat → List Nat × List Nat
  | 0, l => ([], l)
  | _ + 1, [] => ([], [])
  | m + 1, c :: r => if isF c then (c :: (figs m r).1, (figs m r).2) else ([], c :: r)
noncomputable def takeN : List Nat → Rr (List Nat)
  | [] => .bad 0
  | c :: r => if isF c then (if c = 48 then .ok [48] r else .ok (c :: (figs 99 r).1) (figs 99 r).2) else .bad (r.length + 1)
noncomputable def takeP : List Nat → Rr (List Nat)
  | [] => .bad 0
  | [c] => if isF c then .ok [c] [] else .bad 1
  | c :: c' :: r => if isF c then (if c ≠ 48 ∧ isF c' = true ∧ 10 * (c - 48) + (c' - 48) ≤ 40 then .ok [c, c'] r else .ok [c] (c' :: r)) else .bad (r.length + 2)
/-- a term: its figures (none: 1), behind an x, the power's figures -/
noncomputable abbrev Trm := List Nat × Option (List Nat)
noncomputable def takeX (ds : List Nat) : List Nat → Rr Trm
  | [] => .ok (ds, some []) []
  | c :: r => if c = 94 then (match takeP r with
    | .bad m => .bad m
    | .ok ps r' => .ok (ds, some ps) r') else .ok (ds, some []) (c :: r)
noncomputable def takeR (ds : List Nat) : List Nat → Rr Trm
  | [] => .ok (ds, none) []
  | c :: r => if c = 120 then takeX ds r else .ok (ds, none) (c :: r)
noncomputable def takeT : List Nat → Rr Trm
  | [] => .bad 0
  | c :: r => if c = 120 then takeX [] r else match takeN (c :: r) with
    | .bad m => .bad m
    | .ok ds r' => takeR ds r'
noncomputable def rdL : Nat → List Nat → Except Nat (List (Bool × Trm))
  | 0, _ => .ok []
  | n + 1, l => match skipB l with
    | [] => .ok []
    | c :: r => if c = 43 ∨ c = 45 then (match takeT (skipB r) with
      | .bad m => .error m
      | .ok t r' => match rdL n r' with
        | .error m => .error m
        | .ok ts => .ok ((decide (c = 45), t) :: ts)) else .error (r.length + 1)
noncomputable def rd1 (g : Bool) (l : List Nat) : Except Nat (List (Bool × Trm)) := match takeT l with
  | .bad m => .error m
  | .ok t r' => match rdL (r'.length + 1) r' with
    | .error m => .error m
    | .ok ts => .ok ((g, t) :: ts)
noncomputable def rdA (l : List Nat) : Except Nat (List (Bool × Trm)) := match skipB l with
  | [] => rd1 false []
  | c :: r => if c = 43 ∨ c = 45 then rd1 (decide (c = 45)) (skipB r) else rd1 false (c :: r)
/-- behind a term: what its last state does as behind -/
structure Like (s : Rst) (l : List Nat) : Prop where
  e : endR s = true
  h : ∀ c r, l = c :: r → nxR s c = nxR .behind c
theorem skipB_head : ∀ {l : List Nat} {c : Nat} {r : List Nat}, skipB l = c :: r → c ≠ 32
  | [], _, _, h => by cases h
  | d :: l, c, r, h => by
    unfold skipB at h
    split at h
    · exact skipB_head h
    · rename_i q; cases h; exact q
theorem skipB_len : ∀ l : List Nat, (skipB l).length ≤ l.length
  | [] => Nat.le_refl _
  | d :: l => by
    unfold skipB
    split
    · exact Nat.le_trans (skipB_len l) (Nat.le_succ _)
    · exact Nat.le_refl _
theorem figs_len : ∀ (m : Nat) (l : List Nat), (figs m l).2.length ≤ l.length
  | 0, _ => Nat.le_refl _
  | _ + 1, [] => Nat.le_refl _
  | m + 1, c :: r => by
    unfold figs
    split
    · exact Nat.le_trans (figs_len m r) (Nat.le_succ _)
    · exact Nat.le_refl _
theorem takeP_len {l ps r : List Nat} (h : takeP l = .ok ps r) : r.length ≤ l.length := by
  unfold takeP at h
  split at h
  · cases h
  · split at h
    · cases h; exact Nat.zero_le _
    · cases h
  · split at h
    · split at h
      · cases h; exact Nat.le_trans (Nat.le_succ _) (Nat.le_succ _)
      · cases h; exact Nat.le_succ _
    · cases h
theorem takeX_len {ds l r : List Nat} {t : Trm} (h : takeX ds l = .ok t r) : r.length ≤ l.length := by
  unfold takeX at h
  split at h
  · cases h; exact Nat.le_refl _
  · split at h
    · split at h
      · cases h
      · rename_i e
        cases h
        exact Nat.le_trans (takeP_len e) (Nat.le_succ _)
    · cases h; exact Nat.le_refl _
theorem takeR_len {ds l r : List Nat} {t : Trm} (h : takeR ds l = .ok t r) : r.length ≤ l.length := by
  unfold takeR at h
  split at h
  · cases h; exact Nat.le_refl _
  · split at h
    · exact Nat.le_trans (takeX_len h) (Nat.le_succ _)
    · cases h; exact Nat.le_refl _
theorem takeN_len {ds l r : List Nat} (h : takeN l = .ok ds r) : r.length ≤ l.length := by
  unfold takeN at h
  split at h
  · cases h
  · split at h
    · split at h
      · cases h; exact Nat.le_succ _
      · cases h; exact Nat.le_trans (figs_len _ _) (Nat.le_succ _)
    · cases h
theorem takeT_len {l r : List Nat} {t : Trm} (h : takeT l = .ok t r) : r.length ≤ l.length := by
  unfold takeT at h
  split at h
  · cases h
  · split at h
    · exact Nat.le_trans (takeX_len h) (Nat.le_succ _)
    · split at h
      · cases h
      · rename_i e
        exact Nat.le_trans (takeR_len h) (takeN_len e)
/-! ### texts of polynomials: the pieces that the law sums -/
noncomputable def txT : Trm → List Nat
  | (ds, none) => ds
  | (ds, some []) => ds ++ [120]
  | (ds, some (p :: ps)) => ds ++ 120 :: 94 :: p :: ps
noncomputable def fv (ds : List Nat) : Nat := ds.foldl (fun a c => 10 * a + (c - 48)) 0
structure GoodT (t : Trm) : Prop where
  figs : ∀ c ∈ t.1, isF c = true
  few : t.1.length ≤ 100
  some : t.1 = [] → t.2 ≠ none
  pow : ∀ ps, t.2 = .some ps → (∀ c ∈ ps, isF c = true) ∧ ps.length ≤ 2 ∧ fv ps ≤ 40
theorem isF_iff {c : Nat} : isF c = true ↔ 48 ≤ c ∧ c ≤ 57 := by simp [isF]
theorem figs_tx : ∀ (m : Nat) (l : List Nat), l = (figs m l).1 ++ (figs m l).2 ∧ (∀ c ∈ (figs m l).1, isF c = true) ∧ (figs m l).1.length ≤ m
  | 0, _ => ⟨rfl, (fun _ h => by cases h), Nat.le_refl _⟩
  | _ + 1, [] => ⟨rfl, (fun _ h => by cases h), Nat.zero_le _⟩
  | m + 1, c :: r => by
    obtain ⟨h1, h2, h3⟩ := figs_tx m r
    unfold figs
    split
    · rename_i q
      refine ⟨by rw [List.cons_append, ← h1], fun d hd => ?_, Nat.succ_le_succ h3⟩
      rcases List.mem_cons.mp hd with rfl | hd
      · exact q
      · exact h2 d hd
    · exact ⟨rfl, (fun _ h => by cases h), Nat.zero_le _⟩
theorem takeP_tx {l ps r : List Nat} (h : takeP l = .ok ps r) : l = ps ++ r ∧ ps ≠ [] ∧ (∀ c ∈ ps, isF c = true) ∧ ps.length ≤ 2 ∧ fv ps ≤ 40 := by
  have one : ∀ c, isF c = true → fv [c] ≤ 40 := fun c q => by
    have := isF_iff.mp q
    show 10 * 0 + (c - 48) ≤ 40
    omega
  unfold takeP at h
  split at h
  · cases h
  · split at h
    · rename_i q
      cases h
      exact ⟨rfl, (fun z => nomatch z), (fun d hd => by rw [List.mem_singleton.mp hd]; exact q), Nat.le_succ _, one _ q⟩
    · cases h
  · split at h
    · rename_i q
      split at h
      · rename_i z
        cases h
        refine ⟨rfl, (fun z => nomatch z), fun d hd => ?_, Nat.le_refl _, ?_⟩
        · rcases List.mem_cons.mp hd with rfl | hd
          · exact q
          · rw [List.mem_singleton.mp hd]; exact z.2.1
        · have := z.2.2
          unfold fv
          simp only [List.foldl_cons, List.foldl_nil]
          omega
      · cases h
        exact ⟨rfl, (fun z => nomatch z), (fun d hd => by rw [List.mem_singleton.mp hd]; exact q), Nat.le_succ _, one _ q⟩
    · cases h
theorem takeX_tx {ds l r : List Nat} {t : Trm} (h : takeX ds l = .ok t r) (hd : ∀ c ∈ ds, isF c = true) (hl : ds.length ≤ 100) : ds ++ 120 :: l = txT t ++ r ∧ GoodT t := by
  have e0 : GoodT (ds, some []) := ⟨hd, hl, fun _ => (fun z => nomatch z), fun ps e => by cases e; exact ⟨(fun _ h => by cases h), by decide, by decide⟩⟩
  unfold takeX at h
  split at h
  · cases h; exact ⟨by show _ = ds ++ [120] ++ []; rw [List.append_nil], e0⟩
  · split at h
    · rename_i z
      split at h
      · cases h
      · rename_i ps r' e
        cases h
        obtain ⟨h1, h2, h3⟩ := takeP_tx e
        cases ps with
        | nil => exact absurd rfl h2
        | cons p ps =>
          refine ⟨?_, hd, hl, fun _ => (fun z => nomatch z), fun ps' e => by cases e; exact h3⟩
          show _ = ds ++ 120 :: 94 :: p :: ps ++ r
          rw [z, h1]
          simp
    · cases h
      exact ⟨by show _ = ds ++ [120] ++ _; simp, e0⟩
theorem takeR_tx {ds l r : List Nat} {t : Trm} (h : takeR ds l = .ok t r) (hd : ∀ c ∈ ds, isF c = true) (hl : ds.length ≤ 100) (hn : ds ≠ []) : ds ++ l = txT t ++ r ∧ GoodT t := by
  have e0 : GoodT (ds, none) := ⟨hd, hl, fun z => absurd z hn, fun ps e => nomatch e⟩
  unfold takeR at h
  split at h
  · cases h; exact ⟨rfl, e0⟩
  · split at h
    · rename_i z
      rw [z]
      exact takeX_tx h hd hl
    · cases h; exact ⟨rfl, e0⟩
theorem takeN_tx {ds l r : List Nat} (h : takeN l = .ok ds r) : l = ds ++ r ∧ ds ≠ [] ∧ (∀ c ∈ ds, isF c = true) ∧ ds.length ≤ 100 := by
  unfold takeN at h
  split at h
  · cases h
  · rename_i c l'
    split at h
    · rename_i q
      split at h
      · rename_i z
        cases h
        exact ⟨by rw [z]; rfl, (fun z => nomatch z), (fun d hd => by rw [List.mem_singleton.mp hd]; decide), by decide⟩
      · cases h
        obtain ⟨h1, h2, h3⟩ := figs_tx 99 l'
        refine ⟨by rw [List.cons_append, ← h1], (fun z => nomatch z), fun d hd => ?_, Nat.succ_le_succ h3⟩
        rcases List.mem_cons.mp hd with rfl | hd
        · exact q
        · exact h2 d hd
    · cases h
theorem takeT_tx {l r : List Nat} {t : Trm} (h : takeT l = .ok t r) : l = txT t ++ r ∧ GoodT t := by
  unfold takeT at h
  split at h
  · cases h
  · split at h
    · rename_i z
      rw [z]
      exact takeX_tx (ds := []) h (fun _ h => by cases h) (Nat.zero_le _)
    · split at h
      · cases h
      · rename_i ds r' e
        obtain ⟨h1, h2, h3, h4⟩ := takeN_tx e
        rw [h1]
        exact takeR_tx h h3 h4 h2
/-! ### the reader's loop -/
theorem skipB_idem : ∀ l : List Nat, skipB (skipB l) = skipB l
  | [] => rfl
  | c :: r => by
    by_cases h : c = 32
    · rw [show skipB (c :: r) = skipB r from if_pos h]
      exact skipB_idem r
    · have e : skipB (c :: r) = c :: r := if_neg h
      rw [e, e]
theorem rdL_skip (n : Nat) (l : List Nat) : rdL n (skipB l) = rdL n l := by
  cases n with
  | zero => rfl
  | succ n => unfold rdL; rw [skipB_idem]
theorem rdL_fuel : ∀ (n m : Nat) (l : List Nat), l.length < n → l.length < m → rdL n l = rdL m l
  | 0, _, _, h, _ => absurd h (Nat.not_lt_zero _)
  | _ + 1, 0, _, _, h => absurd h (Nat.not_lt_zero _)
  | n + 1, m + 1, l, h1, h2 => by
    unfold rdL
    have hl := skipB_len l
    cases q : skipB l with
    | nil => rfl
    | cons c r =>
      rw [q] at hl
      have hl : r.length + 1 ≤ l.length := hl
      dsimp only
      have hr := skipB_len r
      cases k : takeT (skipB r) with
      | bad m => rfl
      | ok t r' =>
        have hr' := takeT_len k
        dsimp only
        rw [rdL_fuel n m r' (by omega) (by omega)]
noncomputable def rdK (l : List Nat) : Except Nat (List (Bool × Trm)) := rdL (l.length + 1) l
theorem rdK_skip (l : List Nat) : rdK (skipB l) = rdK l := by
  unfold rdK
  rw [rdL_fuel _ (l.length + 1) _ (Nat.lt_succ_self _) (Nat.lt_succ_of_le (skipB_len l)), rdL_skip]
noncomputable def putK (g : Bool) (t : Trm) : Except Nat (List (Bool × Trm)) → Except Nat (List (Bool × Trm))
  | .error m => .error m
  | .ok ts => .ok ((g, t) :: ts)
theorem rdK_bad {c : Nat} {r : List Nat} (h : c ≠ 32) (z : ¬ (c = 43 ∨ c = 45)) : rdK (c :: r) = .error (r.length + 1) := by
  unfold rdK rdL
  have e : skipB (c :: r) = c :: r := by unfold skipB; rw [if_neg h]
  rw [e]
  dsimp only
  rw [if_neg z]
theorem rdK_sign {c : Nat} {r : List Nat} (z : c = 43 ∨ c = 45) : (∀ m, takeT (skipB r) = .bad m → rdK (c :: r) = .error m) ∧ ∀ t r', takeT (skipB r) = .ok t r' → rdK (c :: r) = putK (decide (c = 45)) t (rdK (skipB r')) := by
  have h : ¬ c = 32 := by omega
  have e : skipB (c :: r) = c :: r := by unfold skipB; rw [if_neg h]
  refine ⟨fun m k => ?_, fun t r' k => ?_⟩
  · unfold rdK rdL
    rw [e]
    dsimp only
    rw [if_pos z, k]
  · have hr := skipB_len r
    have hr' := takeT_len k
    rw [rdK_skip]
    unfold rdK
    rw [rdL]
    rw [e]
    dsimp only
    rw [if_pos z, k]
    dsimp only
    rw [rdL_fuel (c :: r).length (r'.length + 1) r' (by show r'.length < r.length + 1; omega) (Nat.lt_succ_self _)]
    cases rdL (r'.length + 1) r' <;> rfl
theorem rd1_K (g : Bool) (l : List Nat) : (∀ m, takeT l = .bad m → rd1 g l = .error m) ∧ ∀ t r', takeT l = .ok t r' → rd1 g l = putK g t (rdK (skipB r')) := by
  refine ⟨fun m k => ?_, fun t r' k => ?_⟩
  · unfold rd1; rw [k]
  · unfold rd1
    rw [k, rdK_skip]
    unfold rdK
    dsimp only
    cases rdL (r'.length + 1) r' <;> rfl
noncomputable def appK (ts : List (Bool × Trm)) : Except Nat (List (Bool × Trm)) → Except Nat (List (Bool × Trm))
  | .error m => .error m
  | .ok us => .ok (ts ++ us)
theorem appK_put (ts : List (Bool × Trm)) (g : Bool) (t : Trm) (r : Except Nat (List (Bool × Trm))) : appK ts (putK g t r) = appK (ts ++ [(g, t)]) r := by
  cases r with
  | error m => rfl
  | ok us => show Except.ok _ = Except.ok _; simp

theorem str_ext {a b : Str} (h : a.cps.toList = b.cps.toList) : a = b := by
  cases a with
  | mk x => cases b with
    | mk y => exact congrArg Str.mk (Array.toList_inj.mp h)
theorem app_cps (a b : Str) : (a ++ b).cps.toList = a.cps.toList ++ b.cps.toList := Array.toList_append
theorem app_assoc' (a b c : Str) : a ++ b ++ c = a ++ (b ++ c) := str_ext (by rw [app_cps, app_cps, app_cps, app_cps, List.append_assoc])
noncomputable abbrev e0 : Str := ""
theorem app_nil' (a : Str) : a ++ e0 = a := str_ext (by rw [app_cps]; exact List.append_nil _)
theorem nil_app (a : Str) : e0 ++ a = a := str_ext (by rw [app_cps]; exact List.nil_append _)
noncomputable def numS (n : Int) : Str := (toString n : Str)
theorem numS_cps (m : Nat) : (numS (m : Int)).cps.toList = (Nat.toDigits 10 m).map Char.toNat := PySem.W.KIN.signs_num m
theorem one_iff {a : Int} (h : 0 ≤ a) : numS a = ("1" : Str) ↔ a = 1 := by
  obtain ⟨m, rfl⟩ := Int.eq_ofNat_of_zero_le h
  refine ⟨fun e => ?_, fun e => ?_⟩
  · have e1 := congrArg (fun s : Str => NumText.digitsVal s.cps.toList) e
    have e2 : NumText.digitsVal (numS (m : Int)).cps.toList = NumText.digitsVal ("1" : Str).cps.toList := e1
    rw [numS_cps, PySem.W.KIN.val_back] at e2
    have e3 : NumText.digitsVal ("1" : Str).cps.toList = 1 := by decide +kernel
    rw [e3] at e2
    omega
  · have : m = 1 := by omega
    subst this
    decide +kernel
theorem numS_len {a : Int} (h : 0 ≤ a) (h2 : a < 10 ^ 100) : 1 ≤ (numS a).length ∧ (numS a).length ≤ 100 := by
  obtain ⟨m, rfl⟩ := Int.eq_ofNat_of_zero_le h
  have e : (numS (m : Int)).length = (Nat.toDigits 10 m).length := by
    show (numS (m : Int)).cps.size = _
    rw [← Array.length_toList, numS_cps, List.length_map]
  rw [e]
  have hm : m < 10 ^ 100 := by
    have e10 : ((10 ^ 100 : Nat) : Int) = (10 : Int) ^ 100 := by decide +kernel
    generalize (10 : Int) ^ 100 = Z at *
    generalize (10 : Nat) ^ 100 = N at *
    omega
  exact ⟨Nat.length_toDigits_pos, (Nat.length_toDigits_le_iff (by decide) (by decide)).mpr hm⟩
theorem len_app (a b : Str) : (a ++ b).length = a.length + b.length := strLen_append a b
/-- a term's text -/
noncomputable def tmS (n k : Int) : Str := if k = 0 then numS (n.natAbs : Int) else (if n.natAbs = 1 then ("" : Str) else numS (n.natAbs : Int)) ++ (if k = 1 then ("x" : Str) else ("x^" : Str) ++ numS k)
theorem smallB {k : Int} (h : k < 1000) : k < 10 ^ 100 := Int.lt_of_lt_of_le h (by decide +kernel)
theorem tmS_len {n k : Int} (hn : (n.natAbs : Int) < 10 ^ 100) (k0 : 0 ≤ k) (hk : k < 1000) : 1 ≤ (tmS n k).length ∧ (tmS n k).length ≤ 250 := by
  have h1 := numS_len (Int.natCast_nonneg _) hn
  have h2 := numS_len k0 (smallB hk)
  have lx : ("x" : Str).length = 1 := by decide +kernel
  have lx2 : ("x^" : Str).length = 2 := by decide +kernel
  have l0 : ("" : Str).length = 0 := by decide +kernel
  unfold tmS
  split
  · omega
  · rw [len_app]
    split
    · split
      · rw [l0, lx]; omega
      · rw [l0, len_app, lx2]; omega
    · split
      · rw [lx]; omega
      · rw [len_app, lx2]; omega
theorem logB {a : Int} (h : (a.natAbs : Int) < 10 ^ 100) : a.natAbs.log2 < 1920 := by
  by_cases c : a.natAbs = 0
  · rw [c]; decide
  · refine (Nat.log2_lt c).mpr ?_
    have e1 : (10 : Int) ^ 100 ≤ ((2 ^ 1920 : Nat) : Int) := by decide +kernel
    generalize (10 : Int) ^ 100 = Z at *
    generalize (2 : Nat) ^ 1920 = N at *
    omega
theorem sz {n : Nat} (h : n ≤ 10000000) : n ≤ sizeLine := by unfold sizeLine; omega
/-- the terms below a power, each with its joint -/
noncomputable def jnS (n : Int) : Str := if n < 0 then (" - " : Str) else (" + " : Str)
noncomputable def lowS (ns : List Int) : Nat → Str
  | 0 => ("" : Str)
  | k + 1 => if ns.getD k 0 = 0 then lowS ns k else jnS (ns.getD k 0) ++ (tmS (ns.getD k 0) (k : Int) ++ lowS ns k)
noncomputable def sgS (n : Int) : Str := if n < 0 then ("-" : Str) else ("" : Str)
noncomputable def topS (ns : List Int) (t : Nat) : Str := sgS (ns.getD t 0) ++ (tmS (ns.getD t 0) (t : Int) ++ lowS ns t)
noncomputable def shS (ns : List Int) : Str := if ns = [] then ("0" : Str) else topS ns (ns.length - 1)
theorem jnS_len (n : Int) : (jnS n).length = 3 := by
  unfold jnS
  split <;> decide +kernel
theorem lowS_same {a b : List Int} (h : ∀ n, a.getD n 0 = b.getD n 0) : ∀ k, lowS a k = lowS b k
  | 0 => rfl
  | k + 1 => by
    unfold lowS
    rw [h k, lowS_same h k]
noncomputable abbrev rdO (cRd dx : Addr) (t : Str) (l : List Nat) : HO := .ins cRd dx [("text", .str t), ("place", .int ((t.length - l.length : Nat) : Int))]
structure Sfx (t : Str) (l : List Nat) : Prop where
  sfx : l <:+ t.cps.toList
  few : t.length ≤ 10000
theorem Sfx.le {t : Str} {l : List Nat} (h : Sfx t l) : l.length ≤ t.length := h.sfx.length_le
theorem Sfx.tail {t : Str} {c : Nat} {l : List Nat} (h : Sfx t (c :: l)) : Sfx t l := ⟨(List.suffix_cons c l).trans h.sfx, h.few⟩
theorem Sfx.at {t : Str} {c : Nat} {l : List Nat} (h : Sfx t (c :: l)) : t.cps.toList[t.length - (l.length + 1)]? = some c := by
  obtain ⟨p, e⟩ := h.sfx
  have z : t.length = p.length + (l.length + 1) := by
    show t.cps.size = _
    rw [← Array.length_toList, ← e, List.length_append]; rfl
  rw [z, ← e, List.getElem?_append_right (by omega)]
  have y : p.length + (l.length + 1) - (l.length + 1) - p.length = 0 := by omega
  rw [y]; rfl
theorem Sfx.next {t : Str} {c : Nat} {l : List Nat} (h : Sfx t (c :: l)) : ((t.length - (c :: l).length : Nat) : Int) + 1 = ((t.length - l.length : Nat) : Int) := by
  have := h.le
  have z : (c :: l).length = l.length + 1 := rfl
  omega
/-- BadText(place) -/
noncomputable def spInitB (C : Addr) : Sp := fun vs H Q _ => ∃ (a : Addr) (k : Int), vs = [.ref a, .int k] ∧ H a = some (exO C a none) ∧ 0 ≤ k ∧ k ≤ 10000 ∧ ∀ d, H d = none → d ≠ a → Q .non (upd (upd H a (exO C a (some d))) d (.xd [("place", .int k)]))
theorem oe_BadText (T : Top K mg cFE cBP cBT cK cW cRd) : ∃ f fd, FnOk P w K mg base CX0 1 f fd ["self", "place"] (spInitB cBT) ∧ Binds K fd ["self", "place"] [] ∧ ErrC K cBT cFE f := by
  obtain ⟨f, fd, F, b, kB⟩ := T.f_BadText_init
  refine ⟨f, fd, F.ok sc_BadText_init (fun vs H Q E h => ?_) (fun cdv A outer s H vs Q E hr h => ?_), b, kB⟩
  · obtain ⟨a, k, rfl, _⟩ := h
    rfl
  obtain ⟨a, k, rfl, hx, h0, h1, q⟩ := h
  have hk : k < 10 ^ 100 := Int.lt_of_le_of_lt h1 (by decide +kernel)
  have hk2 : (k.natAbs : Int) < 10 ^ 100 := by rw [Int.natAbs_of_nonneg h0]; exact hk
  have hl := (numS_len h0 hk).2
  refine ⟨_, (pss_cons (ps_expr (pe_excI (by rfl) T.m_ForgeError T.u_ForgeError kB (pa_cons (pv 0) (pa_cons (pe_fI (pn_var 1)) pa_nil))))
 (pss_one (ps_excS kB T.na_BadText_place rfl (pv 0) (pn_var 1) rfl))), ?_⟩
  have l1 : ("the text can be read as far as place " : Str).length = 37 := by decide +kernel
  have l2 : (" and no farther" : Str).length = 15 := by decide +kernel
  refine ⟨_, rfl, by decide +kernel, ⟨rfl, k, rfl, logB hk2, ?_, ?_, ?_⟩⟩
  · show ("the text can be read as far as place " ++ numS k : Str).length ≤ sizeLine
    rw [len_app, l1, sizeLine_eq]; omega
  · show ("the text can be read as far as place " ++ numS k ++ " and no farther" : Str).length ≤ sizeLine
    rw [len_app, len_app, l1, l2, sizeLine_eq]; omega
  · exact ⟨a, _, rfl, by show 1 ≤ 1000; decide, hx, rfl, _, rfl, a, rfl, hx, q⟩
/-- Reader(text) -/
noncomputable def spNewRd (C : Addr) : Sp := fun vs H Q _ => ∃ (x dx : Addr) (t : Str), vs = [.ref x, .str t] ∧ H x = some (.ins C dx []) ∧ Q .non (upd H x (rdO C dx t t.cps.toList))
theorem oi_Reader (T : Top K mg cFE cBP cBT cK cW cRd) : OkI P w K mg base CX0 1 "Reader" cRd ["self", "text"] (spNewRd cRd) := by
  obtain ⟨f, fd, F, b, c⟩ := T.f_Reader_init
  refine ⟨f, fd, F.ok sc_Reader_init (fun vs H Q E h => ?_) (fun cdv A outer s H vs Q E hr h => ?_), b, c, T.m_Reader⟩
  · obtain ⟨x, dx, t, rfl, _⟩ := h
    rfl
  obtain ⟨x, dx, t, rfl, hx, q⟩ := h
  refine ⟨_, (pss_cons (ps_fld (pv 0) (pv 1) rfl)
 (pss_one (ps_fld (pv 0) pn_int rfl))), ?_⟩
  refine ⟨_, rfl, _, rfl, x, cRd, dx, [], rfl, hx, T.cl_Reader, T.na_Reader_text, by decide, True.intro, _, rfl, x, cRd, dx, _, rfl, upd_same, T.cl_Reader, T.na_Reader_place, by show 1 < 1000; decide, ?_⟩
  rw [upd_upd]
  have e : ((t.length - t.cps.toList.length : Nat) : Int) = 0 := by
    rw [show t.cps.toList.length = t.length from Array.length_toList]
    omega
  have q : Q .non (upd H x (.ins cRd dx [("text", .str t), ("place", .int ((t.length - t.cps.toList.length : Nat) : Int))])) := q
  rw [e] at q
  exact q
noncomputable def spEnd (C : Addr) : Sp := fun vs H Q _ => ∃ (x dx : Addr) (t : Str) (l : List Nat), vs = [.ref x] ∧ H x = some (rdO C dx t l) ∧ Sfx t l ∧ Q (.bl l.isEmpty) H
theorem om_at_end (T : Top K mg cFE cBP cBT cK cW cRd) : OkM P w K mg base CX0 1 cRd "at_end" ["self"] (spEnd cRd) := by
  obtain ⟨f, fd, F, b, m⟩ := T.f_Reader_at_end
  refine ⟨f, fd, F.ok sc_Reader_at_end (fun vs H Q E h => ?_) (fun cdv A outer s H vs Q E hr h => ?_), b, m, T.cl_Reader⟩
  · obtain ⟨x, dx, t, l, rfl, _⟩ := h
    rfl
  obtain ⟨x, dx, t, l, rfl, hx, hs, q⟩ := h
  refine ⟨_, (pss_one (ps_ret (pe_cmpR op_eq (pe_fld (pv 0) rfl) (pe_callB call_len_str (by rfl) T.b_len bt_len (pa_cons (pe_fld (pv 0) rfl) pa_nil)) (nomark _)))), ?_⟩
  have e : decide (V.int ((t.length - l.length : Nat) : Int) = V.int (t.length : Int)) = l.isEmpty := by
    have := hs.le
    cases l with
    | nil => simp
    | cons c l =>
      have z : (c :: l).length = l.length + 1 := rfl
      simp only [List.isEmpty_cons, decide_eq_false_iff_not, V.int.injEq]
      omega
  refine ⟨_, rfl, x, cRd, dx, _, _, rfl, hx, T.cl_Reader, T.na_Reader_place, rfl, _, rfl, x, cRd, dx, _, _, rfl, hx, T.cl_Reader, T.na_Reader_text, rfl, t, rfl, by have := hs.few; rw [sizeLine_eq]; omega, ?_⟩
  refine ⟨rfl, ?_⟩
  rw [e]
  exact q
noncomputable def stB (l sg : List Nat) : Bool := match l with
  | [] => false
  | c :: _ => decide (c ∈ sg)
noncomputable def spStands (C : Addr) : Sp := fun vs H Q _ => ∃ (x dx : Addr) (t sg : Str) (l : List Nat), vs = [.ref x, .str sg] ∧ H x = some (rdO C dx t l) ∧ Sfx t l ∧ Q (.bl (stB l sg.cps.toList)) H
theorem om_stands (T : Top K mg cFE cBP cBT cK cW cRd) : OkM P w K mg base CX0 2 cRd "stands" ["self", "signs"] (spStands cRd) := by
  obtain ⟨f, fd, F, b, m⟩ := T.f_Reader_stands
  refine ⟨f, fd, F.ok sc_Reader_stands (fun vs H Q E h => ?_) (fun cdv A outer s H vs Q E hr h => ?_), b, m, T.cl_Reader⟩
  · obtain ⟨x, dx, t, sg, l, rfl, _⟩ := h
    rfl
  obtain ⟨x, dx, t, sg, l, rfl, hx, hs, q⟩ := h
  refine ⟨_, (pss_one (ps_ret (pe_and (pe_not (pe_methO0 (om_at_end T) hr pass0 (pv 0))) (pe_one (pe_cmpR op_in1 (pe_ix ix_str (pe_fld (pv 0) rfl) (pe_fld (pv 0) rfl) (fun _ _ => rfl)) (pv 1) (by with_unfolding_all rfl)))))), ?_⟩
  refine ⟨_, rfl, x, dx, _, rfl, hx, rfl, x, dx, t, l, rfl, hx, hs, ?_⟩
  cases l with
  | nil => exact ⟨_, rfl, _, rfl, q⟩
  | cons c l =>
    refine ⟨_, rfl, _, rfl, ?_⟩
    refine ⟨_, rfl, x, cRd, dx, _, _, rfl, hx, T.cl_Reader, T.na_Reader_text, rfl, _, rfl, x, cRd, dx, _, _, rfl, hx, T.cl_Reader, T.na_Reader_place, rfl, t, _, c, rfl, rfl, by have := hs.few; rw [sizeLine_eq]; omega, ?_, ?_⟩
    · exact atI_nat hs.at
    · exact ⟨_, rfl, c, sg, rfl, rfl, q⟩
/-- what a refusal with m signs left wants -/
noncomputable def badE (cBT : Addr) (E : XK) (H : Hp) (C x dx : Addr) (t : Str) (m : Nat) : Prop := ∀ d l', H d = none → E (.ref cBT) (some d) (upd (upd H x (rdO C dx t l')) d (.xd [("place", .int ((t.length - m : Nat) : Int))]))
noncomputable def spTaken (cBT C : Addr) : Sp := fun vs H Q E => ∃ (x dx : Addr) (t sg : Str) (l : List Nat), vs = [.ref x, .str sg] ∧ H x = some (rdO C dx t l) ∧ Sfx t l ∧ (∀ c l', l = c :: l' → c ∈ sg.cps.toList → Q (.str ⟨#[c]⟩) (upd H x (rdO C dx t l'))) ∧ (stB l sg.cps.toList = false → badE cBT E H C x dx t l.length)
theorem om_taken (T : Top K mg cFE cBP cBT cK cW cRd) : OkM P w K mg base (CXe P w) 3 cRd "taken" ["self", "signs"] (spTaken cBT cRd) := by
  obtain ⟨f, fd, Fu, b, m⟩ := T.f_Reader_taken
  obtain ⟨fB, fdB, FB, bB, kB⟩ := oe_BadText (P := P) (w := w) (base := base) T
  refine ⟨f, fd, ?_, b, m, T.cl_Reader⟩
  obtain ⟨oc, od, kV, doc, pm, an, cdv, ct, osl, rfl, lk, hcd⟩ := Fu.ex
  refine fn_of lk hcd sc_Reader_taken (fun vs H Q E h => ?_) fun A outer s H vs Q E hr h => ?_
  · obtain ⟨x, dx, t, sg, l, rfl, _⟩ := h
    rfl
  obtain ⟨x, dx, t, sg, l, rfl, hx, hs, q, qe⟩ := h
  have hsm : t.length ≤ sizeLine := by have := hs.few; rw [sizeLine_eq]; omega
  refine ⟨_, (pss_cons (ps_if (pt_not (pt_val (pe_methO (om_stands T) hr pass0 (pv 0) (pa_cons (pv 1) pa_nil)) (fun _ => rfl)))
 (pss_one (ps_raiseX newX rfl kB FB hr bB (by rfl) T.m_BadText (pa_cons (pe_fld (pv 0) rfl) pa_nil) (hl := fun σ H Q ⟨v, e, a, C, dx, fs, u, h1, h2, h3, h4, h5, q⟩ => ⟨v, e, a, C, dx, fs, u, h1, h2, h3, h4, h5, rfl, q⟩)))
 pss_nil)
 (pss_cons (ps_fldaug (pv 0) pn_int in_add)
 (pss_one (ps_ret (pe_ix ix_str (pe_fld (pv 0) rfl) (pe_op op_sub (pe_fld (pv 0) rfl) pn_int) (fun _ _ => rfl)))))), ?_⟩
  refine ⟨_, rfl, x, dx, _, rfl, hx, rfl, _, rfl, x, dx, t, sg, l, rfl, hx, hs, _, rfl, ?_⟩
  cases e : stB l sg.cps.toList with
  | false =>
    refine ⟨_, rfl, x, cRd, dx, _, _, rfl, hx, T.cl_Reader, T.na_Reader_place, rfl, fun a na => ?_⟩
    refine ⟨a, _, rfl, upd_same, by omega, by have := hs.few; omega, fun d hd da => ⟨rfl, d, ?_, ?_⟩⟩
    · rw [upd_ne (Ne.symm da), upd_same]
    · rw [del_made na da]
      have z := qe e d l (by rw [upd_ne da] at hd; exact hd)
      rw [upd_eq hx] at z
      exact z
  | true =>
    cases l with
    | nil => cases e
    | cons c l' =>
      have hc : c ∈ sg.cps.toList := of_decide_eq_true e
      have nx := hs.next
      refine ⟨_, rfl, x, cRd, dx, _, _, rfl, hx, T.cl_Reader, T.na_Reader_place, rfl, True.intro, _, _, rfl, rfl, dx, _, hx, by show 2 < 1000; decide, ?_⟩
      have q := q c l' rfl hc
      have q : Q (.str ⟨#[c]⟩) (upd H x (.ins cRd dx [("text", .str t), ("place", .int ((t.length - l'.length : Nat) : Int))])) := q
      rw [← nx] at q
      refine ⟨_, rfl, x, cRd, dx, _, _, rfl, upd_same, T.cl_Reader, T.na_Reader_text, rfl, _, rfl, x, cRd, dx, _, _, rfl, upd_same, T.cl_Reader, T.na_Reader_place, rfl, True.intro, _, _, rfl, rfl, t, _, c, rfl, rfl, hsm, ?_, q⟩
      have z : ((t.length - (c :: l').length : Nat) : Int) + 1 - 1 = ((t.length - (l'.length + 1) : Nat) : Int) := by
        rw [Int.add_sub_cancel]; rfl
      rw [z]
      exact atI_nat hs.at
/-- skip_blanks -/
theorem Sfx.skip {t : Str} : ∀ {l : List Nat}, Sfx t l → Sfx t (skipB l)
  | [], h => h
  | c :: l, h => by
    unfold skipB
    split
    · exact h.tail.skip
    · exact h
noncomputable def spSkip (C : Addr) : Sp := fun vs H Q _ => ∃ (x dx : Addr) (t : Str) (l : List Nat), vs = [.ref x] ∧ H x = some (rdO C dx t l) ∧ Sfx t l ∧ Q .non (upd H x (rdO C dx t (skipB l)))
theorem om_skip_blanks (T : Top K mg cFE cBP cBT cK cW cRd) : OkM P w K mg base CX0 3 cRd "skip_blanks" ["self"] (spSkip cRd) := by
  obtain ⟨f, fd, F, b, m⟩ := T.f_Reader_skip_blanks
  refine ⟨f, fd, F.ok sc_Reader_skip_blanks (fun vs H Q E h => ?_) (fun cdv A outer s H vs Q E hr h => ?_), b, m, T.cl_Reader⟩
  · obtain ⟨x, dx, t, l, rfl, _⟩ := h
    rfl
  obtain ⟨x, dx, t, l, rfl, hx, hs, q⟩ := h
  have sp : (" " : Str).cps.toList = [32] := by decide +kernel
  refine ⟨_, (pss_one (ps_while PassesOwn.never (pt_val (pe_methO (om_stands T) hr pass0 (pv 0) (pa_cons pe_str pa_nil)) (fun _ => rfl))
 (pss_one (ps_fldaug (pv 0) pn_int in_add)))), ?_⟩
  refine ⟨fun n σ H' => σ = [some (.ref x)] ∧ ∃ l', n = l'.length ∧ H' = upd H x (rdO cRd dx t l') ∧ Sfx t l' ∧ skipB l' = skipB l, ⟨l.length, rfl, l, rfl, (upd_eq hx).symm, hs, rfl⟩, ?_⟩
  rintro n σ H' ⟨rfl, l', rfl, rfl, hs', e⟩
  refine ⟨_, rfl, x, dx, _, rfl, upd_same, rfl, x, dx, t, _, l', rfl, upd_same, hs', _, rfl, ?_⟩
  rw [sp]
  cases l' with
  | nil =>
    show Q .non _
    rw [← e] at q
    exact q
  | cons c l' =>
    cases z : stB (c :: l') [32] with
    | false =>
      show Q .non _
      rw [← e] at q
      have h32 : ¬ c = 32 := fun y => by rw [y] at z; cases z
      unfold skipB at q
      rw [if_neg h32] at q
      exact q
    | true =>
      have h32 : c = 32 := by simpa [stB] using z
      subst h32
      have nx := hs'.next
      refine ⟨fun σ' H' => σ' = [some (.ref x)] ∧ H' = upd H x (rdO cRd dx t l'), fun σ' H' ⟨e1, e2⟩ => ⟨l'.length, Nat.lt_succ_self _, e1, l', rfl, e2, hs'.tail, e⟩, ?_⟩
      refine ⟨_, rfl, x, cRd, dx, _, _, rfl, upd_same, T.cl_Reader, T.na_Reader_place, rfl, True.intro, _, _, rfl, rfl, dx, _, upd_same, by show 2 < 1000; decide, rfl, ?_⟩
      rw [upd_upd]
      show upd H x (.ins cRd dx [("text", .str t), ("place", .int (((t.length - (32 :: l').length : Nat) : Int) + 1))]) = _
      rw [nx]
noncomputable def sgn (c : Nat) : Int := if c = 45 then -1 else 1
noncomputable def spSign (cBT C : Addr) : Sp := fun vs H Q E => ∃ (x dx : Addr) (t : Str) (l : List Nat), vs = [.ref x] ∧ H x = some (rdO C dx t l) ∧ Sfx t l ∧ (∀ c l', l = c :: l' → c = 43 ∨ c = 45 → Q (.int (sgn c)) (upd H x (rdO C dx t (skipB l')))) ∧ ((∀ c l', l = c :: l' → ¬ (c = 43 ∨ c = 45)) → badE cBT E H C x dx t l.length)
theorem om_taken_sign (T : Top K mg cFE cBP cBT cK cW cRd) : OkM P w K mg base (CXe P w) 4 cRd "taken_sign" ["self"] (spSign cBT cRd) := by
  obtain ⟨f, fd, Fu, b, m⟩ := T.f_Reader_taken_sign
  refine ⟨f, fd, ?_, b, m, T.cl_Reader⟩
  obtain ⟨oc, od, kV, doc, pm, an, cdv, ct, osl, rfl, lk, hcd⟩ := Fu.ex
  refine fn_of lk hcd sc_Reader_taken_sign (fun vs H Q E h => ?_) fun A outer s H vs Q E hr h => ?_
  · obtain ⟨x, dx, t, l, rfl, _⟩ := h
    rfl
  obtain ⟨x, dx, t, l, rfl, hx, hs, q, qe⟩ := h
  have sp : ("+-" : Str).cps.toList = [43, 45] := by decide +kernel
  refine ⟨_, (pss_cons (ps_set (i := 1) sc_Reader_taken_sign.nd rfl (Or.inl rfl) (pe_ifExp (pt_cmpR op_eq (pe_methO (om_taken T) hr passE (pv 0) (pa_cons pe_str pa_nil)) pe_str (nomark _)) (pn_neg pn_int) pn_int))
 (pss_cons (ps_expr (pe_methO0 (om_skip_blanks T) hr pass0 (pv 0)))
 (pss_one (ps_ret (pn_var 1))))), ?_⟩
  refine ⟨_, rfl, x, dx, _, rfl, hx, rfl, x, dx, t, _, l, rfl, hx, hs, fun c l' e hc => ?_, fun e => qe fun c l' z y => ?_⟩
  · subst e
    rw [sp] at hc
    have hc : c = 43 ∨ c = 45 := by simpa using hc
    have q := q c l' rfl hc
    refine ⟨rfl, _, rfl, ?_⟩
    have d : decide ((V.str ⟨#[c]⟩ : V) = .str "-") = decide (c = 45) := by rcases hc with rfl | rfl <;> decide +kernel
    rw [d]
    rcases hc with rfl | rfl
    · refine ⟨True.intro, _, rfl, x, dx, _, rfl, upd_same, rfl, x, dx, t, l', rfl, upd_same, hs.tail, rfl, ?_⟩
      rw [upd_upd]
      exact q
    · refine ⟨True.intro, _, rfl, x, dx, _, rfl, upd_same, rfl, x, dx, t, l', rfl, upd_same, hs.tail, rfl, ?_⟩
      rw [upd_upd]
      exact q
  · subst z
    rw [sp] at e
    have e : ¬ (c = 43 ∨ c = 45) := by simpa [stB] using e
    exact e y
theorem fig_in {c : Nat} : c ∈ ("0123456789" : Str).cps.toList ↔ isF c = true := by
  rw [show ("0123456789" : Str).cps.toList = [48, 49, 50, 51, 52, 53, 54, 55, 56, 57] from by decide +kernel, isF_iff]
  simp only [List.mem_cons, List.not_mem_nil, or_false]
  exact ⟨fun h => by rcases h with h | h | h | h | h | h | h | h | h | h <;> (subst h; decide), fun h => by omega⟩
theorem stB_fig {l : List Nat} : stB l ("0123456789" : Str).cps.toList = match l with | [] => false | c :: _ => isF c := by
  cases l with
  | nil => rfl
  | cons c l =>
    show decide _ = isF c
    cases h : isF c with
    | true => exact decide_eq_true (fig_in.mpr h)
    | false => exact decide_eq_false fun z => by rw [fig_in.mp z] at h; cases h
noncomputable def ofL (l : List Nat) : Str := ⟨l.toArray⟩
theorem ofL_app (a b : List Nat) : ofL a ++ ofL b = ofL (a ++ b) := PySem.Str.ext' (by rw [PySem.Str.cps_append]; simp [ofL])
theorem int_ofL {l : List Nat} (h : ∀ c ∈ l, isF c = true) (h1 : l ≠ []) (h2 : l.length ≤ 640) : intText? (ofL l) = some ((fv l : Nat) : Int) := by
  have e : fv l = PySem.NumText.digitsVal (ofL l).cps.toList := by
    show List.foldl _ _ _ = List.foldl _ _ (l.toArray.toList)
    congr 1
    funext a c
    omega
  rw [e]
  exact PySem.intText_digits (x := ofL l) (fun c hc => isF_iff.mp (h c hc)) h1 (Nat.le_trans h2 (by decide))
noncomputable def spNum (tk : List Nat → Rr (List Nat)) (cBT C : Addr) : Sp := fun vs H Q E => ∃ (x dx : Addr) (t : Str) (l : List Nat), vs = [.ref x] ∧ H x = some (rdO C dx t l) ∧ Sfx t l ∧ (∀ ds l', tk l = .ok ds l' → Q (.int ((fv ds : Nat) : Int)) (upd H x (rdO C dx t l'))) ∧ ∀ m, tk l = .bad m → badE cBT E H C x dx t m
theorem om_taken_number (T : Top K mg cFE cBP cBT cK cW cRd) : OkM P w K mg base (CXe P w) 4 cRd "taken_number" ["self"] (spNum takeN cBT cRd) := by
  obtain ⟨f, fd, Fu, b, m⟩ := T.f_Reader_taken_number
  refine ⟨f, fd, ?_, b, m, T.cl_Reader⟩
  obtain ⟨oc, od, kV, doc, pm, an, cdv, ct, osl, rfl, lk, hcd⟩ := Fu.ex
  refine fn_of lk hcd sc_Reader_taken_number (fun vs H Q E h => ?_) fun A outer s H vs Q E hr h => ?_
  · obtain ⟨x, dx, t, l, rfl, _⟩ := h
    rfl
  obtain ⟨x, dx, t, l, rfl, hx, hs, q, qe⟩ := h
  refine ⟨_, (pss_cons (ps_set (i := 1) sc_Reader_taken_number.nd rfl (Or.inl rfl) (pe_methO (om_taken T) hr passE (pv 0) (pa_cons (pe_globS (by rfl) T.g_FIGURES) pa_nil)))
 (pss_cons (ps_while PassesOwn.leaving (pw_and (pt_cmpR op_ne (pv 1) pe_str (nomark _)) (pw_and (pt_cmpR op_lt (pe_callB call_len_str (by rfl) T.b_len bt_len (pa_cons (pv 1) pa_nil)) (pn_glob (by rfl) T.g_MOST_FIGURES) (nomark _)) (pw_and1 (pt_val (pe_methO (om_stands T) hr pass0 (pv 0) (pa_cons (pe_globS (by rfl) T.g_FIGURES) pa_nil)) (fun _ => rfl))))).pt
 (pss_one (ps_aug (i := 1) sc_Reader_taken_number.nd rfl (Or.inl rfl) (pe_methO (om_taken T) hr passE (pv 0) (pa_cons (pe_globS (by rfl) T.g_FIGURES) pa_nil)) ip_addS)))
 (pss_one (ps_ret (pe_callTy call_int_text (by rfl) T.b_int bt_int (pa_cons (pv 1) pa_nil)))))), ?_⟩
  refine ⟨_, rfl, x, dx, _, rfl, hx, rfl, x, dx, t, _, l, rfl, hx, hs, fun c l' e hc => ?_, fun e => ?_⟩
  · subst e
    have hc := fig_in.mp hc
    obtain ⟨F, R, eF⟩ : ∃ F R, takeN (c :: l') = .ok F R := by
      unfold takeN
      dsimp only
      rw [if_pos hc]
      split <;> exact ⟨_, _, rfl⟩
    have q := q F R eF
    have g0 : ("0" : Str) = ofL [48] := by decide +kernel
    have inj : ∀ a b : List Nat, ofL a = ofL b → a = b := fun a b e => by
      have := congrArg (fun z : Str => z.cps.toList) e
      exact this
    refine ⟨fun n σ H' => ∃ ds l2, n = l2.length ∧ σ = [some (.ref x), some (.str (ofL ds))] ∧ H' = upd H x (rdO cRd dx t l2) ∧ Sfx t l2 ∧ (∀ c ∈ ds, isF c = true) ∧ ds ≠ [] ∧ ds.length ≤ 100 ∧
      ((ds = [48] ∧ F = [48] ∧ R = l2) ∨ (ds ≠ [48] ∧ F = ds ++ (figs (100 - ds.length) l2).1 ∧ R = (figs (100 - ds.length) l2).2)), ⟨l'.length, [c], l', rfl, rfl, rfl, hs.tail, (fun d hd => by rw [List.mem_singleton.mp hd]; exact hc), (fun z => nomatch z), by show 1 ≤ 100; decide, ?_⟩, ?_⟩
    · unfold takeN at eF
      dsimp only at eF
      rw [if_pos hc] at eF
      by_cases z : c = 48
      · rw [if_pos z] at eF
        cases eF
        exact .inl ⟨by rw [z], rfl, rfl⟩
      · rw [if_neg z] at eF
        cases eF
        exact .inr ⟨(fun y => z (List.cons.inj y).1), rfl, rfl⟩
    · rintro n σ H' ⟨ds, l2, rfl, rfl, rfl, hs2, hd, hn, hl, inv⟩
      have hlen : (ofL ds).length = ds.length := rfl
      have fin : F = ds → R = l2 → ∃ z n, [V.str (ofL ds)] = [.str z] ∧ intText? z = some n ∧ z.length ≤ 640 ∧ Q (.int n) (upd H x (rdO cRd dx t l2)) := fun e1 e2 => by
        subst e1 e2
        exact ⟨_, _, rfl, int_ofL hd hn (by omega), by rw [hlen]; omega, q⟩
      refine ⟨_, rfl, rfl, _, rfl, ?_⟩
      dsimp only
      rcases inv with ⟨z1, z2, z3⟩ | ⟨z1, z2, z3⟩
      · subst z1
        exact ⟨_, rfl, fin z2 z3⟩
      · have ne : ¬ (V.str (ofL ds) : V) = .str "0" := fun y => z1 (inj _ _ (by injection y))
        rw [if_pos (by simpa using ne)]
        refine ⟨_, rfl, _, rfl, by rw [hlen, sizeLine_eq]; omega, True.intro, _, _, rfl, rfl, _, rfl, ?_⟩
        dsimp only
        by_cases y1 : ds.length < 100
        · have y2 : (((ofL ds).length : Nat) : Int) < 100 := by rw [hlen]; omega
          rw [if_pos (decide_eq_true y2)]
          refine ⟨_, rfl, x, dx, _, rfl, upd_same, rfl, x, dx, t, _, l2, rfl, upd_same, hs2, _, rfl, ?_⟩
          rw [stB_fig]
          obtain ⟨k, ek⟩ : ∃ k, 100 - ds.length = k + 1 := ⟨99 - ds.length, by omega⟩
          rw [ek] at z2 z3
          cases l2 with
          | nil =>
            exact ⟨_, rfl, fin (by rw [z2]; exact List.append_nil _) z3⟩
          | cons c2 l3 =>
            dsimp only
            by_cases f2 : isF c2 = true
            case neg =>
              rw [if_neg f2]
              unfold figs at z2 z3
              rw [if_neg f2] at z2 z3
              exact ⟨_, rfl, fin (by rw [z2]; exact List.append_nil _) z3⟩
            case pos =>
              rw [if_pos f2]
              unfold figs at z2 z3
              rw [if_pos f2] at z2 z3
              refine ⟨fun σ' H' => σ' = [some (.ref x), some (.str (ofL (ds ++ [c2])))] ∧ H' = upd H x (rdO cRd dx t l3), fun σ' H' ⟨e1, e2⟩ => ⟨l3.length, Nat.lt_succ_self _, ds ++ [c2], l3, rfl, e1, e2, hs2.tail, ?_, by simp, by rw [List.length_append]; exact y1, .inr ⟨?_, ?_, ?_⟩⟩, ?_⟩
              · intro d hd'
                rcases List.mem_append.mp hd' with z | z
                · exact hd d z
                · rw [List.mem_singleton.mp z]; exact f2
              · intro z
                have := congrArg List.length z
                rw [List.length_append] at this
                have hp := List.length_pos_iff.mpr hn
                have this : ds.length + 1 = 1 := this
                omega
              · rw [List.length_append, show 100 - (ds.length + [c2].length) = k from by show 100 - (ds.length + 1) = k; omega, z2]
                simp
              · rw [List.length_append, show 100 - (ds.length + [c2].length) = k from by show 100 - (ds.length + 1) = k; omega, z3]
              · refine ⟨_, rfl, _, rfl, x, dx, _, rfl, upd_same, rfl, x, dx, t, _, c2 :: l3, rfl, upd_same, hs2, fun c3 l4 e3 hc3 => ?_, fun e3 => ?_⟩
                · cases e3
                  refine ⟨_, _, rfl, rfl, ?_, ?_, ?_⟩
                  · rw [sizeLine_eq, hlen]; show ds.length + 1 ≤ _; omega
                  · show _ = [some (V.ref x), some (.str (ofL (ds ++ [c2])))]
                    rw [← ofL_app]; rfl
                  · rw [upd_upd]
                · rw [stB_fig] at e3
                  rw [show isF c2 = false from e3] at f2
                  cases f2
        · have y2 : ¬ (((ofL ds).length : Nat) : Int) < 100 := by rw [hlen]; omega
          rw [if_neg (by simpa using y2)]
          have y3 : 100 - ds.length = 0 := by omega
          rw [y3] at z2 z3
          exact ⟨_, rfl, fin (by rw [z2]; exact List.append_nil _) z3⟩
  · rw [stB_fig] at e
    cases l with
    | nil => exact qe 0 rfl
    | cons c l => exact qe (l.length + 1) (by unfold takeN; dsimp only; rw [if_neg (by rw [show isF c = false from e]; exact Bool.false_ne_true)])
theorem fv_one (c : Nat) : fv [c] = c - 48 := by show 10 * 0 + (c - 48) = _; omega
theorem fv_two (c d : Nat) : fv [c, d] = 10 * (c - 48) + (d - 48) := by show 10 * (10 * 0 + (c - 48)) + (d - 48) = _; omega
theorem int_one {c : Nat} (h : isF c = true) : intText? (⟨#[c]⟩ : Str) = some (((c - 48 : Nat)) : Int) := by
  have e := int_ofL (l := [c]) (fun d hd => by rw [List.mem_singleton.mp hd]; exact h) (fun z => nomatch z) (by show 1 ≤ 640; decide)
  rw [fv_one] at e
  exact e
theorem om_taken_power (T : Top K mg cFE cBP cBT cK cW cRd) : OkM P w K mg base (CXe P w) 4 cRd "taken_power" ["self"] (spNum takeP cBT cRd) := by
  obtain ⟨f, fd, Fu, b, m⟩ := T.f_Reader_taken_power
  refine ⟨f, fd, ?_, b, m, T.cl_Reader⟩
  obtain ⟨oc, od, kV, doc, pm, an, cdv, ct, osl, rfl, lk, hcd⟩ := Fu.ex
  refine fn_of lk hcd sc_Reader_taken_power (fun vs H Q E h => ?_) fun A outer s H vs Q E hr h => ?_
  · obtain ⟨x, dx, t, l, rfl, _⟩ := h
    rfl
  obtain ⟨x, dx, t, l, rfl, hx, hs, q, qe⟩ := h
  have hsm : t.length ≤ sizeLine := by have := hs.few; rw [sizeLine_eq]; omega
  refine ⟨_, (pss_cons (ps_set (i := 1) sc_Reader_taken_power.nd rfl (Or.inl rfl) (pe_callTy call_int_text (by rfl) T.b_int bt_int (pa_cons (pe_methO (om_taken T) hr passE (pv 0) (pa_cons (pe_globS (by rfl) T.g_FIGURES) pa_nil)) pa_nil)))
 (pss_cons (ps_while PassesOwn.leaving (pw_and (ptn_ne (pn_var 1) pn_int) (pw_and (pt_val (pe_methO (om_stands T) hr pass0 (pv 0) (pa_cons (pe_globS (by rfl) T.g_FIGURES) pa_nil)) (fun _ => rfl)) (pw_and1 (pt_cmpR op_le (pe_op op_add (pn_mul pn_int (pn_var 1)) (pe_callTy call_int_text (by rfl) T.b_int bt_int (pa_cons (pe_ix ix_str (pe_fld (pv 0) rfl) (pe_fld (pv 0) rfl) (fun _ _ => rfl)) pa_nil))) (pn_glob (by rfl) T.g_HIGHEST_POWER) (nomark _))))).pt
 (pss_one (ps_set (i := 1) sc_Reader_taken_power.nd rfl (Or.inl rfl) (pe_op op_add (pn_mul pn_int (pn_var 1)) (pe_callTy call_int_text (by rfl) T.b_int bt_int (pa_cons (pe_methO (om_taken T) hr passE (pv 0) (pa_cons (pe_globS (by rfl) T.g_FIGURES) pa_nil)) pa_nil))))))
 (pss_one (ps_ret (pn_var 1))))), ?_⟩
  refine ⟨_, rfl, x, dx, _, rfl, hx, rfl, x, dx, t, _, l, rfl, hx, hs, fun c l' e hc => ?_, fun e => ?_⟩
  · subst e
    have hc := fig_in.mp hc
    have hc2 := isF_iff.mp hc
    obtain ⟨F, R, eF⟩ : ∃ F R, takeP (c :: l') = .ok F R := by
      unfold takeP
      cases l' with
      | nil => dsimp only; rw [if_pos hc]; exact ⟨_, _, rfl⟩
      | cons c' r => dsimp only; rw [if_pos hc]; split <;> exact ⟨_, _, rfl⟩
    have q := q F R eF
    refine ⟨_, _, rfl, int_one hc, by show 1 ≤ 640; decide, ?_⟩
    refine ⟨fun n σ H' => ∃ (l2 : List Nat) (pw : Nat), n = l2.length ∧ σ = [some (.ref x), some (.int (pw : Int))] ∧ H' = upd H x (rdO cRd dx t l2) ∧ Sfx t l2 ∧ ((pw = c - 48 ∧ l2 = l') ∨ (10 ≤ pw ∧ pw ≤ 40 ∧ pw = fv F ∧ l2 = R)), ⟨l'.length, l', c - 48, rfl, rfl, rfl, hs.tail, .inl ⟨rfl, rfl⟩⟩, ?_⟩
    rintro n σ H' ⟨l2, pw, rfl, rfl, rfl, hs2, inv⟩
    have fin : pw = fv F → l2 = R → Q (.int (pw : Int)) (upd H x (rdO cRd dx t l2)) := fun e1 e2 => by
      rw [e1, e2]; exact q
    have hpw : pw ≤ 40 := by omega
    have keep : (pw = c - 48 ∧ l2 = l') → (∀ c2 l3, l2 = c2 :: l3 → ¬ (c ≠ 48 ∧ isF c2 = true ∧ 10 * (c - 48) + (c2 - 48) ≤ 40)) → pw = fv F ∧ l2 = R := fun ⟨e1, e2⟩ h => by
      subst e2
      unfold takeP at eF
      cases l2 with
      | nil =>
        dsimp only at eF
        rw [if_pos hc] at eF
        cases eF
        exact ⟨e1.trans (fv_one c).symm, rfl⟩
      | cons c' r =>
        dsimp only at eF
        rw [if_pos hc, if_neg (h c' r rfl)] at eF
        cases eF
        exact ⟨e1.trans (fv_one c).symm, rfl⟩
    have stop : (pw = c - 48 → ∀ c2 l3, l2 = c2 :: l3 → ¬ (c ≠ 48 ∧ isF c2 = true ∧ 10 * (c - 48) + (c2 - 48) ≤ 40)) → hI [some (.ref x), some (.int (pw : Int))] 1 ∧ Q (.int (pw : Int)) (upd H x (rdO cRd dx t l2)) := fun h => by
      refine ⟨rfl, ?_⟩
      rcases inv with i | ⟨_, _, i1, i2⟩
      · obtain ⟨k1, k2⟩ := keep i (h i.1)
        exact fin k1 k2
      · exact fin i1 i2
    refine ⟨⟨rfl, True.intro⟩, ?_⟩
    dsimp only
    by_cases z : pw = 0
    · rw [if_neg (by show ¬ (decide (¬ (pw : Int) = 0) = true); simp [z])]
      exact stop fun e c2 l3 _ h => h.1 (by omega)
    · rw [if_pos (by show decide (¬ (pw : Int) = 0) = true; exact decide_eq_true (by omega))]
      refine ⟨_, rfl, x, dx, _, rfl, upd_same, rfl, x, dx, t, _, l2, rfl, upd_same, hs2, _, rfl, ?_⟩
      rw [stB_fig]
      cases l2 with
      | nil => exact stop fun _ _ _ y => nomatch y
      | cons c2 l3 =>
        dsimp only
        by_cases f2 : isF c2 = true
        case neg =>
          rw [if_neg f2]
          exact stop fun _ c3 l4 y h => by cases y; exact f2 h.2.1
        case pos =>
          rw [if_pos f2]
          have hf2 := isF_iff.mp f2
          refine ⟨⟨True.intro, rfl, ?_⟩, _, rfl, x, cRd, dx, _, _, rfl, upd_same, T.cl_Reader, T.na_Reader_text, rfl, _, rfl, x, cRd, dx, _, _, rfl, upd_same, T.cl_Reader, T.na_Reader_place, rfl, t, _, c2, rfl, rfl, hsm, atI_nat hs2.at, _, _, rfl, int_one f2, by show 1 ≤ 640; decide, _, _, rfl, rfl, True.intro, _, _, rfl, rfl, _, rfl, ?_⟩
          · exact CMul.ok (.inl ⟨by decide, by decide⟩)
          · dsimp only
            by_cases y : 10 * pw + (c2 - 48) ≤ 40
            · rw [if_pos (by show decide (10 * (pw : Int) + ((c2 - 48 : Nat) : Int) ≤ 40) = true; exact decide_eq_true (by omega))]
              have i1 : pw = c - 48 ∧ c2 :: l3 = l' := by
                rcases inv with i | ⟨i, _⟩
                · exact i
                · omega
              have c48 : c ≠ 48 := by omega
              have eF2 : takeP (c :: l') = .ok [c, c2] l3 := by
                rw [← i1.2]
                unfold takeP
                dsimp only
                rw [if_pos hc, if_pos ⟨c48, f2, by omega⟩]
              rw [eF] at eF2
              injection eF2 with eA eR
              have ef := fv_two c c2
              refine ⟨fun σ' H' => σ' = [some (.ref x), some (.int ((10 * pw + (c2 - 48) : Nat) : Int))] ∧ H' = upd H x (rdO cRd dx t l3), fun σ' H' ⟨e1, e2⟩ => ⟨l3.length, Nat.lt_succ_self _, l3, 10 * pw + (c2 - 48), rfl, e1, e2, hs2.tail, .inr ⟨by omega, y, by rw [eA, ef]; omega, eR.symm⟩⟩, ?_⟩
              refine ⟨⟨True.intro, rfl, CMul.ok (.inl ⟨by decide, by decide⟩)⟩, _, rfl, x, dx, _, rfl, upd_same, rfl, x, dx, t, _, c2 :: l3, rfl, upd_same, hs2, fun c3 l4 e3 hc3 => ?_, fun e3 => ?_⟩
              · cases e3
                refine ⟨_, _, rfl, int_one f2, by show 1 ≤ 640; decide, _, _, rfl, rfl, ?_, ?_⟩
                · show [some (V.ref x), some (V.int (10 * (pw : Int) + ((c2 - 48 : Nat) : Int)))] = _
                  rw [show 10 * (pw : Int) + ((c2 - 48 : Nat) : Int) = ((10 * pw + (c2 - 48) : Nat) : Int) from by omega]
                · rw [upd_upd]
              · rw [stB_fig] at e3
                rw [show isF c2 = false from e3] at f2
                cases f2
            · rw [if_neg (by show ¬ (decide (10 * (pw : Int) + ((c2 - 48 : Nat) : Int) ≤ 40) = true); simp only [decide_eq_true_eq]; omega)]
              exact stop fun e c3 l4 e4 h => by
                cases e4
                have := h.2.2
                omega
  · rw [stB_fig] at e
    cases l with
    | nil => exact qe 0 rfl
    | cons c l =>
      have nf : ¬ isF c = true := by rw [show isF c = false from e]; exact Bool.false_ne_true
      cases l with
      | nil => exact qe 1 (by unfold takeP; dsimp only; rw [if_neg nf])
      | cons d l => exact qe (l.length + 2) (by unfold takeP; dsimp only; rw [if_neg nf])


noncomputable def nOf (ds : List Nat) : Int := if ds = [] then 1 else ((fv ds : Nat) : Int)
noncomputable def pOf : Option (List Nat) → Int
  | none => 0
  | some [] => 1
  | some (p :: ps) => ((fv (p :: ps) : Nat) : Int)
theorem badE.upd {cBT C x dx : Addr} {E : XK} {H : Hp} {t : Str} {m : Nat} {l : List Nat} (h : badE cBT E H C x dx t m) : badE cBT E (upd H x (rdO C dx t l)) C x dx t m := fun d l' hd => by
  have nd : d ≠ x := fun z => by rw [z, upd_same] at hd; cases hd
  rw [upd_upd]
  exact h d l' (by rw [upd_ne nd] at hd; exact hd)
noncomputable def spTerm (cBT C : Addr) : Sp := fun vs H Q E => ∃ (x dx : Addr) (t : Str) (l : List Nat), vs = [.ref x] ∧ H x = some (rdO C dx t l) ∧ Sfx t l ∧ (∀ tm l', takeT l = .ok tm l' → Sfx t l' → ∀ p, upd H x (rdO C dx t l') p = none → Q (.ref p) (upd (upd H x (rdO C dx t l')) p (.tup [.int (nOf tm.1), .int (pOf tm.2)]))) ∧ ∀ m, takeT l = .bad m → badE cBT E H C x dx t m
theorem st1 {l : List Nat} {c : Nat} {sg : Str} (h : sg.cps.toList = [c]) : stB l sg.cps.toList = match l with | [] => false | d :: _ => decide (d = c) := by
  rw [h]
  cases l with
  | nil => rfl
  | cons d l => show decide _ = decide _; simp
theorem xS : ("x" : Str).cps.toList = [120] := by decide +kernel
theorem cS : ("^" : Str).cps.toList = [94] := by decide +kernel
theorem om_taken_term (T : Top K mg cFE cBP cBT cK cW cRd) : OkM P w K mg base (CXe P w) 5 cRd "taken_term" ["self"] (spTerm cBT cRd) := by
  obtain ⟨f, fd, Fu, b, m⟩ := T.f_Reader_taken_term
  refine ⟨f, fd, ?_, b, m, T.cl_Reader⟩
  obtain ⟨oc, od, kV, doc, pm, an, cdv, ct, osl, rfl, lk, hcd⟩ := Fu.ex
  refine fn_of lk hcd sc_Reader_taken_term (fun vs H Q E h => ?_) fun A outer s H vs Q E hr h => ?_
  · obtain ⟨x, dx, t, l, rfl, _⟩ := h
    rfl
  obtain ⟨x, dx, t, l, rfl, hx, hs, q, qe⟩ := h
  obtain ⟨tr, hR, rest⟩ : ∃ tr, PSs (cxOf (CXe P w) P w K mg base ["self", "number"] "Reader.taken_term" (defScope s_Reader_taken_term) f cdv A outer s H E) ((defBody s_Reader_taken_term).drop 2) tr ∧ ∀ (ds r : List Nat), Sfx t (120 :: r) → (∀ tm l', takeX ds r = .ok tm l' → Sfx t l' → ∀ p, upd H x (rdO cRd dx t l') p = none → Q (.ref p) (upd (upd H x (rdO cRd dx t l')) p (.tup [.int (nOf tm.1), .int (pOf tm.2)]))) → (∀ m, takeX ds r = .bad m → badE cBT E H cRd x dx t m) →
      tr { nx := fun _ H' => Q .non H', rt := Q } [some (.ref x), some (.int (nOf ds))] (upd H x (rdO cRd dx t (120 :: r))) := by
    refine ⟨_, (pss_cons (ps_expr (pe_methO (om_taken T) hr passE (pv 0) (pa_cons pe_str pa_nil)))
 (pss_cons (ps_if (pt_not (pt_val (pe_methO (om_stands T) hr pass0 (pv 0) (pa_cons pe_str pa_nil)) (fun _ => rfl)))
 (pss_one (ps_ret (pe_tup (pa_cons (pn_var 1) (pa_cons pn_int pa_nil)))))
 pss_nil)
 (pss_cons (ps_expr (pe_methO (om_taken T) hr passE (pv 0) (pa_cons pe_str pa_nil)))
 (pss_one (ps_ret (pe_tup (pa_cons (pn_var 1) (pa_cons (pe_methO0 (om_taken_power T) hr passE (pv 0)) pa_nil)))))))), fun ds r hs q qe => ?_⟩
    refine ⟨_, rfl, x, dx, _, rfl, upd_same, rfl, x, dx, t, _, 120 :: r, rfl, upd_same, hs, fun c l' e hc => ?_, fun e => ?_⟩
    · cases e
      rw [upd_upd]
      refine ⟨_, rfl, x, dx, _, rfl, upd_same, rfl, x, dx, t, _, r, rfl, upd_same, hs.tail, _, rfl, ?_⟩
      dsimp only
      have ret1 : takeX ds r = .ok (ds, some []) r → ∀ p, upd H x (rdO cRd dx t r) p = none → Q (.ref p) (upd (upd H x (rdO cRd dx t r)) p (.tup [.int (nOf ds), .int 1])) := fun e => q _ _ e hs.tail
      rw [st1 cS]
      cases r with
      | nil => exact ⟨rfl, True.intro, by show 2 ≤ sizeLine; rw [sizeLine_eq]; omega, ret1 rfl⟩
      | cons c r2 =>
        dsimp only
        by_cases z : c = 94
        · subst z
          have eX : takeX ds (94 :: r2) = match takeP r2 with
            | .bad m => .bad m
            | .ok ps r' => .ok (ds, some ps) r' := rfl
          rw [if_neg (by simp)]
          refine ⟨_, rfl, x, dx, _, rfl, upd_same, rfl, x, dx, t, _, 94 :: r2, rfl, upd_same, hs.tail, fun c l' e hc => ?_, fun e => ?_⟩
          · cases e
            rw [upd_upd]
            refine ⟨rfl, _, rfl, x, dx, _, rfl, upd_same, rfl, x, dx, t, r2, rfl, upd_same, hs.tail.tail, fun ps l' e => ?_, fun m e => ?_⟩
            · rw [upd_upd]
              obtain ⟨h1, h2, _⟩ := takeP_tx e
              have hs3 : Sfx t l' := ⟨(show l' <:+ r2 from ⟨ps, h1.symm⟩).trans hs.tail.tail.sfx, hs.few⟩
              have z := q (ds, some ps) l' (by rw [eX, e]) hs3
              cases ps with
              | nil => exact absurd rfl h2
              | cons p ps => exact ⟨by show 2 ≤ sizeLine; rw [sizeLine_eq]; omega, z⟩
            · exact (qe m (by rw [eX, e])).upd
          · rw [st1 cS] at e
            cases e
        · rw [if_pos (by simp [z])]
          have e : takeX ds (c :: r2) = .ok (ds, some []) (c :: r2) := by unfold takeX; dsimp only; rw [if_neg z]
          exact ⟨rfl, True.intro, by show 2 ≤ sizeLine; rw [sizeLine_eq]; omega, ret1 e⟩
    · rw [st1 xS] at e
      cases e
  refine ⟨_, (pss_cons (ps_setN (i := 1) sc_Reader_taken_term.nd rfl (Or.inl rfl) pn_int)
 (pss_cons (ps_if (pt_not (pt_val (pe_methO (om_stands T) hr pass0 (pv 0) (pa_cons pe_str pa_nil)) (fun _ => rfl)))
 (pss_cons (ps_set (i := 1) sc_Reader_taken_term.nd rfl (Or.inl rfl) (pe_methO0 (om_taken_number T) hr passE (pv 0)))
 (pss_one (ps_if (pt_not (pt_val (pe_methO (om_stands T) hr pass0 (pv 0) (pa_cons pe_str pa_nil)) (fun _ => rfl)))
 (pss_one (ps_ret (pe_tup (pa_cons (pn_var 1) (pa_cons pn_int pa_nil)))))
 pss_nil)))
 pss_nil)
 hR)), ?_⟩
  refine ⟨True.intro, fun u e => ?_⟩
  have e : u = 1 := e
  subst e
  refine ⟨_, rfl, x, dx, _, rfl, hx, rfl, x, dx, t, _, l, rfl, hx, hs, _, rfl, ?_⟩
  dsimp only
  rw [st1 xS]
  have other : (∀ c r, l = c :: r → c ≠ 120) → takeT l = match takeN l with
      | .bad m => .bad m
      | .ok ds r' => takeR ds r' := fun h => by
    cases l with
    | nil => rfl
    | cons c r => unfold takeT; dsimp only; rw [if_neg (h c r rfl)]; all_goals (cases takeN (c :: r) <;> rfl)
  have part : (∀ c r, l = c :: r → c ≠ 120) → ∀ ds l', takeN l = .ok ds l' → Sfx t l' ∧ ds ≠ [] ∧ takeT l = takeR ds l' := fun h ds l' e => by
    obtain ⟨h1, h2, _⟩ := takeN_tx e
    exact ⟨⟨(show l' <:+ l from ⟨ds, h1.symm⟩).trans hs.sfx, hs.few⟩, h2, by rw [other h, e]⟩
  by_cases z : ∃ r, l = 120 :: r
  · obtain ⟨r, rfl⟩ := z
    rw [if_neg (by simp)]
    have eT : takeT (120 :: r) = takeX [] r := rfl
    have y := rest [] r hs (fun tm l' e => q tm l' (eT.trans e)) fun m e => qe m (eT.trans e)
    rw [upd_eq hx] at y
    exact y
  · have z' : ∀ c r, l = c :: r → c ≠ 120 := fun c r e h => z ⟨r, by rw [e, h]⟩
    rw [if_pos (by cases l with | nil => rfl | cons c r => simp [z' c r rfl])]
    refine ⟨_, rfl, x, dx, _, rfl, hx, rfl, x, dx, t, l, rfl, hx, hs, fun ds l' e => ?_, fun m e => qe m (by rw [other z', e])⟩
    obtain ⟨hs2, hn, eT⟩ := part z' ds l' e
    have en : nOf ds = ((fv ds : Nat) : Int) := if_neg hn
    refine ⟨_, rfl, x, dx, _, rfl, upd_same, rfl, x, dx, t, _, l', rfl, upd_same, hs2, _, rfl, ?_⟩
    dsimp only
    rw [st1 xS]
    have ret0 : takeR ds l' = .ok (ds, none) l' → ∀ p, upd H x (rdO cRd dx t l') p = none → Q (.ref p) (upd (upd H x (rdO cRd dx t l')) p (.tup [.int ((fv ds : Nat) : Int), .int 0])) := fun e => by
      rw [← en]
      exact q _ _ (eT.trans e) hs2
    cases l' with
    | nil => exact ⟨rfl, True.intro, by show 2 ≤ sizeLine; rw [sizeLine_eq]; omega, ret0 rfl⟩
    | cons c r =>
      dsimp only
      by_cases y : c = 120
      · subst y
        rw [if_neg (by simp)]
        have eR : takeR ds (120 :: r) = takeX ds r := rfl
        have v := rest ds r hs2 (fun tm l' e => q tm l' (eT.trans (eR.trans e))) fun m e => qe m (eT.trans (eR.trans e))
        rw [en] at v
        exact v
      · rw [if_pos (by simp [y])]
        exact ⟨rfl, True.intro, by show 2 ≤ sizeLine; rw [sizeLine_eq]; omega, ret0 (by unfold takeR; dsimp only; rw [if_neg y])⟩


noncomputable def addT (row : List Int) (g : Int) (tm : Trm) : List Int := row.set (pOf tm.2).toNat (row.getD (pOf tm.2).toNat 0 + g * nOf tm.1)
theorem addT_len {row : List Int} {g : Int} {tm : Trm} : (addT row g tm).length = row.length := List.length_set
theorem pOf_ok {tm : Trm} (h : GoodT tm) : 0 ≤ pOf tm.2 ∧ pOf tm.2 ≤ 40 := by
  obtain ⟨ds, o⟩ := tm
  match o with
  | none => exact ⟨by show (0 : Int) ≤ 0; decide, by show (0 : Int) ≤ 40; decide⟩
  | some [] => exact ⟨by show (0 : Int) ≤ 1; decide, by show (1 : Int) ≤ 40; decide⟩
  | some (p :: ps) =>
    have := (h.pow _ rfl).2.2
    show (0 : Int) ≤ ((fv (p :: ps) : Nat) : Int) ∧ ((fv (p :: ps) : Nat) : Int) ≤ 40
    omega
noncomputable def spAdd (cBT C : Addr) : Sp := fun vs H Q E => ∃ (a x dx : Addr) (t : Str) (l : List Nat) (row : List Int) (g : Int), vs = [.ref a, .int g, .ref x] ∧ (g = 1 ∨ g = -1) ∧ H a = some (.lst (row.map V.int)) ∧ row.length = 41 ∧ H x = some (rdO C dx t l) ∧ Sfx t l ∧
  (∀ tm l', takeT l = .ok tm l' → Sfx t l' → ∀ H', H' x = some (rdO C dx t (skipB l')) → H' a = some (.lst ((addT row g tm).map V.int)) → (∀ b o, b ≠ x → b ≠ a → H b = some o → H' b = some o) → Q .non H') ∧ ∀ m, takeT l = .bad m → badE cBT E H C x dx t m
theorem ok_add_term (T : Top K mg cFE cBP cBT cK cW cRd) : OkE P w K mg base 6 "add_term" ["sums", "factor", "reader"] (spAdd cBT cRd) := by
  obtain ⟨f, fd, Fu, b, m⟩ := T.d_add_term.ex
  refine ⟨f, fd, ?_, b, Fu.kp, m⟩
  obtain ⟨oc, od, kV, doc, pm, an, cdv, ct, osl, rfl, lk, hcd⟩ := Fu.ex
  refine fn_of lk hcd sc_add_term (fun vs H Q E h => ?_) fun A outer s H vs Q E hr h => ?_
  · obtain ⟨a, x, dx, t, l, row, g, rfl, _⟩ := h
    rfl
  obtain ⟨a, x, dx, t, l, row, g, rfl, hg, ha, hl, hx, hs, q, qe⟩ := h
  have ax : a ≠ x := ne_of ha hx (fun z => nomatch z)
  refine ⟨_, (pss_cons (ps_set (i := 3) sc_add_term.nd rfl (Or.inl rfl) (pe_methO0 (om_taken_term T) hr passE (pv 2)))
 (pss_cons (ps_augS (pv 0) (pe_ix ix_tup (pv 3) pn_int (fun _ _ => rfl)) get_list (pe_op op_mulB (pn_var 1) (pe_ix ix_tup (pv 3) pn_int (fun _ _ => rfl))) ip_add set_list)
 (pss_one (ps_expr (pe_methO0 (om_skip_blanks T) hr pass0 (pv 2)))))), ?_⟩
  refine ⟨_, rfl, x, dx, _, rfl, hx, rfl, x, dx, t, l, rfl, hx, hs, fun tm l' e hs' p hp => ?_, qe⟩
  have gd := (takeT_tx e).2
  obtain ⟨p0, p1⟩ := pOf_ok gd
  obtain ⟨k, ek⟩ := Int.eq_ofNat_of_zero_le p0
  have hk : k < row.length := by omega
  have px : p ≠ x := fun z => by rw [z, upd_same] at hp; cases hp
  have pa : p ≠ a := fun z => by rw [z, upd_ne ax, ha] at hp; cases hp
  have hA : upd (upd H x (rdO cRd dx t l')) p (.tup [.int (nOf tm.1), .int (pOf tm.2)]) a = some (.lst (row.map V.int)) := by rw [upd_ne (Ne.symm pa), upd_ne ax]; exact ha
  have hk2 : (row.map V.int)[k]? = some (.int (row.getD k 0)) := by
    rw [List.getElem?_map, List.getElem?_eq_getElem hk, List.getD_eq_getElem?_getD, List.getElem?_eq_getElem hk]; rfl
  have mk : IntMulOk g (nOf tm.1) := CMul.ok (.inl (by rcases hg with rfl | rfl <;> exact ⟨by decide, by decide⟩))
  refine ⟨_, rfl, _, rfl, True.intro, p, _, _, _, rfl, rfl, SqT.of upd_same, rfl, a, _, _, .int (row.getD k 0), rfl, rfl, SqL.of hA, by rw [ek]; exact atI_nat hk2, ?_⟩
  refine ⟨rfl, _, rfl, True.intro, p, _, _, _, rfl, rfl, SqT.of upd_same, rfl, _, _, rfl, rfl, mk, _, _, rfl, rfl, a, _, _, k, rfl, rfl, hA, ?_, ?_⟩
  · rw [ek, List.length_map]
    unfold ixN
    rw [if_pos (Int.natCast_nonneg k), if_pos (Int.ofNat_lt.mpr hk)]
    rfl
  · have eS : (row.map V.int).set k (.int (row.getD k 0 + g * nOf tm.1)) = (addT row g tm).map V.int := by
      unfold addT
      rw [List.map_set, ek]
      rfl
    have hX : upd (upd (upd H x (rdO cRd dx t l')) p (.tup [.int (nOf tm.1), .int (pOf tm.2)])) a (.lst ((row.map V.int).set k (.int (row.getD k 0 + g * nOf tm.1)))) x = some (rdO cRd dx t l') := by
      rw [upd_ne (Ne.symm ax), upd_ne (Ne.symm px), upd_same]
    refine ⟨_, rfl, x, dx, _, rfl, hX, rfl, x, dx, t, l', rfl, hX, hs', ?_⟩
    refine q tm l' e hs' _ upd_same ?_ fun b o bx ba hb => ?_
    · rw [upd_ne ax, upd_same]
      exact congrArg (fun z => some (HO.lst z)) eS
    · have bp : b ≠ p := fun z => by rw [upd_ne px] at hp; rw [z, hp] at hb; cases hb
      rw [upd_ne bx, upd_ne ba, upd_ne bp, upd_ne bx]
      exact hb


noncomputable def rowOf (ts : List (Bool × Trm)) : List Int := ts.foldl (fun row u => addT row (if u.1 then -1 else 1) u.2) (List.replicate 41 0)
theorem rowOf_snoc (ts : List (Bool × Trm)) (g : Bool) (tm : Trm) : rowOf (ts ++ [(g, tm)]) = addT (rowOf ts) (if g then -1 else 1) tm := by
  unfold rowOf
  rw [List.foldl_append]
  rfl
theorem rowOf_len (ts : List (Bool × Trm)) : (rowOf ts).length = 41 := by
  unfold rowOf
  suffices h : ∀ (ts : List (Bool × Trm)) (row : List Int), row.length = 41 → (ts.foldl (fun row u => addT row (if u.1 then -1 else 1) u.2) row).length = 41 from h ts _ (List.length_replicate)
  intro ts
  induction ts with
  | nil => exact fun _ h => h
  | cons u ts ih => exact fun row h => ih _ (by rw [addT_len]; exact h)
/-- the reader at x, the sums at a, all that was there at first -/
structure Jr (H : Hp) (C x dx a : Addr) (t : Str) (l : List Nat) (row : List Int) (H' : Hp) : Prop where
  rd : H' x = some (rdO C dx t l)
  sm : H' a = some (.lst (row.map V.int))
  same : Same H H'
  sfx : Sfx t l
theorem Jr.move {H H' : Hp} {C x dx a : Addr} {t : Str} {l l' : List Nat} {row : List Int} (j : Jr H C x dx a t l row H') (hx : H x = none) (ax : a ≠ x) (s : Sfx t l') : Jr H C x dx a t l' row (upd H' x (rdO C dx t l')) :=
  ⟨upd_same, by rw [upd_ne ax]; exact j.sm, fun b o hb => by rw [upd_ne (fun z => by rw [z, hx] at hb; cases hb)]; exact j.same b o hb, s⟩
theorem Jr.bad {H H' : Hp} {C x dx a cBT : Addr} {E : XK} {t : Str} {l : List Nat} {row : List Int} {m : Nat} (j : Jr H C x dx a t l row H') (hx : H x = none)
    (h : ∀ H2 d, Same H H2 → H d = none → H2 d = some (.xd [("place", .int ((t.length - m : Nat) : Int))]) → E (.ref cBT) (some d) H2) : badE cBT E H' C x dx t m := fun d l' hd => by
  have nd : H d = none := by
    cases z : H d with
    | none => rfl
    | some o => obtain ⟨u, e⟩ := (j.same d o z).some; rw [e] at hd; cases hd
  refine h _ d (fun b o hb => ?_) nd upd_same
  rw [upd_ne (fun z => by rw [z, nd] at hb; cases hb), upd_ne (fun z => by rw [z, hx] at hb; cases hb)]
  exact j.same b o hb
theorem Jr.next {H H' H2 : Hp} {C x dx a : Addr} {t : Str} {l l' : List Nat} {row row' : List Int} (j : Jr H C x dx a t l row H') (hx : H x = none) (r : H2 x = some (rdO C dx t l')) (s : H2 a = some (.lst (row'.map V.int))) (k : ∀ b o, b ≠ x → b ≠ a → H' b = some o → H2 b = some o) (sf : Sfx t l') (ha : H a = none) : Jr H C x dx a t l' row' H2 :=
  ⟨r, s, fun b o hb => by
    obtain ⟨u, e⟩ := (j.same b o hb).some
    have z := j.same b o hb
    rw [e] at z
    rw [k b u (fun y => by rw [y, hx] at hb; cases hb) (fun y => by rw [y, ha] at hb; cases hb) e]
    exact z, sf⟩
noncomputable def spRead (cBT : Addr) : Sp := fun vs H Q E => ∃ t : Str, vs = [.str t] ∧ t.length ≤ 10000 ∧ (∀ ts, rdA t.cps.toList = .ok ts → ∀ H' a, Same H H' → H a = none → H' a = some (.lst ((trimZ ((rowOf ts).map (pl 0))).map V.int)) → Q (.ref a) H') ∧
  ∀ m, rdA t.cps.toList = .error m → ∀ H2 d, Same H H2 → H d = none → H2 d = some (.xd [("place", .int ((t.length - m : Nat) : Int))]) → E (.ref cBT) (some d) H2
theorem ok_read (T : Top K mg cFE cBP cBT cK cW cRd) : OkE P w K mg base 7 "read" ["text"] (spRead cBT) := by
  obtain ⟨f, fd, Fu, b, m⟩ := T.d_read.ex
  refine ⟨f, fd, ?_, b, Fu.kp, m⟩
  obtain ⟨oc, od, kV, doc, pm, an, cdv, ct, osl, rfl, lk, hcd⟩ := Fu.ex
  refine fn_of lk hcd sc_read (fun vs H Q E h => ?_) fun A outer s H vs Q E hr h => ?_
  · obtain ⟨t, rfl, _⟩ := h
    rfl
  obtain ⟨t, rfl, ht, q, qe⟩ := h
  have hs0 : Sfx t t.cps.toList := ⟨List.suffix_refl _, ht⟩
  obtain ⟨tr, hR, rest⟩ : ∃ tr, PSs (cxOf (CXe P w) P w K mg base ["text", "reader", "sums", "factor"] "read" (defScope s_read) f cdv A outer s H E) ((defBody s_read).drop 4) tr ∧ ∀ (x dx a : Addr) (g : Bool) (l2 : List Nat) (H4 : Hp), H x = none → H a = none → a ≠ x → Jr H cRd x dx a t l2 (rowOf []) H4 → rdA t.cps.toList = rd1 g l2 →
      tr { nx := fun _ H' => Q .non H', rt := Q } [some (.str t), some (.ref x), some (.ref a), some (.int (if g then -1 else 1))] H4 := by
    refine ⟨_, (pss_cons (ps_expr (pe_callE (ok_add_term T) passE hr (pa_cons (pv 2) (pa_cons (pn_var 3) (pa_cons (pv 1) pa_nil)))))
 (pss_cons (ps_while PassesOwn.leaving (pt_not (pt_val (pe_methO0 (om_at_end T) hr pass0 (pv 1)) (fun _ => rfl)))
 (pss_cons (ps_set (i := 3) sc_read.nd rfl (Or.inl rfl) (pe_methO0 (om_taken_sign T) hr passE (pv 1)))
 (pss_one (ps_expr (pe_callE (ok_add_term T) passE hr (pa_cons (pv 2) (pa_cons (pn_var 3) (pa_cons (pv 1) pa_nil))))))))
 (pss_one (ps_ret (pe_callO (kx_trimmed T) hr (pa_cons (pe_makeO0 (oi_Wholes T) hr pass0) (pa_cons (pv 2) pa_nil))))))), fun x dx a g l2 H4 hx ha ax J eA => ?_⟩
    refine ⟨_, rfl, rfl, _, rfl, a, x, dx, t, l2, rowOf [], (if g then -1 else 1), rfl, by cases g; exact .inl rfl; exact .inr rfl, J.sm, rowOf_len _, J.rd, J.sfx, fun tm l' e hs' H5 r5 s5 k5 => ?_, fun m e => J.bad hx (qe m (eA.trans ((rd1_K g l2).1 m e)))⟩
    have J5 : Jr H cRd x dx a t (skipB l') (rowOf ([] ++ [(g, tm)])) H5 := J.next hx r5 (by rw [rowOf_snoc]; exact s5) k5 hs'.skip ha
    have eB : rdA t.cps.toList = appK ([] ++ [(g, tm)]) (rdK (skipB l')) := by
      rw [eA, (rd1_K g l2).2 tm l' e, ← appK_put]
      cases putK g tm (rdK (skipB l')) <;> rfl
    refine ⟨fun n σ H' => ∃ (ts : List (Bool × Trm)) (l : List Nat) (fac : Int), n = l.length ∧ σ = [some (.str t), some (.ref x), some (.ref a), some (.int fac)] ∧ Jr H cRd x dx a t l (rowOf ts) H' ∧ skipB l = l ∧ rdA t.cps.toList = appK ts (rdK l), ⟨_, _, _, _, rfl, rfl, J5, skipB_idem _, eB⟩, ?_⟩
    rintro n σ H' ⟨ts, l, fac, rfl, rfl, J6, hsk, eC⟩
    refine ⟨_, rfl, x, dx, _, rfl, J6.rd, rfl, x, dx, t, l, rfl, J6.rd, J6.sfx, _, rfl, ?_⟩
    dsimp only
    cases l with
    | nil =>
      have eD : rdA t.cps.toList = .ok ts := by
        rw [eC]
        show Except.ok (ts ++ []) = _
        rw [List.append_nil]
      have q := q ts eD
      rw [if_neg (by exact Bool.false_ne_true)]
      refine fun x2 dx2 n1 n2 ne => ⟨x2, dx2, rfl, upd_same, rfl, _, rfl, ?_⟩
      rw [upd_upd]
      have ax2 : a ≠ x2 := fun y => by rw [← y, J6.sm] at n1; cases n1
      have adx : a ≠ dx2 := fun y => by rw [← y, J6.sm] at n2; cases n2
      have no : ∀ b, H' b = none → H b = none := fun b hb => by
        cases y : H b with
        | none => rfl
        | some o => obtain ⟨u, e⟩ := (J6.same b o y).some; rw [hb] at e; cases e
      refine ⟨[.ob 0 0, .ints (rowOf ts)], fun _ => false, (fun _ z => by cases z), ⟨_, _, rfl, ⟨x2, rfl, ?_⟩, _, _, rfl, ⟨a, rfl, .inl ?_⟩, rfl⟩, ⟨0, rowOf ts, rfl, by rw [rowOf_len]; decide⟩, fun a2 H7 s7 n7 e7 => q H7 a2 ?_ ?_ e7⟩
      · exact g82W _ x2 dx2 (by rw [mn_of rfl]; exact upd_same)
      · rw [mn_of rfl, upd_ne ax2, upd_ne adx]
        exact J6.sm
      · refine Same.trans (fun b o hb => ?_) s7
        rw [upd_ne (fun y => by rw [y, no x2 n1] at hb; cases hb), upd_ne (fun y => by rw [y, no dx2 n2] at hb; cases hb)]
        exact J6.same b o hb
      · have a2x : a2 ≠ x2 := fun y => by rw [y, upd_same] at n7; cases n7
        rw [upd_ne a2x] at n7
        have a2d : a2 ≠ dx2 := fun y => by rw [y, upd_same] at n7; cases n7
        rw [upd_ne a2d] at n7
        exact no a2 n7
    | cons c r =>
      rw [if_pos (by rfl)]
      have h32 := skipB_head hsk
      have mv : ∀ l', Sfx t l' → Jr H cRd x dx a t l' (rowOf ts) (upd H' x (rdO cRd dx t l')) := fun l' s => J6.move hx ax s
      refine ⟨fun σ' H2 => ∃ (ts' : List (Bool × Trm)) (l' : List Nat) (fac : Int), l'.length < (c :: r).length ∧ σ' = [some (.str t), some (.ref x), some (.ref a), some (.int fac)] ∧ Jr H cRd x dx a t l' (rowOf ts') H2 ∧ skipB l' = l' ∧ rdA t.cps.toList = appK ts' (rdK l'), fun σ' H2 ⟨ts', l', fac, h1, h2⟩ => ⟨l'.length, h1, ts', l', fac, rfl, h2⟩, ?_⟩
      refine ⟨_, rfl, x, dx, _, rfl, J6.rd, rfl, x, dx, t, c :: r, rfl, J6.rd, J6.sfx, fun c' r' e z => ?_, fun e => ?_⟩
      · cases e
        have J7 := mv (skipB r) J6.sfx.tail.skip
        refine ⟨_, rfl, rfl, _, rfl, a, x, dx, t, skipB r, rowOf ts, sgn c, rfl, by unfold sgn; split <;> simp, J7.sm, rowOf_len _, J7.rd, J7.sfx, fun tm l' e hs' H5 r5 s5 k5 => ?_, fun m e => J7.bad hx (qe m (by rw [eC, (rdK_sign z).1 m e]; rfl))⟩
        refine ⟨ts ++ [(decide (c = 45), tm)], skipB l', sgn c, ?_, rfl, J7.next hx r5 ?_ k5 hs'.skip ha, skipB_idem _, ?_⟩
        · have h1 := skipB_len l'
          have h2 := takeT_len e
          have h3 := skipB_len r
          show _ < r.length + 1
          omega
        · rw [rowOf_snoc, show (if decide (c = 45) = true then (-1 : Int) else 1) = sgn c from by unfold sgn; by_cases y : c = 45 <;> simp [y]]
          exact s5
        · rw [eC, (rdK_sign z).2 tm l' e, appK_put]
      · exact J6.bad hx (qe _ (by rw [eC, rdK_bad h32 (e c r rfl)]; rfl))
  refine ⟨_, (pss_cons (ps_set (i := 1) sc_read.nd rfl (Or.inl rfl) (pe_makeO (oi_Reader T) hr pass0 (pa_cons (pv 0) pa_nil)))
 (pss_cons (ps_set (i := 2) sc_read.nd rfl (Or.inl rfl) (pe_op op_rep (pe_lst (pa_cons pn_int pa_nil)) (pn_add (pn_glob (by rfl) T.g_HIGHEST_POWER) pn_int)))
 (pss_cons (ps_expr (pe_methO0 (om_skip_blanks T) hr pass0 (pv 1)))
 (pss_cons (ps_set (i := 3) sc_read.nd rfl (Or.inl rfl) (pe_ifExp (pt_val (pe_methO (om_stands T) hr pass0 (pv 1) (pa_cons pe_str pa_nil)) (fun _ => rfl)) (pe_methO0 (om_taken_sign T) hr passE (pv 1)) pn_int))
 hR)))), ?_⟩
  refine ⟨_, rfl, fun x dx nx ndx dxx => ⟨x, dx, t, rfl, upd_same, rfl, ?_⟩⟩
  rw [upd_upd]
  have S1 : Same H (upd (upd H dx (.own x)) x (rdO cRd dx t t.cps.toList)) := fun b o hb => by
    rw [upd_ne (fun z => by rw [z, nx] at hb; cases hb), upd_ne (fun z => by rw [z, ndx] at hb; cases hb)]
    exact .of hb
  have X1 : upd (upd H dx (.own x)) x (rdO cRd dx t t.cps.toList) x = some (rdO cRd dx t t.cps.toList) := upd_same
  generalize upd (upd H dx (.own x)) x (rdO cRd dx t t.cps.toList) = H1 at S1 X1
  refine ⟨True.intro, by show 1 ≤ sizeLine; rw [sizeLine_eq]; omega, fun z hz => ?_⟩
  refine ⟨⟨True.intro, True.intro⟩, z, _, _, rfl, rfl, upd_same, by show -(2 : Int) ^ 63 ≤ 40 + 1; decide, by show (40 : Int) + 1 < 2 ^ 63; decide, by show 1 * 41 ≤ sizeLine; rw [sizeLine_eq]; decide, fun a na => ?_⟩
  have az : a ≠ z := fun y => by rw [y, upd_same] at na; cases na
  have a1 : H1 a = none := by rw [upd_ne az] at na; exact na
  have ax : a ≠ x := fun y => by rw [y, X1] at a1; cases a1
  have zx : z ≠ x := fun y => by rw [y, X1] at hz; cases hz
  have no : ∀ b, H1 b = none → H b = none := fun b hb => by
    cases y : H b with
    | none => rfl
    | some o => obtain ⟨u, e⟩ := (S1 b o y).some; rw [hb] at e; cases e
  have J0 : Jr H cRd x dx a t t.cps.toList (rowOf []) (upd (upd H1 z (.lst [.int 0])) a (.lst (List.replicate (Int.toNat (40 + 1)) [V.int 0]).flatten)) := by
    refine ⟨by rw [upd_ne (Ne.symm ax), upd_ne (Ne.symm zx)]; exact X1, ?_, fun b o hb => ?_, hs0⟩
    · rw [upd_same]
      exact congrArg (fun y => some (HO.lst y)) (by decide +kernel)
    · rw [upd_ne (fun y => by rw [y, no a a1] at hb; cases hb), upd_ne (fun y => by rw [y, no z hz] at hb; cases hb)]
      exact S1 b o hb
  generalize hH : upd (upd H1 z _) a _ = H2
  have J0 : Jr H cRd x dx a t t.cps.toList (rowOf []) H2 := by rw [← hH]; exact J0
  clear hH
  refine ⟨_, rfl, x, dx, _, rfl, J0.rd, rfl, x, dx, t, _, rfl, J0.rd, J0.sfx, ?_⟩
  have J1 := J0.move (l' := skipB t.cps.toList) nx ax hs0.skip
  generalize upd H2 x (rdO cRd dx t (skipB t.cps.toList)) = H3 at J1
  have eA : ∀ l1, skipB t.cps.toList = l1 → rdA t.cps.toList = match l1 with
    | [] => rd1 false []
    | c :: r => if c = 43 ∨ c = 45 then rd1 (decide (c = 45)) (skipB r) else rd1 false (c :: r) := fun l1 e => by
      unfold rdA; rw [e]; all_goals (cases l1 <;> rfl)
  generalize el : skipB t.cps.toList = l1 at J1
  have eA := eA l1 el
  refine ⟨_, rfl, x, dx, _, rfl, J1.rd, rfl, x, dx, t, _, l1, rfl, J1.rd, J1.sfx, _, rfl, ?_⟩
  have hna : H a = none := no a a1
  have sp : ("+-" : Str).cps.toList = [43, 45] := by decide +kernel
  rw [sp]
  dsimp only
  cases l1 with
  | nil => exact ⟨True.intro, rest x dx a false [] H3 nx hna ax J1 eA⟩
  | cons c r =>
    dsimp only at eA
    by_cases z : c = 43 ∨ c = 45
    · rw [if_pos z] at eA
      rw [if_pos (by simpa [stB] using z)]
      refine ⟨_, rfl, x, dx, _, rfl, J1.rd, rfl, x, dx, t, c :: r, rfl, J1.rd, J1.sfx, fun c' r' e _ => ?_, fun e => absurd z (e c r rfl)⟩
      cases e
      have y := rest x dx a (decide (c = 45)) (skipB r) _ nx hna ax (J1.move nx ax J1.sfx.tail.skip) eA
      rw [show (if decide (c = 45) = true then (-1 : Int) else 1) = sgn c from by unfold sgn; by_cases y : c = 45 <;> simp [y]] at y
      exact y
    · rw [if_neg z] at eA
      rw [if_neg (by simpa [stB] using z)]
      exact ⟨True.intro, rest x dx a false (c :: r) H3 nx hna ax J1 eA⟩
noncomputable def FRead (t : Str) : Int ⊕ List Int := match rdA t.cps.toList with
  | .error m => .inl ((t.length - m : Nat) : Int)
  | .ok ts => .inr (trimZ ((rowOf ts).map (pl 0)))
theorem kx_read (T : Top K mg cFE cBP cBT cK cW cRd) : OkE P w K mg base 7 "read" ["text"] (spX cBT (fun t => t.length ≤ 10000) FRead) := by
  obtain ⟨f, fd, F, b, kp, m⟩ := (ok_read (P := P) (w := w) (base := base) T).ex
  refine ⟨f, fd, F.imp fun vs H Q E h => ?_, b, kp, m⟩
  obtain ⟨t, rfl, hp, q, qe⟩ := h
  exact ⟨t, rfl, hp, fun ts e => q _ (by unfold FRead; rw [e]), fun m e => qe _ (by unfold FRead; rw [e])⟩


theorem sh_none {f : List Int} (h : ∀ j, j < f.length → f.getD j 0 = 0) : shS (trimZ f) = ("0" : Str) := by
  have e : trimZ f = [] := by
    by_cases c : trimZ f = []
    · exact c
    · refine absurd ?_ (trim_form f c)
      rw [trim_get]
      by_cases d : (trimZ f).length - 1 < f.length
      · exact h _ d
      · exact getD_ge (by omega)
  unfold shS
  rw [if_pos e]
theorem sh_some {f : List Int} {t : Nat} (ht : t < f.length) (h0 : f.getD t 0 ≠ 0) (hz : ∀ j, t < j → j < f.length → f.getD j 0 = 0) : shS (trimZ f) = sgS (f.getD t 0) ++ (tmS (f.getD t 0) (t : Int) ++ lowS f t) := by
  have l1 : t < (trimZ f).length := by
    by_cases c : t < (trimZ f).length
    · exact c
    · refine absurd ?_ h0
      rw [← trim_get]
      exact getD_ge (by omega)
  have ne : trimZ f ≠ [] := fun z => by rw [z] at l1; exact absurd l1 (Nat.not_lt_zero _)
  have l2 := trimZ_len f
  have l3 : (trimZ f).length - 1 = t := by
    by_cases c : (trimZ f).length - 1 = t
    · exact c
    · refine absurd ?_ (trim_form f ne)
      rw [trim_get]
      exact hz _ (by omega) (by omega)
  unfold shS
  rw [if_neg ne, l3]
  unfold topS
  rw [trim_get, lowS_same (trim_get f)]
theorem jn_it (n : Int) : itP (.lst [.str (" + " : Str), .str (" - " : Str)]) (if n < 0 then 1 else 0) = .str (jnS n) := by
  unfold jnS
  by_cases c : n < 0
  · rw [if_pos c, if_pos c]; rfl
  · rw [if_neg c, if_neg c]; rfl
theorem kx_term_shown (T : Top K mg cFE cBP cBT cK cW cRd) : Ok P w K mg base 1 "term_shown" ["number", "power"] (spF K (G82 cW) (fun as => ∃ n k, as = [.int n, .int k] ∧ (n.natAbs : Int) < 10 ^ 100 ∧ 0 ≤ k ∧ k < 1000) fun as => match as with
    | [.int n, .int k] => .str (tmS n k)
    | _ => .non) := by
  refine okF T.d_term_shown sc_term_shown (fun as ⟨a, b, h, _⟩ => by rw [h]; rfl) (fun f cdv A outer s H E hr => ⟨_, (xss_cons (xst_setS (i := 2) sc_term_shown.nd rfl (Or.inl rfl) (xs_ofI T.b_str (xn_abs T.b_abs (xn 0))))
 (xss_cons (xst_if (xt_eq (xn 1) xn_int)
 (xss_one (xst_ret (xs 2)))
 xss_nil)
 (xss_cons (xst_setS (i := 3) sc_term_shown.nd rfl (Or.inl rfl) (xs_if (xt_eqS (xs 2) xs_str) xs_str (xs 2)))
 (xss_one (xst_ret (xs_if (xt_eq (xn 1) xn_int) (xs_add (xs 3) xs_str) (xs_f3 (xs 3) (xn 1)))))))), fun as hp => ?_⟩)
  obtain ⟨n, k, rfl, hn, k0, hk⟩ := hp
  have nn : (((n.natAbs : Int)).natAbs : Int) < 10 ^ 100 := hn
  have ab : (if n < 0 then -n else n) = (n.natAbs : Int) := by split <;> omega
  have lab : (if n < 0 then -n else n).natAbs.log2 < 1920 := by rw [ab]; exact logB nn
  have h1 := numS_len (Int.natCast_nonneg _) hn
  have h2 := numS_len k0 (smallB hk)
  have lx : ("x" : Str).length = 1 := by decide +kernel
  have lx2 : ("x^" : Str).length = 2 := by decide +kernel
  have l0 : ("" : Str).length = 0 := by decide +kernel
  refine ⟨⟨rfl, lab⟩, fun fg efg => ?_⟩
  have efg : fg = numS (if n < 0 then -n else n) := efg
  rw [ab] at efg
  refine ⟨⟨rfl, True.intro⟩, fun q => ?_, fun q => ?_⟩
  · have q : k = 0 := q
    refine ⟨rfl, ?_⟩
    show PV.str fg = PV.str (tmS n k)
    unfold tmS
    rw [if_pos q, efg]
  have q : ¬ k = 0 := q
  refine ⟨⟨⟨rfl, True.intro⟩, fun _ => True.intro, fun _ => rfl⟩, fun ah eah => ?_⟩
  have eah : ah = if fg = ("1" : Str) then ("" : Str) else fg := eah
  have eah : ah = if n.natAbs = 1 then ("" : Str) else numS (n.natAbs : Int) := by
    rw [eah, efg]
    by_cases c : n.natAbs = 1
    · rw [if_pos c, if_pos ((one_iff (Int.natCast_nonneg _)).mpr (by omega))]
    · rw [if_neg c, if_neg (fun z => c (by have := (one_iff (Int.natCast_nonneg _)).mp z; omega))]
  have la : ah.length ≤ 100 := by
    rw [eah]
    split
    · rw [l0]; omega
    · exact h1.2
  have kk : (k.natAbs : Int) < 10 ^ 100 := by
    have := smallB hk
    generalize (10 : Int) ^ 100 = Z at *
    omega
  refine ⟨⟨⟨rfl, True.intro⟩, fun _ => ⟨rfl, True.intro, by show ah.length + ("x" : Str).length ≤ sizeLine; rw [lx]; exact sz (by omega)⟩, fun _ => ⟨rfl, rfl, by show ah.length ≤ sizeLine; exact sz (by omega), by show (ah ++ ("x^" : Str)).length ≤ sizeLine; rw [len_app, lx2]; exact sz (by omega), logB kk, by show (ah ++ ("x^" : Str) ++ numS k).length ≤ sizeLine; rw [len_app, len_app, lx2]; exact sz (by omega)⟩⟩, ?_⟩
  show PV.str (if k = 1 then ah ++ ("x" : Str) else ah ++ ("x^" : Str) ++ numS k) = PV.str (tmS n k)
  unfold tmS
  rw [if_neg q, ← eah]
  by_cases c : k = 1
  · rw [if_pos c, if_pos c]
  · rw [if_neg c, if_neg c, app_assoc']

theorem kx_term (T : Top K mg cFE cBP cBT cK cW cRd) : Ok P w K mg base 1 "_law_term" ["_law_number", "_law_k"] (spF K (G82 cW) (fun as => ∃ n k, as = [.int n, .int k] ∧ (n.natAbs : Int) < 10 ^ 100 ∧ 0 ≤ k ∧ k < 1000) fun as => match as with
    | [.int n, .int k] => .str (tmS n k)
    | _ => .non) := by
  refine okF T.d_term sc_term (fun as ⟨a, b, h, _⟩ => by rw [h]; rfl) (fun f cdv A outer s H E hr => ⟨_, (xss_cons (xst_setS (i := 2) sc_term.nd rfl (Or.inl rfl) xs_str)
 (xss_join (xst_if (xt_eq (xn 1) xn_int)
 (xss_one (xst_setS (i := 2) sc_term.nd rfl (Or.inl rfl) xs_str))
 xss_nil)
 (xss_join (xst_if (xt_gt (xn 1) xn_int)
 (xss_one (xst_setS (i := 2) sc_term.nd rfl (Or.inl rfl) (xs_add xs_str (xs_ofI T.b_str (xn 1)))))
 xss_nil)
 (xss_cons (xst_if (L2.PW.pt (xw_and (xt_gt (xn 1) xn_int) (xw_and1 (xt_eq (xn_abs T.b_abs (xn 0)) xn_int))))
 (xss_one (xst_ret (xs 2)))
 xss_nil)
 (xss_one (xst_ret (xs_add (xs_ofI T.b_str (xn_abs T.b_abs (xn 0))) (xs 2)))))))), fun as hp => ?_⟩)
  obtain ⟨n, k, rfl, hn, k0, hk⟩ := hp
  have nn : (((n.natAbs : Int)).natAbs : Int) < 10 ^ 100 := hn
  have ab : (if n < 0 then -n else n) = (n.natAbs : Int) := by split <;> omega
  have lab : (if n < 0 then -n else n).natAbs.log2 < 1920 := by rw [ab]; exact logB nn
  have h1 := numS_len (Int.natCast_nonneg _) hn
  have h2 := numS_len k0 (smallB hk)
  have lx : ("x" : Str).length = 1 := by decide +kernel
  have lx2 : ("x^" : Str).length = 2 := by decide +kernel
  have l0 : ("" : Str).length = 0 := by decide +kernel
  have kk : (k.natAbs : Int) < 10 ^ 100 := by
    have := smallB hk
    generalize (10 : Int) ^ 100 = Z at *
    omega
  refine ⟨True.intro, fun t0 et0 => ?_⟩
  have et0 : t0 = ("" : Str) := et0
  refine ⟨fun ρ => ∃ t, ρ = [.fr (.int n), .fr (.int k), .fr (.str t)] ∧ t = if k = 1 then ("x" : Str) else "", ⟨⟨rfl, True.intro⟩, fun q => ⟨True.intro, fun t et => ⟨t, rfl, ?_⟩⟩, fun q => ⟨t0, rfl, ?_⟩⟩, ?_⟩
  · have q : k = 1 := q
    have et : t = ("x" : Str) := et
    rw [if_pos q, et]
  · have q : ¬ k = 1 := q
    rw [if_neg q, et0]
  rintro ρ ⟨t1, rfl, et1⟩
  refine ⟨fun ρ => ∃ t, ρ = [.fr (.int n), .fr (.int k), .fr (.str t)] ∧ t = if k = 0 then ("" : Str) else if k = 1 then ("x" : Str) else ("x^" : Str) ++ numS k, ⟨⟨rfl, True.intro⟩, fun q => ⟨⟨True.intro, ⟨rfl, logB kk⟩, by show ("x^" : Str).length + (numS k).length ≤ sizeLine; rw [lx2]; exact sz (by omega)⟩, fun t et => ⟨t, rfl, ?_⟩⟩, fun q => ⟨t1, rfl, ?_⟩⟩, ?_⟩
  · have q : k > 1 := q
    have et : t = ("x^" : Str) ++ numS k := et
    rw [if_neg (by omega), if_neg (by omega), et]
  · have q : ¬ k > 1 := q
    rw [et1]
    by_cases c : k = 1
    · rw [if_pos c, if_neg (by omega), if_pos c]
    · rw [if_neg c, if_pos (by omega)]
  rintro ρ ⟨t, rfl, et⟩
  have tl : t.length ≤ 2 + 100 := by
    rw [et]
    split
    · rw [l0]; omega
    · split
      · rw [lx]; omega
      · rw [len_app, lx2]; omega
  refine ⟨⟨⟨rfl, True.intro⟩, fun _ => ⟨rfl, True.intro⟩⟩, fun q => ?_, fun q => ?_⟩
  · have q : k > 0 ∧ (if n < 0 then -n else n) = 1 := q
    have q0 := q.1
    have q1 := q.2
    refine ⟨rfl, ?_⟩
    show PV.str t = PV.str (tmS n k)
    unfold tmS
    have k0' : ¬ k = 0 := by omega
    have na : n.natAbs = 1 := by omega
    rw [et, if_neg k0', if_neg k0', if_pos na]
    exact congrArg PV.str (nil_app _).symm
  · have q : ¬ (k > 0 ∧ (if n < 0 then -n else n) = 1) := q
    refine ⟨⟨⟨rfl, lab⟩, rfl, by show (numS (if n < 0 then -n else n)).length + t.length ≤ sizeLine; rw [ab]; exact sz (by omega)⟩, ?_⟩
    show PV.str (numS (if n < 0 then -n else n) ++ t) = PV.str (tmS n k)
    unfold tmS
    rw [ab] at q
    rw [et, ab]
    by_cases c : k = 0
    · rw [if_pos c, if_pos c]
      exact congrArg PV.str (app_nil' _)
    · have na : ¬ n.natAbs = 1 := by omega
      rw [if_neg c, if_neg c, if_neg na]


theorem nb {ns : List Int} (h : ∀ m ∈ ns, (m.natAbs : Int) < 10 ^ 100) (n : Nat) : ((ns.getD n 0).natAbs : Int) < 10 ^ 100 := by
  by_cases c : n < ns.length
  · exact h _ (FM.getD_mem c)
  · rw [getD_ge (by omega)]
    decide +kernel
theorem kx_shown (T : Top K mg cFE cBP cBT cK cW cRd) : Ok P w K mg base 5 "shown" ["f"] (spF K (G82 cW) (fun as => ∃ f, as = [.ints f] ∧ f.length ≤ 100 ∧ ∀ m ∈ f, (m.natAbs : Int) < 10 ^ 100) fun as => match as with
    | [.ints f] => .str (shS (trimZ f))
    | _ => .non) := by
  refine okF T.d_shown sc_shown (fun as ⟨a, h, _⟩ => by rw [h]; rfl) (fun f cdv A outer s H E hr => ⟨_, (xss_cons (xst_setL (i := 1) sc_shown.nd rfl (Or.inl rfl) (newL (xcl (kx_trimmed T) hr (xa_cons (xk_W (oi_Wholes T) hr g82W) (xa_cons (xl 0) xa_nil)))))
 (xss_cons (xst_if (xt_not (xt_list 1))
 (xss_one (xst_ret xs_str))
 xss_nil)
 (xss_cons (xst_setS (i := 2) sc_shown.nd rfl (Or.inl rfl) (xs_if (xt_lt (xn_item 1 (xn_neg xn_int) (fun _ _ => rfl)) xn_int) xs_str xs_str))
 (xss_cons (xst_augS (i := 2) sc_shown.nd rfl (Or.inl rfl) (xs_of (xc (kx_term_shown T) hr (xa_cons (xn_item 1 (xn_neg xn_int) (fun _ _ => rfl)) (xa_cons (xn_sub (xn_len 1 T.b_len) xn_int) xa_nil)))))
 (xss_cons (xst_forD (k := 3) PassesOwn.never rfl (by rfl) T.b_range (xn_sub (xn_len 1 T.b_len) xn_int) (xn_neg xn_int) (xn_neg xn_int) sc_shown.nd rfl (Or.inl rfl)
 (xss_one (xst_if (xt_ne (xn_item 1 (xn 3) (fun _ _ => rfl)) xn_int)
 (xss_cons (xst_augS (i := 2) sc_shown.nd rfl (Or.inl rfl) (xs_if (xt_lt (xn_item 1 (xn 3) (fun _ _ => rfl)) xn_int) xs_str xs_str))
 (xss_one (xst_augS (i := 2) sc_shown.nd rfl (Or.inl rfl) (xs_of (xc (kx_term_shown T) hr (xa_cons (xn_item 1 (xn 3) (fun _ _ => rfl)) (xa_cons (xn 3) xa_nil)))))))
 xss_nil)))
 (xss_one (xst_ret (xs 2)))))))), fun as hp => ?_⟩)
  obtain ⟨f, rfl, hl, hb⟩ := hp
  refine ⟨⟨⟨True.intro, rfl, True.intro⟩, 0, f, rfl, by omega⟩, fun ns ens => ?_⟩
  have ens : ns = Tz 0 f := ens
  have ens : ns = trimZ f := by
    rw [ens]
    unfold Tz
    have : (pl 0) = (id : Int → Int) := by funext n; exact pl_zero n
    rw [this, List.map_id]
  have nl : ns.length ≤ 100 := by rw [ens]; exact Nat.le_trans (trimZ_len _) hl
  have hn : ∀ n, ((ns.getD n 0).natAbs : Int) < 10 ^ 100 := fun n => by rw [ens, trim_get]; exact nb hb n
  have goal : ∀ x : Str, x = shS ns → PV.str x = PV.str (shS (trimZ f)) := fun x h => by rw [h, ens]
  refine ⟨.inl rfl, fun q => ?_, fun q => ?_⟩
  · have q : ¬ ¬ ns = [] := q
    refine ⟨True.intro, goal ("0" : Str) ?_⟩
    unfold shS
    rw [if_pos (Classical.not_not.mp q)]
  have q : ¬ ¬ ¬ ns = [] := q
  have ne : ¬ ns = [] := Classical.not_not.mp q
  have lp := List.length_pos_iff.mpr ne
  have li : ns.getD (ixO ns.length (-1)) 0 = ns.getD (ns.length - 1) 0 := by
    have e : ixO ns.length (-1) = ns.length - 1 := by
      unfold ixO
      rw [if_neg (by omega)]
      omega
    rw [e]
  have sh : shS ns = topS ns (ns.length - 1) := by unfold shS; rw [if_neg ne]
  clear ens
  have c1 : -(ns.length : Int) ≤ -1 := by omega
  have c2 : (-1 : Int) < (ns.length : Int) := by omega
  refine ⟨⟨⟨⟨.inl rfl, True.intro, c1, c2⟩, True.intro⟩, fun _ => True.intro, fun _ => True.intro⟩, fun t0 et0 => ?_⟩
  have et0 : t0 = if ns.getD (ixO ns.length (-1)) 0 < 0 then ("-" : Str) else ("" : Str) := et0
  rw [li] at et0
  have et0 : t0 = sgS (ns.getD (ns.length - 1) 0) := et0
  have l0 : t0.length ≤ 1 := by
    rw [et0]
    unfold sgS
    split <;> decide +kernel
  have kt : ((ns.length - 1 : Nat) : Int) = (ns.length : Int) - 1 := by omega
  obtain ⟨tl1, tl2⟩ := tmS_len (hn (ns.length - 1)) (k := ((ns.length - 1 : Nat) : Int)) (by omega) (by omega)
  refine to_lit (ρ' := [.fr (.ints f), .fr (.ints ns), .fr (.str t0), .un]) rfl ?_
  have etm : tmS (ns.getD (ixO ns.length (-1)) 0) ((ns.length : Int) - 1) = tmS (ns.getD (ns.length - 1) 0) ((ns.length - 1 : Nat) : Int) := by rw [li, kt]
  refine ⟨rfl, ⟨⟨⟨⟨.inl rfl, True.intro, c1, c2⟩, ⟨.inl rfl, True.intro⟩, True.intro⟩, _, _, rfl, ?_, ?_, ?_⟩, rfl⟩, ?_, fun t1 et1 => ?_⟩
  · show ((ns.getD (ixO ns.length (-1)) 0).natAbs : Int) < 10 ^ 100
    rw [li]; exact hn _
  · show 0 ≤ (ns.length : Int) - 1
    omega
  · show (ns.length : Int) - 1 < 1000
    omega
  · show t0.length + (tmS (ns.getD (ixO ns.length (-1)) 0) ((ns.length : Int) - 1)).length ≤ sizeLine
    rw [etm]
    exact sz (by omega)
  have et1 : t1 = t0 ++ tmS (ns.getD (ixO ns.length (-1)) 0) ((ns.length : Int) - 1) := et1
  rw [etm] at et1
  have en : ((ns.length : Int) - 2 - -1).toNat = ns.length - 1 := by omega
  refine ⟨⟨⟨.inl rfl, True.intro⟩, True.intro, True.intro⟩, ⟨by show -(2 : Int) ^ 62 ≤ (ns.length : Int) - 2; omega, by show (ns.length : Int) - 2 < 2 ^ 62; omega, by show -(2 : Int) ^ 62 ≤ -1; decide, by show (-1 : Int) < 2 ^ 62; decide⟩, fun i ρ => ∃ tx v3, ρ = [.fr (.ints f), .fr (.ints ns), .fr (.str tx), v3] ∧ tx ++ lowS ns (ns.length - 1 - i) = topS ns (ns.length - 1) ∧ tx.length ≤ 300 * (i + 1), ⟨t1, .un, rfl, ?_, ?_⟩, ?_, ?_⟩
  · rw [et1, et0, Nat.sub_zero, app_assoc']
    rfl
  · rw [et1, len_app]
    omega
  · rintro i ρ hi ⟨tx, v3, rfl, h1, h2⟩
    have hi : i < ns.length - 1 := by
      have hi : i < ((ns.length : Int) - 2 - -1).toNat := hi
      omega
    obtain ⟨p, ep⟩ : ∃ p : Nat, ns.length - 1 - i = p + 1 := ⟨ns.length - 1 - i - 1, by omega⟩
    have epz : (ns.length : Int) - 2 + (i : Int) * (-1) = (p : Int) := by omega
    have e2 : ns.length - 1 - (i + 1) = p := by omega
    have pl1 : -(ns.length : Int) ≤ ((ns.length : Int) - 2 + (i : Int) * (-1)) := by rw [epz]; omega
    have pl2 : ((ns.length : Int) - 2 + (i : Int) * (-1)) < (ns.length : Int) := by rw [epz]; omega
    have ixp : ixO ns.length ((ns.length : Int) - 2 + (i : Int) * (-1)) = p := by rw [epz]; unfold ixO; rw [if_pos (by omega)]; omega
    have pq1 : -(ns.length : Int) ≤ (p : Int) := by omega
    have pq2 : (p : Int) < (ns.length : Int) := by omega
    have ixq : ixO ns.length (p : Int) = p := by unfold ixO; rw [if_pos (by omega)]; omega
    rw [ep] at h1
    refine ⟨⟨⟨.inl rfl, rfl, pl1, pl2⟩, True.intro⟩, fun z => ?_, fun z => ?_⟩
    · have z : ¬ ns.getD (ixO ns.length ((ns.length : Int) - 2 + (i : Int) * (-1))) 0 = 0 := z
      rw [ixp] at z
      have h1' : tx ++ (jnS (ns.getD p 0) ++ (tmS (ns.getD p 0) (p : Int) ++ lowS ns p)) = topS ns (ns.length - 1) := by
        have h1 := h1
        unfold lowS at h1
        rw [if_neg z] at h1
        exact h1
      obtain ⟨tm1, tm2⟩ := tmS_len (hn p) (k := (p : Int)) (by omega) (by omega)
      have jl := jnS_len (ns.getD p 0)
      refine ⟨rfl, ⟨⟨⟨.inl rfl, rfl, pl1, pl2⟩, True.intro⟩, fun _ => True.intro, fun _ => True.intro⟩, ?_, fun t2 et2 => ?_⟩
      · show tx.length + (if ns.getD (ixO ns.length ((ns.length : Int) - 2 + (i : Int) * (-1))) 0 < 0 then (" - " : Str) else (" + " : Str)).length ≤ sizeLine
        rw [ixp]
        show tx.length + (jnS (ns.getD p 0)).length ≤ sizeLine
        rw [jl]
        exact sz (by omega)
      have et2 : t2 = tx ++ (if ns.getD (ixO ns.length ((ns.length : Int) - 2 + (i : Int) * (-1))) 0 < 0 then (" - " : Str) else (" + " : Str)) := et2
      rw [ixp] at et2
      have et2 : t2 = tx ++ jnS (ns.getD p 0) := et2
      refine to_lit (ρ' := [.fr (.ints f), .fr (.ints ns), .fr (.str t2), .fr (.int (p : Int))]) (by rw [← epz]; rfl) ?_
      refine ⟨rfl, ⟨⟨⟨⟨.inl rfl, rfl, pq1, pq2⟩, rfl, True.intro⟩, _, _, rfl, ?_, by show 0 ≤ (p : Int); omega, by show (p : Int) < 1000; omega⟩, rfl⟩, ?_, fun t3 et3 => ⟨t3, .fr (.int (p : Int)), rfl, ?_, ?_⟩⟩
      · show ((ns.getD (ixO ns.length (p : Int)) 0).natAbs : Int) < 10 ^ 100
        rw [ixq]; exact hn p
      · show t2.length + (tmS (ns.getD (ixO ns.length (p : Int)) 0) (p : Int)).length ≤ sizeLine
        rw [ixq, et2, len_app, jl]
        exact sz (by omega)
      · have et3 : t3 = t2 ++ tmS (ns.getD (ixO ns.length (p : Int)) 0) (p : Int) := et3
        rw [et3, ixq, et2, e2, app_assoc', app_assoc']
        exact h1'
      · have et3 : t3 = t2 ++ tmS (ns.getD (ixO ns.length (p : Int)) 0) (p : Int) := et3
        rw [et3, ixq, et2, len_app, len_app, jl]
        omega
    · have z : ¬ ¬ ns.getD (ixO ns.length ((ns.length : Int) - 2 + (i : Int) * (-1))) 0 = 0 := z
      rw [ixp] at z
      refine ⟨tx, _, rfl, ?_, by omega⟩
      rw [e2]
      unfold lowS at h1
      rw [if_pos (Classical.not_not.mp z)] at h1
      exact h1
  · rintro ρ ⟨tx, v3, rfl, h1, h2⟩
    have h1 : tx ++ lowS ns (ns.length - 1 - ((ns.length : Int) - 2 - -1).toNat) = topS ns (ns.length - 1) := h1
    rw [en, Nat.sub_self] at h1
    refine ⟨rfl, goal tx ?_⟩
    rw [sh, ← h1]
    exact (app_nil' tx).symm


/-- where the law's text stands after i powers, from above -/
noncomputable def Sd (f : List Int) (i : Nat) (x : Str) : Prop := (x = ("" : Str) ∧ ∀ j, f.length - i ≤ j → j < f.length → f.getD j 0 = 0) ∨ ∃ t, f.length - i ≤ t ∧ t < f.length ∧ f.getD t 0 ≠ 0 ∧ (∀ j, t < j → j < f.length → f.getD j 0 = 0) ∧ x ++ lowS f (f.length - i) = topS f t ∧ 1 ≤ x.length
theorem sg_it (n : Int) : itP (.lst [.str ("" : Str), .str ("-" : Str)]) (if n < 0 then 1 else 0) = .str (sgS n) := by
  unfold sgS
  by_cases c : n < 0
  · rw [if_pos c, if_pos c]; rfl
  · rw [if_neg c, if_neg c]; rfl
theorem sgS_len (n : Int) : (sgS n).length ≤ 1 := by
  unfold sgS
  split <;> decide +kernel
theorem empty_len {x : Str} (h : 1 ≤ x.length) : ¬ x = ("" : Str) := fun z => by
  rw [z] at h
  exact absurd h (by decide +kernel)
theorem kx_law_shown (T : Top K mg cFE cBP cBT cK cW cRd) : Ok P w K mg base 2 "_law_shown" ["_law_row"] (spF K (G82 cW) (fun as => ∃ f, as = [.ints f] ∧ f.length ≤ 100 ∧ ∀ m ∈ f, (m.natAbs : Int) < 10 ^ 100) fun as => match as with
    | [.ints f] => .str (shS (trimZ f))
    | _ => .non) := by
  refine okF T.d_law_shown sc_law_shown (fun as ⟨a, h, _⟩ => by rw [h]; rfl) (fun f cdv A outer s H E hr => ⟨_, (xss_cons (xst_setS (i := 1) sc_law_shown.nd rfl (Or.inl rfl) xs_str)
 (xss_cons (xst_forVR (k := 2) PassesOwn.never rfl (by rfl) T.b_reversed (by rfl) T.b_range (xn_len 0 T.b_len) sc_law_shown.nd rfl (Or.inl rfl)
 (xss_one (xst_if (L2.PW.pt (xw_and (xt_ne (xn_item 0 (xn 2) (fun _ _ => rfl)) xn_int) (xw_and1 (xt_eqS (xs 1) xs_str))))
 (xss_one (xst_setS (i := 1) sc_law_shown.nd rfl (Or.inl rfl) (xs_add (xs_of (xp_item (newP (xp_lst (xa_cons xs_str (xa_cons xs_str xa_nil)))) (xn_intB T.b_int (xe_lt (xn_item 0 (xn 2) (fun _ _ => rfl)) xn_int)) (fun _ _ => rfl))) (xs_of (xc (kx_term T) hr (xa_cons (xn_item 0 (xn 2) (fun _ _ => rfl)) (xa_cons (xn 2) xa_nil)))))))
 (xss_one (xst_if (xt_ne (xn_item 0 (xn 2) (fun _ _ => rfl)) xn_int)
 (xss_one (xst_setS (i := 1) sc_law_shown.nd rfl (Or.inl rfl) (xs_add (xs_add (xs 1) (xs_of (xp_item (newP (xp_lst (xa_cons xs_str (xa_cons xs_str xa_nil)))) (xn_intB T.b_int (xe_lt (xn_item 0 (xn 2) (fun _ _ => rfl)) xn_int)) (fun _ _ => rfl)))) (xs_of (xc (kx_term T) hr (xa_cons (xn_item 0 (xn 2) (fun _ _ => rfl)) (xa_cons (xn 2) xa_nil)))))))
 xss_nil)))))
 (xss_cons (xst_if (xt_eqS (xs 1) xs_str)
 (xss_one (xst_ret xs_str))
 xss_nil)
 (xss_one (xst_ret (xs 1)))))), fun as hp => ?_⟩)
  obtain ⟨f, rfl, hl, hb⟩ := hp
  have hn := nb hb
  have l0 : ("" : Str).length = 0 := by decide +kernel
  refine ⟨True.intro, fun t0 et0 => ?_⟩
  have et0 : t0 = ("" : Str) := et0
  refine to_lit (ρ' := [.fr (.ints f), .fr (.str t0), .un]) rfl ?_
  refine ⟨.inl rfl, ⟨by show 0 ≤ (f.length : Int); omega, by show (f.length : Int) < 2 ^ 62; omega⟩, fun i ρ => ∃ tx v2, ρ = [.fr (.ints f), .fr (.str tx), v2] ∧ Sd f i tx ∧ tx.length ≤ 300 * (i + 1), ⟨t0, .un, rfl, .inl ⟨et0, fun j h1 h2 => by omega⟩, by rw [et0, l0]; omega⟩, ?_, ?_⟩
  · rintro i ρ hi ⟨tx, v2, rfl, hsd, htl⟩
    have hi : i < (f.length : Int).toNat := hi
    obtain ⟨p, ep⟩ : ∃ p : Nat, f.length - i = p + 1 := ⟨f.length - i - 1, by omega⟩
    have e2 : f.length - (i + 1) = p := by omega
    have epz : (f.length : Int) - 1 + (i : Int) * (-1) = (p : Int) := by omega
    have p1 : -(f.length : Int) ≤ ((f.length : Int) - 1 + (i : Int) * (-1)) := by rw [epz]; omega
    have p2 : ((f.length : Int) - 1 + (i : Int) * (-1)) < (f.length : Int) := by rw [epz]; omega
    have ix : ixO f.length ((f.length : Int) - 1 + (i : Int) * (-1)) = p := by rw [epz]; unfold ixO; rw [if_pos (by omega)]; omega
    obtain ⟨tm1, tm2⟩ := tmS_len (hn p) (k := (p : Int)) (by omega) (by omega)
    refine ⟨⟨⟨⟨.inl rfl, rfl, p1, p2⟩, True.intro⟩, fun _ => ⟨rfl, True.intro⟩⟩, fun q => ?_, fun q => ?_⟩
    · have q : ¬ f.getD (ixO f.length ((f.length : Int) - 1 + (i : Int) * (-1))) 0 = 0 ∧ tx = ("" : Str) := q
      rw [ix] at q
      obtain ⟨q1, q2⟩ := q
      have eit := sg_it (f.getD (ixO f.length ((f.length : Int) - 1 + (i : Int) * (-1))) 0)
      have sl := sgS_len (f.getD p 0)
      refine ⟨⟨⟨⟨⟨True.intro, True.intro, True.intro⟩, ⟨⟨.inl rfl, rfl, p1, p2⟩, True.intro⟩, ?_⟩, ?_⟩, ⟨⟨⟨⟨.inl rfl, rfl, p1, p2⟩, rfl, True.intro⟩, _, _, rfl, ?_, by show 0 ≤ ((f.length : Int) - 1 + (i : Int) * (-1)); rw [epz]; omega, by show ((f.length : Int) - 1 + (i : Int) * (-1)) < 1000; rw [epz]; omega⟩, rfl⟩, ?_⟩, fun t1 et1 => ⟨t1, _, rfl, ?_, ?_⟩⟩
      · show -(2 : Int) ≤ (if f.getD (ixO f.length ((f.length : Int) - 1 + (i : Int) * (-1))) 0 < 0 then 1 else 0) ∧ (if f.getD (ixO f.length ((f.length : Int) - 1 + (i : Int) * (-1))) 0 < 0 then (1 : Int) else 0) < 2
        split <;> omega
      · show itP (.lst [.str ("" : Str), .str ("-" : Str)]) (if f.getD (ixO f.length ((f.length : Int) - 1 + (i : Int) * (-1))) 0 < 0 then 1 else 0) = .str (pvS (itP (.lst [.str ("" : Str), .str ("-" : Str)]) (if f.getD (ixO f.length ((f.length : Int) - 1 + (i : Int) * (-1))) 0 < 0 then 1 else 0)))
        rw [eit]
        rfl
      · show ((f.getD (ixO f.length ((f.length : Int) - 1 + (i : Int) * (-1))) 0).natAbs : Int) < 10 ^ 100
        rw [ix]; exact hn p
      · show (pvS (itP (.lst [.str ("" : Str), .str ("-" : Str)]) (if f.getD (ixO f.length ((f.length : Int) - 1 + (i : Int) * (-1))) 0 < 0 then 1 else 0))).length + (tmS (f.getD (ixO f.length ((f.length : Int) - 1 + (i : Int) * (-1))) 0) ((f.length : Int) - 1 + (i : Int) * (-1))).length ≤ sizeLine
        rw [eit, ix, epz]
        show (sgS (f.getD p 0)).length + (tmS (f.getD p 0) (p : Int)).length ≤ sizeLine
        exact sz (by omega)
      · have et1 : t1 = pvS (itP (.lst [.str ("" : Str), .str ("-" : Str)]) (if f.getD (ixO f.length ((f.length : Int) - 1 + (i : Int) * (-1))) 0 < 0 then 1 else 0)) ++ tmS (f.getD (ixO f.length ((f.length : Int) - 1 + (i : Int) * (-1))) 0) ((f.length : Int) - 1 + (i : Int) * (-1)) := et1
        rw [eit, ix, epz] at et1
        have et1 : t1 = sgS (f.getD p 0) ++ tmS (f.getD p 0) (p : Int) := et1
        rcases hsd with h | ⟨t, _, _, _, _, _, h⟩
        · refine .inr ⟨p, by omega, by omega, q1, fun j h1 h2 => h.2 j (by omega) h2, ?_, ?_⟩
          · rw [e2, et1, app_assoc']
            rfl
          · rw [et1, len_app]; omega
        · exact absurd q2 (empty_len h)
      · have et1 : t1 = pvS (itP (.lst [.str ("" : Str), .str ("-" : Str)]) (if f.getD (ixO f.length ((f.length : Int) - 1 + (i : Int) * (-1))) 0 < 0 then 1 else 0)) ++ tmS (f.getD (ixO f.length ((f.length : Int) - 1 + (i : Int) * (-1))) 0) ((f.length : Int) - 1 + (i : Int) * (-1)) := et1
        rw [eit, ix, epz] at et1
        have et1 : t1 = sgS (f.getD p 0) ++ tmS (f.getD p 0) (p : Int) := et1
        rw [et1, len_app]
        omega
    have q : ¬ (¬ f.getD (ixO f.length ((f.length : Int) - 1 + (i : Int) * (-1))) 0 = 0 ∧ tx = ("" : Str)) := q
    rw [ix] at q
    refine ⟨⟨⟨.inl rfl, rfl, p1, p2⟩, True.intro⟩, fun z => ?_, fun z => ?_⟩
    · have z : ¬ f.getD (ixO f.length ((f.length : Int) - 1 + (i : Int) * (-1))) 0 = 0 := z
      rw [ix] at z
      have eit := jn_it (f.getD (ixO f.length ((f.length : Int) - 1 + (i : Int) * (-1))) 0)
      have jl := jnS_len (f.getD p 0)
      refine ⟨⟨⟨rfl, ⟨⟨⟨True.intro, True.intro, True.intro⟩, ⟨⟨.inl rfl, rfl, p1, p2⟩, True.intro⟩, ?_⟩, ?_⟩, ?_⟩, ⟨⟨⟨⟨.inl rfl, rfl, p1, p2⟩, rfl, True.intro⟩, _, _, rfl, ?_, by show 0 ≤ ((f.length : Int) - 1 + (i : Int) * (-1)); rw [epz]; omega, by show ((f.length : Int) - 1 + (i : Int) * (-1)) < 1000; rw [epz]; omega⟩, rfl⟩, ?_⟩, fun t1 et1 => ⟨t1, _, rfl, ?_, ?_⟩⟩
      · show -(2 : Int) ≤ (if f.getD (ixO f.length ((f.length : Int) - 1 + (i : Int) * (-1))) 0 < 0 then 1 else 0) ∧ (if f.getD (ixO f.length ((f.length : Int) - 1 + (i : Int) * (-1))) 0 < 0 then (1 : Int) else 0) < 2
        split <;> omega
      · show itP (.lst [.str (" + " : Str), .str (" - " : Str)]) (if f.getD (ixO f.length ((f.length : Int) - 1 + (i : Int) * (-1))) 0 < 0 then 1 else 0) = .str (pvS (itP (.lst [.str (" + " : Str), .str (" - " : Str)]) (if f.getD (ixO f.length ((f.length : Int) - 1 + (i : Int) * (-1))) 0 < 0 then 1 else 0)))
        rw [eit]
        rfl
      · show tx.length + (pvS (itP (.lst [.str (" + " : Str), .str (" - " : Str)]) (if f.getD (ixO f.length ((f.length : Int) - 1 + (i : Int) * (-1))) 0 < 0 then 1 else 0))).length ≤ sizeLine
        rw [eit, ix]
        show tx.length + (jnS (f.getD p 0)).length ≤ sizeLine
        rw [jl]
        exact sz (by omega)
      · show ((f.getD (ixO f.length ((f.length : Int) - 1 + (i : Int) * (-1))) 0).natAbs : Int) < 10 ^ 100
        rw [ix]; exact hn p
      · show (tx ++ pvS (itP (.lst [.str (" + " : Str), .str (" - " : Str)]) (if f.getD (ixO f.length ((f.length : Int) - 1 + (i : Int) * (-1))) 0 < 0 then 1 else 0))).length + (tmS (f.getD (ixO f.length ((f.length : Int) - 1 + (i : Int) * (-1))) 0) ((f.length : Int) - 1 + (i : Int) * (-1))).length ≤ sizeLine
        rw [eit, ix, epz]
        show (tx ++ jnS (f.getD p 0)).length + (tmS (f.getD p 0) (p : Int)).length ≤ sizeLine
        rw [len_app, jl]
        exact sz (by omega)
      · have et1 : t1 = tx ++ pvS (itP (.lst [.str (" + " : Str), .str (" - " : Str)]) (if f.getD (ixO f.length ((f.length : Int) - 1 + (i : Int) * (-1))) 0 < 0 then 1 else 0)) ++ tmS (f.getD (ixO f.length ((f.length : Int) - 1 + (i : Int) * (-1))) 0) ((f.length : Int) - 1 + (i : Int) * (-1)) := et1
        rw [eit, ix, epz] at et1
        have et1 : t1 = tx ++ jnS (f.getD p 0) ++ tmS (f.getD p 0) (p : Int) := et1
        rcases hsd with h | ⟨t, h1, h2, h3, h4, h5, h6⟩
        · exact absurd ⟨z, h.1⟩ q
        · refine .inr ⟨t, by omega, h2, h3, h4, ?_, ?_⟩
          · rw [ep] at h5
            unfold lowS at h5
            rw [if_neg z] at h5
            rw [e2, et1, app_assoc', app_assoc']
            exact h5
          · rw [et1, len_app, len_app]; omega
      · have et1 : t1 = tx ++ pvS (itP (.lst [.str (" + " : Str), .str (" - " : Str)]) (if f.getD (ixO f.length ((f.length : Int) - 1 + (i : Int) * (-1))) 0 < 0 then 1 else 0)) ++ tmS (f.getD (ixO f.length ((f.length : Int) - 1 + (i : Int) * (-1))) 0) ((f.length : Int) - 1 + (i : Int) * (-1)) := et1
        rw [eit, ix, epz] at et1
        have et1 : t1 = tx ++ jnS (f.getD p 0) ++ tmS (f.getD p 0) (p : Int) := et1
        rw [et1, len_app, len_app, jl]
        omega
    · have z : ¬ ¬ f.getD (ixO f.length ((f.length : Int) - 1 + (i : Int) * (-1))) 0 = 0 := z
      rw [ix] at z
      have z := Classical.not_not.mp z
      refine ⟨tx, _, rfl, ?_, by omega⟩
      rcases hsd with h | ⟨t, h1, h2, h3, h4, h5, h6⟩
      · refine .inl ⟨h.1, fun j h1 h2 => ?_⟩
        by_cases c : j = p
        · rw [c]; exact z
        · exact h.2 j (by omega) h2
      · refine .inr ⟨t, by omega, h2, h3, h4, ?_, h6⟩
        rw [ep] at h5
        unfold lowS at h5
        rw [if_pos z] at h5
        rw [e2]
        exact h5
  · rintro ρ ⟨tx, v2, rfl, hsd, htl⟩
    have hsd : Sd f (f.length : Int).toNat tx := hsd
    have eN : (f.length : Int).toNat = f.length := by omega
    rw [eN] at hsd
    refine ⟨⟨rfl, True.intro⟩, fun q => ?_, fun q => ?_⟩
    · have q : tx = ("" : Str) := q
      refine ⟨True.intro, ?_⟩
      show PV.str ("0" : Str) = PV.str (shS (trimZ f))
      rcases hsd with h | ⟨t, _, _, _, _, _, h⟩
      · rw [sh_none fun j hj => h.2 j (by omega) hj]
      · exact absurd q (empty_len h)
    · have q : ¬ tx = ("" : Str) := q
      refine ⟨rfl, ?_⟩
      show PV.str tx = PV.str (shS (trimZ f))
      rcases hsd with h | ⟨t, h1, h2, h3, h4, h5, h6⟩
      · exact absurd h.1 q
      · rw [sh_some h2 h3 h4]
        rw [Nat.sub_self] at h5
        have h7 : tx ++ e0 = topS f t := h5
        rw [app_nil'] at h7
        rw [h7]
        rfl


/-! the product's text -/
theorem lowS_len {f : List Int} (hn : ∀ n, ((f.getD n 0).natAbs : Int) < 10 ^ 100) : ∀ k, k ≤ 900 → (lowS f k).length ≤ 300 * k
  | 0, _ => by
    show ("" : Str).length ≤ 0
    decide +kernel
  | k + 1, h => by
    have ih := lowS_len hn k (by omega)
    unfold lowS
    split
    · omega
    · have jl := jnS_len (f.getD k 0)
      obtain ⟨tm1, tm2⟩ := tmS_len (hn k) (k := (k : Int)) (by omega) (by omega)
      rw [len_app, len_app]
      omega
theorem shS_len {f : List Int} (hb : ∀ m ∈ f, (m.natAbs : Int) < 10 ^ 100) (hl : f.length ≤ 100) : (shS (trimZ f)).length ≤ 30400 := by
  have hn : ∀ n, (((trimZ f).getD n 0).natAbs : Int) < 10 ^ 100 := fun n => by rw [trim_get]; exact nb hb n
  have tl := trimZ_len f
  unfold shS
  split
  · exact Nat.le_trans (by decide +kernel : ("0" : Str).length ≤ 1) (by decide)
  · unfold topS
    have h1 := sgS_len ((trimZ f).getD ((trimZ f).length - 1) 0)
    have h2 := tmS_len (hn ((trimZ f).length - 1)) (k := (((trimZ f).length - 1 : Nat) : Int)) (by omega) (by omega)
    have h3 := lowS_len hn ((trimZ f).length - 1) (by omega)
    rw [len_app, len_app]
    omega
theorem numS_lenA {c : Int} (h : (c.natAbs : Int) < 10 ^ 100) : (numS c).length ≤ 100 + 1 := by
  cases c with
  | ofNat m =>
    have := (numS_len (a := (m : Int)) (by omega) (by
      have e : (((Int.ofNat m).natAbs : Nat) : Int) = (m : Int) := rfl
      rw [e] at h
      exact h)).2
    exact Nat.le_trans this (by decide)
  | negSucc m =>
    have e : (numS (Int.negSucc m)).length = (Nat.toDigits 10 (m + 1)).length + 1 := by
      show (PySem.Str.ofString (toString (Int.negSucc m))).cps.size = _
      rw [← Array.length_toList, PyProof.Rows.signs_ofString, List.length_map]
      show ("-" ++ Nat.repr (m + 1)).toList.length = _
      rw [String.toList_append, List.length_append, Nat.toList_repr]
      show 1 + _ = _
      omega
    rw [e]
    have hm : m + 1 < 10 ^ 100 := by
      have e10 : ((10 ^ 100 : Nat) : Int) = (10 : Int) ^ 100 := by decide +kernel
      have e2 : (((Int.negSucc m).natAbs : Nat) : Int) = ((m + 1 : Nat) : Int) := rfl
      rw [e2] at h
      generalize (10 : Int) ^ 100 = Z at *
      generalize (10 : Nat) ^ 100 = N at *
      omega
    have := (Nat.length_toDigits_le_iff (b := 10) (n := m + 1) (k := 100) (by decide) (by decide)).mpr hm
    omega
noncomputable def goG : PV → List Int
  | .tup [.ints g, .int _] => g
  | _ => []
noncomputable def goO : PV → Int
  | .tup [.ints _, .int o] => o
  | _ => 0
noncomputable def Gd (q : PV) : Prop := ∃ g o, q = .tup [.ints g, .int o] ∧ g.length ≤ 100 ∧ (∀ m ∈ g, (m.natAbs : Int) < 10 ^ 100) ∧ 0 ≤ o ∧ o < 1000
theorem Gd.go {q : PV} (h : Gd q) : isGo q := by
  obtain ⟨g, o, e, _⟩ := h
  exact ⟨g, o, e⟩
noncomputable def stepS (s : Str) (q : PV) : Str := s ++ ((" * (" : Str) ++ shS (trimZ (goG q)) ++ (")" : Str)) ++ (if goO q > 1 then ("^" : Str) ++ numS (goO q) else e0)
noncomputable def prS (c : Int) (l : List PV) : Str := l.foldl stepS (numS c)
theorem prS_next {c : Int} {l : List PV} {i : Nat} {q : PV} (h : l[i]? = some q) : prS c (l.take (i + 1)) = stepS (prS c (l.take i)) q := by
  unfold prS
  rw [take_at h, List.foldl_append]
  rfl
theorem prS_len {c : Int} {l : List PV} (hc : (c.natAbs : Int) < 10 ^ 100) (h : ∀ q ∈ l, Gd q) : ∀ i, i ≤ l.length → (prS c (l.take i)).length ≤ 150 + 30700 * i
  | 0, _ => by
    have := numS_lenA hc
    show (numS c).length ≤ _
    omega
  | i + 1, hi => by
    have ih := prS_len hc h i (by omega)
    have en : l[i]? = some l[i] := List.getElem?_eq_getElem (by omega)
    rw [prS_next en]
    obtain ⟨g, o, e, g1, g2, o1, o2⟩ := h l[i] (List.getElem_mem (by omega))
    rw [e]
    unfold stepS
    show (prS c (l.take i) ++ ((" * (" : Str) ++ shS (trimZ g) ++ (")" : Str)) ++ (if o > 1 then ("^" : Str) ++ numS o else e0)).length ≤ _
    have h1 := shS_len g2 g1
    have h2 := (numS_len o1 (smallB o2)).2
    have l1 : (" * (" : Str).length = 4 := by decide +kernel
    have l2 : (")" : Str).length = 1 := by decide +kernel
    have l3 : ("^" : Str).length = 1 := by decide +kernel
    have l4 : e0.length = 0 := by decide +kernel
    rw [len_app, len_app, len_app, len_app, l1, l2]
    split
    · rw [len_app, l3]; omega
    · rw [l4]; omega
theorem kx_product_shown (T : Top K mg cFE cBP cBT cK cW cRd) : Ok P w K mg base 6 "product_shown" ["content", "pairs"] (spF K (G82 cW) (fun as => ∃ c l, as = [.int c, .lst l] ∧ (c.natAbs : Int) < 10 ^ 100 ∧ l.length ≤ 30 ∧ ∀ q ∈ l, Gd q) fun as => match as with
    | [.int c, .lst l] => .str (prS c l)
    | _ => .non) := by
  refine okF T.d_product_shown sc_product_shown (fun as ⟨a, b, h, _⟩ => by rw [h]; rfl) (fun f cdv A outer s H E hr => ⟨_, (xss_cons (xst_setS (i := 2) sc_product_shown.nd rfl (Or.inl rfl) (xs_ofI T.b_str (xn 0)))
 (xss_cons (xst_forT (k := 3) (j := 4) PassesOwn.never rfl (xp_of (xv 1)) (pg_tup rfl (pgs_cons (pg_name (i := 3) sc_product_shown.nd rfl (Or.inl rfl)) (pgs_cons (pg_name (i := 4) sc_product_shown.nd rfl (Or.inl rfl)) pgs_nil)))
 (xss_cons (xst_setS (i := 5) sc_product_shown.nd rfl (Or.inl rfl) (xs_of (xc (kx_shown T) hr (xa_cons (xl 3) xa_nil))))
 (xss_cons (xst_augS (i := 2) sc_product_shown.nd rfl (Or.inl rfl) (xs_fM (xs 5)))
 (xss_one (xst_if (xt_gt (xn 4) xn_int)
 (xss_one (xst_augS (i := 2) sc_product_shown.nd rfl (Or.inl rfl) (xs_fN (xn 4))))
 xss_nil)))))
 (xss_one (xst_ret (xs 2))))), fun as hp => ?_⟩)
  obtain ⟨c, l, rfl, hc, hl, hg⟩ := hp
  have pl := prS_len hc hg
  refine ⟨⟨rfl, logB hc⟩, fun t0 et0 => ?_⟩
  have et0 : t0 = numS c := et0
  refine to_lit (ρ' := [.fr (.int c), .fr (.lst l), .fr (.str t0), .un, .un, .un]) rfl ?_
  refine ⟨⟨⟨rfl, rfl⟩, fun q hq => (hg q hq).go.pair⟩, fun i ρ => ∃ tx v3 v4 v5, ρ = [.fr (.int c), .fr (.lst l), .fr (.str tx), v3, v4, v5] ∧ tx = prS c (l.take i), ⟨t0, .un, .un, .un, rfl, et0⟩, ?_, ?_⟩
  · rintro i q ρ hq ⟨tx, v3, v4, v5, rfl, etx⟩
    have hq : l[i]? = some q := hq
    have hi : i < l.length := (List.getElem?_eq_some_iff.mp hq).1
    have txl := pl i (by omega)
    rw [← etx] at txl
    have nx := prS_next (c := c) hq
    rw [← etx] at nx
    have nl := pl (i + 1) (by omega)
    rw [nx] at nl
    obtain ⟨g, o, e, g1, g2, o1, o2⟩ := hg q (List.mem_of_getElem? hq)
    subst e
    have sl := shS_len g2 g1
    have h2 := (numS_len o1 (smallB o2)).2
    have l1 : (" * (" : Str).length = 4 := by decide +kernel
    have l2 : (")" : Str).length = 1 := by decide +kernel
    have l3 : ("^" : Str).length = 1 := by decide +kernel
    refine ⟨⟨⟨⟨rfl, True.intro⟩, g, rfl, g1, g2⟩, rfl⟩, fun po epo => ?_⟩
    have epo : po = shS (trimZ g) := epo
    rw [← epo] at sl
    refine to_lit (ρ' := [.fr (.int c), .fr (.lst l), .fr (.str tx), .fr (.ints g), .fr (.int o), .fr (.str po)]) rfl ?_
    refine ⟨rfl, ⟨rfl, ?_, ?_, ?_, ?_⟩, ?_, fun t1 et1 => ?_⟩
    · show (" * (" : Str).length ≤ sizeLine
      rw [l1]; exact sz (by omega)
    · show po.length ≤ sizeLine
      exact sz (by omega)
    · show ((" * (" : Str) ++ po).length ≤ sizeLine
      rw [len_app, l1]; exact sz (by omega)
    · show ((" * (" : Str) ++ po ++ (")" : Str)).length ≤ sizeLine
      rw [len_app, len_app, l1, l2]; exact sz (by omega)
    · show tx.length + ((" * (" : Str) ++ po ++ (")" : Str)).length ≤ sizeLine
      rw [len_app, len_app, l1, l2]; exact sz (by omega)
    have et1 : t1 = tx ++ ((" * (" : Str) ++ po ++ (")" : Str)) := et1
    have t1l : t1.length ≤ tx.length + 30410 := by rw [et1, len_app, len_app, len_app, l1, l2]; omega
    have st : stepS tx (.tup [.ints g, .int o]) = t1 ++ (if o > 1 then ("^" : Str) ++ numS o else e0) := by
      rw [et1, epo]
      rfl
    have ko : (o.natAbs : Int) < 10 ^ 100 := by
      have := smallB o2
      generalize (10 : Int) ^ 100 = Z at *
      omega
    refine to_lit (ρ' := [.fr (.int c), .fr (.lst l), .fr (.str t1), .fr (.ints g), .fr (.int o), .fr (.str po)]) rfl ?_
    refine ⟨⟨rfl, True.intro⟩, fun z => ?_, fun z => ?_⟩
    · have z : o > 1 := z
      rw [if_pos z] at st
      refine ⟨rfl, ⟨rfl, ?_, logB ko, ?_⟩, ?_, fun t2 et2 => ⟨t2, .fr (.ints g), .fr (.int o), .fr (.str po), rfl, ?_⟩⟩
      · show ("^" : Str).length ≤ sizeLine
        rw [l3]; exact sz (by omega)
      · show (("^" : Str) ++ numS o).length ≤ sizeLine
        rw [len_app, l3]; exact sz (by omega)
      · show t1.length + (("^" : Str) ++ numS o).length ≤ sizeLine
        rw [len_app, l3]; exact sz (by omega)
      · have et2 : t2 = t1 ++ (("^" : Str) ++ numS o) := et2
        rw [nx, st, et2]
    · have z : ¬ o > 1 := z
      rw [if_neg z] at st
      refine ⟨t1, .fr (.ints g), .fr (.int o), .fr (.str po), rfl, ?_⟩
      rw [nx, st, app_nil']
  · rintro ρ ⟨tx, v3, v4, v5, rfl, etx⟩
    have etx : tx = prS c (l.take l.length) := etx
    rw [List.take_length] at etx
    refine ⟨rfl, ?_⟩
    show PV.str tx = PV.str (prS c l)
    rw [etx]
theorem kx_product (T : Top K mg cFE cBP cBT cK cW cRd) : Ok P w K mg base 3 "_law_product" ["_law_content", "_law_pairs"] (spF K (G82 cW) (fun as => ∃ c l, as = [.int c, .lst l] ∧ (c.natAbs : Int) < 10 ^ 100 ∧ l.length ≤ 30 ∧ ∀ q ∈ l, Gd q) fun as => match as with
    | [.int c, .lst l] => .str (prS c l)
    | _ => .non) := by
  refine okF T.d_product sc_product (fun as ⟨a, b, h, _⟩ => by rw [h]; rfl) (fun f cdv A outer s H E hr => ⟨_, (xss_cons (xst_setS (i := 2) sc_product.nd rfl (Or.inl rfl) (xs_ofI T.b_str (xn 0)))
 (xss_cons (xst_forT (k := 3) (j := 4) PassesOwn.never rfl (xp_of (xv 1)) (pg_tup rfl (pgs_cons (pg_name (i := 3) sc_product.nd rfl (Or.inl rfl)) (pgs_cons (pg_name (i := 4) sc_product.nd rfl (Or.inl rfl)) pgs_nil)))
 (xss_cons (xst_setS (i := 2) sc_product.nd rfl (Or.inl rfl) (xs_add (xs_add (xs_add (xs 2) xs_str) (xs_of (xc (kx_law_shown T) hr (xa_cons (xl 3) xa_nil)))) xs_str))
 (xss_one (xst_if (xt_gt (xn 4) xn_int)
 (xss_one (xst_setS (i := 2) sc_product.nd rfl (Or.inl rfl) (xs_add (xs_add (xs 2) xs_str) (xs_ofI T.b_str (xn 4)))))
 xss_nil))))
 (xss_one (xst_ret (xs 2))))), fun as hp => ?_⟩)
  obtain ⟨c, l, rfl, hc, hl, hg⟩ := hp
  have pl := prS_len hc hg
  refine ⟨⟨rfl, logB hc⟩, fun t0 et0 => ?_⟩
  have et0 : t0 = numS c := et0
  refine to_lit (ρ' := [.fr (.int c), .fr (.lst l), .fr (.str t0), .un, .un]) rfl ?_
  refine ⟨⟨⟨rfl, rfl⟩, fun q hq => (hg q hq).go.pair⟩, fun i ρ => ∃ tx v3 v4, ρ = [.fr (.int c), .fr (.lst l), .fr (.str tx), v3, v4] ∧ tx = prS c (l.take i), ⟨t0, .un, .un, rfl, et0⟩, ?_, ?_⟩
  · rintro i q ρ hq ⟨tx, v3, v4, rfl, etx⟩
    have hq : l[i]? = some q := hq
    have hi : i < l.length := (List.getElem?_eq_some_iff.mp hq).1
    have txl := pl i (by omega)
    rw [← etx] at txl
    have nx := prS_next (c := c) hq
    rw [← etx] at nx
    obtain ⟨g, o, e, g1, g2, o1, o2⟩ := hg q (List.mem_of_getElem? hq)
    subst e
    have sl := shS_len g2 g1
    have h2 := (numS_len o1 (smallB o2)).2
    have l1 : (" * (" : Str).length = 4 := by decide +kernel
    have l2 : (")" : Str).length = 1 := by decide +kernel
    have l3 : ("^" : Str).length = 1 := by decide +kernel
    refine ⟨⟨⟨⟨rfl, True.intro, ?_⟩, ⟨⟨⟨rfl, True.intro⟩, g, rfl, g1, g2⟩, rfl⟩, ?_⟩, True.intro, ?_⟩, fun t1 et1 => ?_⟩
    · show tx.length + (" * (" : Str).length ≤ sizeLine
      rw [l1]; exact sz (by omega)
    · show (tx ++ (" * (" : Str)).length + (shS (trimZ g)).length ≤ sizeLine
      rw [len_app, l1]; exact sz (by omega)
    · show (tx ++ (" * (" : Str) ++ shS (trimZ g)).length + (")" : Str).length ≤ sizeLine
      rw [len_app, len_app, l1, l2]; exact sz (by omega)
    have et1 : t1 = tx ++ (" * (" : Str) ++ shS (trimZ g) ++ (")" : Str) := et1
    have t1l : t1.length ≤ tx.length + 30410 := by rw [et1, len_app, len_app, len_app, l1, l2]; omega
    have st : stepS tx (.tup [.ints g, .int o]) = t1 ++ (if o > 1 then ("^" : Str) ++ numS o else e0) := by
      rw [et1, app_assoc' tx, app_assoc' tx]
      rfl
    have ko : (o.natAbs : Int) < 10 ^ 100 := by
      have := smallB o2
      generalize (10 : Int) ^ 100 = Z at *
      omega
    refine to_lit (ρ' := [.fr (.int c), .fr (.lst l), .fr (.str t1), .fr (.ints g), .fr (.int o)]) rfl ?_
    refine ⟨⟨rfl, True.intro⟩, fun z => ?_, fun z => ?_⟩
    · have z : o > 1 := z
      rw [if_pos z] at st
      refine ⟨⟨⟨rfl, True.intro, ?_⟩, ⟨rfl, logB ko⟩, ?_⟩, fun t2 et2 => ⟨t2, .fr (.ints g), .fr (.int o), rfl, ?_⟩⟩
      · show t1.length + ("^" : Str).length ≤ sizeLine
        rw [l3]; exact sz (by omega)
      · show (t1 ++ ("^" : Str)).length + (numS o).length ≤ sizeLine
        rw [len_app, l3]; exact sz (by omega)
      · have et2 : t2 = t1 ++ ("^" : Str) ++ numS o := et2
        rw [nx, st, et2, app_assoc']
    · have z : ¬ o > 1 := z
      rw [if_neg z] at st
      refine ⟨t1, .fr (.ints g), .fr (.int o), rfl, ?_⟩
      rw [nx, st, app_nil']
  · rintro ρ ⟨tx, v3, v4, rfl, etx⟩
    have etx : tx = prS c (l.take l.length) := etx
    rw [List.take_length] at etx
    refine ⟨rfl, ?_⟩
    show PV.str tx = PV.str (prS c l)
    rw [etx]


theorem bits_lt {c : Int} {N : Nat} (h : Builtin.Int.intBits c ≤ N) : c.natAbs < 2 ^ N := by
  unfold Builtin.Int.intBits at h
  split at h
  · rename_i z
    have : c.natAbs = 0 := by first | omega | (simp at z; omega)
    rw [this]
    exact Nat.pow_pos (by decide)
  · rename_i z
    have : c.natAbs ≠ 0 := by first | omega | (simp at z; omega)
    exact (Nat.log2_lt this).mp (by omega)
theorem bits_div {c : Int} (d : Int) {N : Nat} (h : Builtin.Int.intBits c ≤ N) : Builtin.Int.intBits (c / d) ≤ N :=
  bits_le (Nat.lt_of_le_of_lt (Int.natAbs_ediv_le_natAbs c d) (bits_lt h))
noncomputable def nbF (c : Int) : Int := if c % 6 < 3 then c % 6 - 1 else if c % 6 = 3 then c / 6 % 21 - 10 else if c % 6 = 4 then (c * c + c) * 982451653 % (2 * 10 ^ 12 + 1) - 10 ^ 12 else c / 6 % (2 * 10 ^ 50 * 10 ^ 50 - 1) - (10 ^ 50 * 10 ^ 50 - 1)
theorem nbF_b (c : Int) : ((nbF c).natAbs : Int) < 10 ^ 100 := by
  have h0 := Int.emod_nonneg c (show (6 : Int) ≠ 0 by decide)
  have h1 := Int.emod_nonneg (c / 6) (show (21 : Int) ≠ 0 by decide)
  have h2 := Int.emod_lt_of_pos (c / 6) (show (0 : Int) < 21 by decide)
  have h3 := Int.emod_nonneg ((c * c + c) * 982451653) (show (2 * 10 ^ 12 + 1 : Int) ≠ 0 by decide)
  have h4 := Int.emod_lt_of_pos ((c * c + c) * 982451653) (show (0 : Int) < 2 * 10 ^ 12 + 1 by decide)
  have h5 := Int.emod_nonneg (c / 6) (show (2 * 10 ^ 50 * 10 ^ 50 - 1 : Int) ≠ 0 by decide)
  have h6 := Int.emod_lt_of_pos (c / 6) (show (0 : Int) < 2 * 10 ^ 50 * 10 ^ 50 - 1 by decide)
  have h7 : (2 * 10 ^ 50 * 10 ^ 50 : Int) = 2 * 10 ^ 100 := by decide +kernel
  have h8 : (10 ^ 50 * 10 ^ 50 : Int) = 10 ^ 100 := by decide +kernel
  have h9 : (10 : Int) ^ 12 * 1000 ≤ 10 ^ 100 := by decide +kernel
  have ha : (1 : Int) ≤ 10 ^ 12 := by decide +kernel
  unfold nbF
  rw [h7, h8]
  rw [h7] at h5 h6
  generalize (10 : Int) ^ 100 = A at *
  generalize (10 : Int) ^ 12 = B at *
  generalize (c * c + c) * 982451653 % (2 * B + 1) = D at *
  generalize c / 6 % (2 * A - 1) = E at *
  generalize c / 6 % 21 = F at *
  clear h7 h8
  split
  · omega
  · split
    · omega
    · split <;> omega
theorem kx_number_by (T : Top K mg cFE cBP cBT cK cW cRd) : Ok P w K mg base 1 "_law_number_by" ["_law_cell"] (spFI K (G82 cW) (fun as => ∃ c, as = [.int c] ∧ Builtin.Int.intBits c ≤ 2 ^ 20) fun as => match as with
    | [.int c] => nbF c
    | _ => 0) := by
  refine okF T.d_number_by sc_number_by (fun as ⟨a, h, _⟩ => by rw [h]; rfl) (fun f cdv A outer s H E hr => ⟨_, (xss_cons (xst_setI (i := 1) sc_number_by.nd rfl (Or.inl rfl) (xn_mod (xn 0) xn_int))
 (xss_cons (xst_if (xt_lt (xn 1) xn_int)
 (xss_one (xst_ret (xn_sub (xn 1) xn_int)))
 xss_nil)
 (xss_cons (xst_if (xt_eq (xn 1) xn_int)
 (xss_one (xst_ret (xn_sub (xn_mod (xn_div (xn 0) xn_int) xn_int) xn_int)))
 xss_nil)
 (xss_cons (xst_if (xt_eq (xn 1) xn_int)
 (xss_one (xst_ret (xn_sub (xn_mod (xn_mul (xn_add (xn_mul (xn 0) (xn 0)) (xn 0)) xn_int) (xn_add (xn_mul xn_int (xn_pow xn_int xn_int)) xn_int)) (xn_pow xn_int xn_int))))
 xss_nil)
 (xss_one (xst_ret (xn_sub (xn_mod (xn_div (xn 0) xn_int) (xn_sub (xn_mul (xn_mul xn_int (xn_pow xn_int xn_int)) (xn_pow xn_int xn_int)) xn_int)) (xn_sub (xn_mul (xn_pow xn_int xn_int) (xn_pow xn_int xn_int)) xn_int)))))))), fun as hp => ?_⟩)
  obtain ⟨c, rfl, hb⟩ := hp
  refine ⟨by walk_at "xs", fun w ew => ?_⟩
  have ew : w = c % 6 := ew
  refine ⟨by walk_at "xs", fun q => ?_, fun q => ?_⟩
  · have q : w < 3 := q
    refine ⟨by walk_at "xs", ?_⟩
    show PV.int (w - 1) = PV.int (nbF c)
    unfold nbF
    rw [← ew, if_pos q]
  have q : ¬ w < 3 := q
  refine ⟨by walk_at "xs", fun q2 => ?_, fun q2 => ?_⟩
  · have q2 : w = 3 := q2
    refine ⟨by walk_at "xs", ?_⟩
    show PV.int (c / 6 % 21 - 10) = PV.int (nbF c)
    unfold nbF
    rw [← ew, if_neg q, if_pos q2]
  have q2 : ¬ w = 3 := q2
  refine ⟨by walk_at "xs", fun q3 => ?_, fun q3 => ?_⟩
  · have q3 : w = 4 := q3
    refine ⟨⟨⟨⟨⟨⟨rfl, rfl, IntMulOk.of_bits hb hb⟩, rfl⟩, True.intro, mul_okR (by decide)⟩, ⟨⟨True.intro, ⟨True.intro, True.intro, by walk_at "xs"⟩, by walk_at "xs"⟩, True.intro⟩, by show (0 : Int) < 2 * 10 ^ 12 + 1; decide⟩, True.intro, True.intro, by walk_at "xs"⟩, ?_⟩
    show PV.int ((c * c + c) * 982451653 % (2 * 10 ^ 12 + 1) - 10 ^ 12) = PV.int (nbF c)
    unfold nbF
    rw [← ew, if_neg q, if_neg q2, if_pos q3]
  · have q3 : ¬ w = 4 := q3
    have m1 : IntMulOk (2 * 10 ^ 50 : Int) ((10 : Int) ^ 50) := mul_ok (n := 200) (m := 200) (by decide +kernel) (by decide +kernel)
    have m2 : IntMulOk ((10 : Int) ^ 50) ((10 : Int) ^ 50) := mul_ok (n := 200) (m := 200) (by decide +kernel) (by decide +kernel)
    refine ⟨⟨⟨⟨rfl, True.intro, by walk_at "xs"⟩, ⟨⟨⟨True.intro, ⟨True.intro, True.intro, by walk_at "xs"⟩, by walk_at "xs"⟩, ⟨True.intro, True.intro, by walk_at "xs"⟩, m1⟩, True.intro⟩, by show (0 : Int) < 2 * 10 ^ 50 * 10 ^ 50 - 1; decide⟩, ⟨⟨True.intro, True.intro, by walk_at "xs"⟩, ⟨True.intro, True.intro, by walk_at "xs"⟩, m2⟩, True.intro⟩, ?_⟩
    show PV.int (c / 6 % (2 * 10 ^ 50 * 10 ^ 50 - 1) - (10 ^ 50 * 10 ^ 50 - 1)) = PV.int (nbF c)
    unfold nbF
    rw [← ew, if_neg q, if_neg q2, if_neg q3]

noncomputable def ofF (c : Int) : Int := if c % 3 < 2 then 1 + c % 3 else ([40, 2 + c / 3 % 39] : List Int).getD (ixO 2 (c / 3 % 2)) 0
theorem get2_b {a b : Int} (ha : 0 ≤ a ∧ a < 1000) (hb : 0 ≤ b ∧ b < 1000) (k : Nat) : 0 ≤ ([a, b] : List Int).getD k 0 ∧ ([a, b] : List Int).getD k 0 < 1000 := by
  match k with
  | 0 => exact ha
  | 1 => exact hb
  | k + 2 => exact ⟨Int.le_refl 0, by show (0 : Int) < 1000; decide⟩
theorem ofF_b (c : Int) : 0 ≤ ofF c ∧ ofF c < 1000 := by
  have h0 := Int.emod_nonneg c (show (3 : Int) ≠ 0 by decide)
  have h1 := Int.emod_nonneg (c / 3) (show (39 : Int) ≠ 0 by decide)
  have h2 := Int.emod_lt_of_pos (c / 3) (show (0 : Int) < 39 by decide)
  have h3 := get2_b (a := 40) (b := 2 + c / 3 % 39) (by decide) (by omega) (ixO 2 (c / 3 % 2))
  unfold ofF
  split
  · omega
  · exact h3
theorem kx_often_by (T : Top K mg cFE cBP cBT cK cW cRd) : Ok P w K mg base 1 "_law_often_by" ["_law_cell"] (spFI K (G82 cW) (fun as => ∃ c, as = [.int c]) fun as => match as with
    | [.int c] => ofF c
    | _ => 0) := by
  refine okF T.d_often_by sc_often_by (fun as ⟨a, h⟩ => by rw [h]; rfl) (fun f cdv A outer s H E hr => ⟨_, (xss_cons (xst_if (xt_lt (xn_mod (xn 0) xn_int) xn_int)
 (xss_one (xst_ret (xn_add xn_int (xn_mod (xn 0) xn_int))))
 xss_nil)
 (xss_one (xst_ret (xn_of (xp_item (newL (xl_lst (xa_cons xn_int (xa_cons (xn_add xn_int (xn_mod (xn_div (xn 0) xn_int) xn_int)) xa_nil)))) (xn_mod (xn_div (xn 0) xn_int) xn_int) (fun _ _ => rfl)))))), fun as hp => ?_⟩)
  obtain ⟨c, rfl⟩ := hp
  have k1 := Int.emod_nonneg (c / 3) (show (2 : Int) ≠ 0 by decide)
  have k2 := Int.emod_lt_of_pos (c / 3) (show (0 : Int) < 2 by decide)
  refine ⟨by walk_at "xs", fun q => ?_, fun q => ?_⟩
  · have q : c % 3 < 2 := q
    refine ⟨by walk_at "xs", ?_⟩
    show PV.int (1 + c % 3) = PV.int (ofF c)
    unfold ofF
    rw [if_pos q]
  · have q : ¬ c % 3 < 2 := q
    refine ⟨⟨⟨⟨⟨True.intro, by walk_at "xs", True.intro⟩, True.intro⟩, by walk_at "xs", ?_⟩, rfl⟩, ?_⟩
    · show -(2 : Int) ≤ c / 3 % 2 ∧ c / 3 % 2 < 2
      omega
    · show PV.int (([40, 2 + c / 3 % 39] : List Int).getD (ixO 2 (c / 3 % 2)) 0) = PV.int (ofF c)
      unfold ofF
      rw [if_neg q]
/-- the cells of one pair -/
noncomputable def m3 (k n : Int) : Int := if n < k + 3 then (if 63 < n then 63 else n) else (if 63 < k + 3 then 63 else k + 3)

noncomputable def smF (ns : List Int) (k : Int) : List Int := (List.range (m3 k (ns.length : Int) - k).toNat).map fun (j : Nat) => ns.getD (ixO ns.length (k + j)) 0
noncomputable def shF (c : Int) : Int := ([0, 1, 0, c / 4 % 39] : List Int).getD (ixO 4 (c % 4)) 0
theorem shF_b (c : Int) : 0 ≤ shF c ∧ shF c ≤ 39 := by
  have h1 := Int.emod_nonneg (c / 4) (show (39 : Int) ≠ 0 by decide)
  have h2 := Int.emod_lt_of_pos (c / 4) (show (0 : Int) < 39 by decide)
  unfold shF
  generalize ixO 4 (c % 4) = k
  match k with
  | 0 => exact ⟨by show (0 : Int) ≤ 0; decide, by show (0 : Int) ≤ 39; decide⟩
  | 1 => exact ⟨by show (0 : Int) ≤ 1; decide, by show (1 : Int) ≤ 39; decide⟩
  | 2 => exact ⟨by show (0 : Int) ≤ 0; decide, by show (0 : Int) ≤ 39; decide⟩
  | 3 => exact ⟨h1, by show c / 4 % 39 ≤ 39; omega⟩
  | k + 4 => exact ⟨by show (0 : Int) ≤ 0; decide, by show (0 : Int) ≤ 39; decide⟩
noncomputable def rowG (sm : List Int) : List Int := List.replicate (shF (sm.getD (ixO sm.length 0) 0)).toNat 0 ++ sm.map fun c => nbF (c / 2)
noncomputable def rowP (sm : List Int) : PV := .tup [.ints (rowG sm ++ List.replicate (sm.getD (ixO sm.length (-1)) 0 / 5 % 2).toNat 0), .int (ofF (sm.getD (ixO sm.length 0) 0 / 7))]
theorem smF_ok {ns : List Int} {k : Int} (h0 : 0 ≤ k) (h1 : k < ns.length) (h2 : k < 63) : 1 ≤ (smF ns k).length ∧ (smF ns k).length ≤ 3 ∧ ∀ m ∈ smF ns k, m ∈ ns := by
  have hm : k + 1 ≤ m3 k ns.length ∧ m3 k ns.length ≤ k + 3 ∧ m3 k ns.length ≤ ns.length := by
    unfold m3
    split
    · split <;> omega
    · split <;> omega
  unfold smF
  rw [List.length_map, List.length_range]
  refine ⟨by omega, by omega, fun m hx => ?_⟩
  obtain ⟨j, hj, rfl⟩ := List.mem_map.mp hx
  have hj := List.mem_range.mp hj
  have e : ixO ns.length (k + j) < ns.length := ixO_lt (by omega) (by omega)
  exact FM.getD_mem e
theorem rowP_ok {sm : List Int} (h : sm.length ≤ 3) : Gd (rowP sm) := by
  have h1 := shF_b (sm.getD (ixO sm.length 0) 0)
  have k1 := Int.emod_nonneg (sm.getD (ixO sm.length (-1)) 0 / 5) (show (2 : Int) ≠ 0 by decide)
  have k2 := Int.emod_lt_of_pos (sm.getD (ixO sm.length (-1)) 0 / 5) (show (0 : Int) < 2 by decide)
  refine ⟨_, _, rfl, ?_, fun m hm => ?_, ofF_b _⟩
  · unfold rowG
    rw [List.length_append, List.length_append, List.length_replicate, List.length_replicate, List.length_map]
    omega
  · have z : ((0 : Int).natAbs : Int) < 10 ^ 100 := by decide +kernel
    rcases List.mem_append.mp hm with q | q
    · unfold rowG at q
      rcases List.mem_append.mp q with q | q
      · rw [(List.mem_replicate.mp q).2]; exact z
      · obtain ⟨c, _, rfl⟩ := List.mem_map.mp q
        exact nbF_b _
    · rw [(List.mem_replicate.mp q).2]; exact z
theorem kx_pair (T : Top K mg cFE cBP cBT cK cW cRd) : Ok P w K mg base 2 "_law_pair" ["_law_script", "_law_k"] (spF K (G82 cW) (fun as => ∃ ns k, as = [.scr ns, .int k] ∧ 0 ≤ k ∧ k < (ns.length : Int) ∧ k < 63 ∧ ns.length ≤ 63 ∧ ∀ m ∈ ns, Builtin.Int.intBits m ≤ 2 ^ 20) fun as => match as with
    | [.scr ns, .int k] => rowP (smF ns k)
    | _ => .non) := by
  refine okF T.d_pair sc_pair (fun as ⟨a, b, h, _⟩ => by rw [h]; rfl) (fun f cdv A outer s H E hr => ⟨_, (xss_cons (xst_lcR2f (i := 2) sc_pair.nd rfl rfl (N' := ["_law_j", "_law_script"]) (cap := [some 0]) (lc_ok rfl rfl rfl rfl ⟨⟨rfl, Or.inr (Or.inl rfl), (fun z => nomatch (show (some NameKind.cell : Option NameKind) = some NameKind.local from z)), Or.inl rfl, _, rfl, rfl⟩, True.intro⟩ ⟨rfl, True.intro⟩ rfl) rfl (by rfl) T.b_range (xn 1) (xn_min3 rfl T.b_min (xn_add (xn 1) xn_int) (xn_len 0 T.b_len) xn_int) (fun _ _ _ => (pg_name (i := 0) (show (["_law_j", "_law_script"] : List Str).Nodup by decide +kernel) rfl (Or.inl rfl) (.inr rfl))) (fun _ _ _ => (xn_item 1 (xn 0) (fun _ _ => rfl))) rfl)
 (xss_cons (xst_setI (i := 3) sc_pair.nd rfl (Or.inl rfl) (xn_of (xp_item (newL (xl_lst (xa_cons xn_int (xa_cons xn_int (xa_cons xn_int (xa_cons (xn_mod (xn_div (xn_item 2 xn_int (fun _ _ => rfl)) xn_int) xn_int) xa_nil)))))) (xn_mod (xn_item 2 xn_int (fun _ _ => rfl)) xn_int) (fun _ _ => rfl))))
 (xss_cons (xst_setL (i := 4) sc_pair.nd rfl (Or.inl rfl) (newL (xl_cat (newL (xl_rep (xl_lst (xa_cons xn_int xa_nil)) (xn 3) (fun _ => rfl))) (newL (xl_lcL (N' := ["_law_cell"]) (cap := []) (lc_ok rfl rfl rfl rfl True.intro True.intro rfl) rfl (xl 2) (fun _ _ _ => (pg_name (i := 0) (show (["_law_cell"] : List Str).Nodup by decide +kernel) rfl (Or.inl rfl) (.inr rfl))) (fun _ _ _ => (xci (kx_number_by T) hr (xa_cons (xn_div (xn 0) xn_int) xa_nil))))))))
 (xss_one (xst_ret (xp_tup (xa_cons (newL (xl_cat (xl 4) (newL (xl_rep (xl_lst (xa_cons xn_int xa_nil)) (xn_mod (xn_div (xn_item 2 (xn_neg xn_int) (fun _ _ => rfl)) xn_int) xn_int) (fun _ => rfl))))) (xa_cons (xci (kx_often_by T) hr (xa_cons (xn_div (xn_item 2 xn_int (fun _ _ => rfl)) xn_int) xa_nil)) xa_nil)))))))), fun as hp => ?_⟩)
  obtain ⟨ns, k, rfl, h0, h1, h2, h63, hbits⟩ := hp
  have hm : k + 1 ≤ m3 k ns.length ∧ m3 k ns.length ≤ k + 3 ∧ m3 k ns.length ≤ ns.length := by
    unfold m3
    split
    · split <;> omega
    · split <;> omega
  obtain ⟨s1, s2, s3⟩ := smF_ok h0 h1 h2
  refine ⟨⟨⟨rfl, ⟨rfl, True.intro⟩, .inr (.inr rfl), True.intro⟩, ⟨?_, ?_, ?_, ?_⟩, ?_, fun j hj => ?_⟩, fun sm esm => ?_⟩
  · show -(2 : Int) ^ 62 ≤ k
    omega
  · show k < 2 ^ 62
    omega
  · show -(2 : Int) ^ 62 ≤ m3 k ns.length
    omega
  · show m3 k ns.length < 2 ^ 62
    omega
  · show (m3 k ns.length - k).toNat ≤ 1000
    omega
  · have hj : j < (m3 k ns.length - k).toNat := hj
    exact ⟨.inr (.inr rfl), rfl, by show -(ns.length : Int) ≤ k + (j : Int); omega, by show k + (j : Int) < (ns.length : Int); omega⟩
  have esm : sm = smF ns k := esm
  rw [← esm] at s1 s2 s3
  refine to_lit (ρ' := [.fr (.scr ns), .fr (.int k), .fr (.ints sm), .un, .un]) rfl ?_
  have c1 : -(sm.length : Int) ≤ 0 := by omega
  have c2 : (0 : Int) < (sm.length : Int) := by omega
  have d1 : -(sm.length : Int) ≤ -1 := by omega
  have d2 : (-1 : Int) < (sm.length : Int) := by omega
  generalize e0 : sm.getD (ixO sm.length 0) 0 = x0
  have k1 := Int.emod_nonneg x0 (show (4 : Int) ≠ 0 by decide)
  have k2 := Int.emod_lt_of_pos x0 (show (0 : Int) < 4 by decide)
  refine ⟨⟨⟨⟨⟨True.intro, True.intro, True.intro, ⟨⟨⟨.inl rfl, True.intro, c1, c2⟩, True.intro, by show (0 : Int) < 4; decide, by show (4 : Int).natAbs.log2 < 9000; decide +kernel⟩, True.intro, by show (0 : Int) < 39; decide⟩, True.intro⟩, True.intro⟩, ⟨⟨.inl rfl, True.intro, c1, c2⟩, True.intro, by show (0 : Int) < 4; decide⟩, ?_⟩, rfl⟩, fun sh esh => ?_⟩
  · show -(4 : Int) ≤ sm.getD (ixO sm.length 0) 0 % 4 ∧ sm.getD (ixO sm.length 0) 0 % 4 < 4
    rw [e0]
    omega
  have esh : sh = shF (sm.getD (ixO sm.length 0) 0) := esh
  have hsh := shF_b (sm.getD (ixO sm.length 0) 0)
  rw [← esh] at hsh
  refine to_lit (ρ' := [.fr (.scr ns), .fr (.int k), .fr (.ints sm), .fr (.int sh), .un]) rfl ?_
  refine ⟨⟨⟨⟨⟨True.intro, True.intro⟩, True.intro⟩, rfl, by show -(2 : Int) ^ 63 ≤ sh; omega, by show sh.toNat ≤ 1000; omega⟩, ⟨rfl, by show sm.length ≤ 1000; omega, fun n hn => ⟨⟨⟨rfl, True.intro, by show (0 : Int) < 2; decide, by show (2 : Int).natAbs.log2 < 9000; decide +kernel⟩, True.intro⟩, n / 2, rfl, ?_⟩⟩, ?_⟩, fun g eg => ?_⟩
  · have hn : n ∈ sm := hn
    exact bits_div 2 (hbits n (s3 n hn))
  · refine Nat.le_of_lt (small1000 ?_)
    show (List.replicate sh.toNat (0 : Int)).length + (sm.map fun c => nbF (c / 2)).length ≤ 1000
    rw [List.length_replicate, List.length_map]
    omega
  have eg : g = List.replicate sh.toNat 0 ++ sm.map fun c => nbF (c / 2) := eg
  have gl : g.length ≤ 50 := by rw [eg, List.length_append, List.length_replicate, List.length_map]; omega
  have eg : g = rowG sm := by rw [eg, esh]; rfl
  have j1 := Int.emod_nonneg (sm.getD (ixO sm.length (-1)) 0 / 5) (show (2 : Int) ≠ 0 by decide)
  have j2 := Int.emod_lt_of_pos (sm.getD (ixO sm.length (-1)) 0 / 5) (show (0 : Int) < 2 by decide)
  refine to_lit (ρ' := [.fr (.scr ns), .fr (.int k), .fr (.ints sm), .fr (.int sh), .fr (.ints g)]) rfl ?_
  refine ⟨⟨⟨rfl, ⟨⟨⟨True.intro, True.intro⟩, True.intro⟩, ⟨⟨⟨.inl rfl, True.intro, d1, d2⟩, True.intro, by show (0 : Int) < 5; decide, by show (5 : Int).natAbs.log2 < 9000; decide +kernel⟩, True.intro, by show (0 : Int) < 2; decide⟩, ?_, ?_⟩, ?_⟩, ⟨⟨⟨⟨.inl rfl, True.intro, c1, c2⟩, True.intro, by show (0 : Int) < 7; decide, by show (7 : Int).natAbs.log2 < 9000; decide +kernel⟩, True.intro⟩, _, rfl⟩, True.intro⟩, ?_⟩
  · show -(2 : Int) ^ 63 ≤ sm.getD (ixO sm.length (-1)) 0 / 5 % 2
    omega
  · show (sm.getD (ixO sm.length (-1)) 0 / 5 % 2).toNat ≤ 1000
    omega
  · refine Nat.le_of_lt (small1000 ?_)
    show g.length + (List.replicate (sm.getD (ixO sm.length (-1)) 0 / 5 % 2).toNat (0 : Int)).length ≤ 1000
    rw [List.length_replicate]
    omega
  show PV.tup [.ints (g ++ List.replicate (sm.getD (ixO sm.length (-1)) 0 / 5 % 2).toNat 0), .int (ofF (sm.getD (ixO sm.length 0) 0 / 7))] = rowP (smF ns k)
  rw [← esm, eg]
  rfl


/-! ### texts of polynomials: replace, split, partition -/
noncomputable def jw (z : List Nat) : List (List Nat) → List Nat
  | [] => []
  | [p] => p
  | p :: q :: r => p ++ z ++ jw z (q :: r)
theorem len_cps (x : Str) : x.length = x.cps.toList.length := Array.length_toList.symm
theorem part_some {z : Str} {c : Nat} {a b : List Nat} (e : z.cps.toList = a ++ c :: b) (h : c ∉ a) : PySem.Txt.partition z ⟨#[c]⟩ = (⟨a.toArray⟩, ⟨#[c]⟩, ⟨b.toArray⟩) := by
  have ha : z.cps.toList[a.length]? = some c := by rw [e, List.getElem?_append_right (Nat.le_refl _), Nat.sub_self]; rfl
  rcases PyProof.Rows.partition_whole z ⟨#[c]⟩ with ⟨_, hn⟩ | ⟨i, ep, hi, hk⟩
  · exact absurd ((PySem.StrLaws.subAt_one z c _).mpr ha) (hn _)
  · have h1 : ¬ a.length < i := fun y => hk _ y ((PySem.StrLaws.subAt_one z c _).mpr ha)
    have h2 : ¬ i < a.length := fun y => by
      have := (PySem.StrLaws.subAt_one z c i).mp hi
      rw [e, List.getElem?_append_left y] at this
      exact h (List.mem_of_getElem? this)
    have h3 : i = a.length := by omega
    subst h3
    rw [ep]
    refine Prod.ext (str_ext ?_) (Prod.ext rfl (str_ext ?_))
    · show (z.cps.extract 0 a.length).toList = a
      rw [Array.toList_extract, e]
      simp
    · show (z.cps.extract (a.length + 1) z.length).toList = b
      rw [Array.toList_extract, len_cps, e]
      simp
      exact List.take_of_length_le (by omega)
/-! ### a text that is shown is read back -/
noncomputable def dg (m : Nat) : List Nat := (Nat.toDigits 10 m).map Char.toNat
theorem numS_dg (m : Nat) : (numS (m : Int)).cps.toList = dg m := numS_cps m
theorem dg_ch : ∀ d : Nat, d < 10 → (Nat.digitChar d).toNat = 48 + d := by decide
theorem dg_small {m : Nat} (h : m < 10) : dg m = [48 + m] := by
  unfold dg
  rw [Nat.toDigits_of_lt_base h, List.map_cons, dg_ch m h]
  rfl
theorem dg_big {m : Nat} (h : 10 ≤ m) : dg m = dg (m / 10) ++ [48 + m % 10] := by
  have hm : m % 10 < 10 := Nat.mod_lt m (by decide)
  have t : Nat.toDigits 10 (m / 10) ++ Nat.toDigits 10 (m % 10) = Nat.toDigits 10 (10 * (m / 10) + m % 10) := Nat.toDigits_append_toDigits (by decide) (by omega) hm
  rw [Nat.div_add_mod] at t
  unfold dg
  rw [← t, List.map_append, Nat.toDigits_of_lt_base hm, List.map_cons, dg_ch _ hm]
  rfl
theorem dg_all (m : Nat) : (∀ c ∈ dg m, isF c = true) ∧ fv (dg m) = m ∧ (0 < m → ∃ c r, dg m = c :: r ∧ 49 ≤ c ∧ c ≤ 57) ∧ dg m ≠ [] := by
  induction m using Nat.strongRecOn with
  | _ m ih =>
    by_cases h : m < 10
    · rw [dg_small h]
      refine ⟨fun c hc => ?_, ?_, fun _ => ⟨_, _, rfl, by omega, by omega⟩, fun z => nomatch z⟩
      · rw [List.mem_singleton.mp hc]
        exact isF_iff.mpr ⟨by omega, by omega⟩
      · show 10 * 0 + (48 + m - 48) = m
        omega
    · obtain ⟨h1, h2, h3, h4⟩ := ih (m / 10) (by omega)
      rw [dg_big (by omega)]
      refine ⟨fun c hc => ?_, ?_, fun _ => ?_, fun z => absurd (List.append_eq_nil_iff.mp z).1 h4⟩
      · rcases List.mem_append.mp hc with hc | hc
        · exact h1 c hc
        · rw [List.mem_singleton.mp hc]
          exact isF_iff.mpr ⟨by omega, by omega⟩
      · unfold fv at *
        rw [List.foldl_append, h2]
        show 10 * (m / 10) + (48 + m % 10 - 48) = m
        omega
      · obtain ⟨c, r, e, c1, c2⟩ := h3 (by omega)
        exact ⟨c, r ++ [48 + m % 10], by rw [e]; rfl, c1, c2⟩
theorem dg_len {m k : Nat} (hk : 0 < k) (h : m < 10 ^ k) : (dg m).length ≤ k := by
  unfold dg
  rw [List.length_map]
  exact (Nat.length_toDigits_le_iff (by decide) hk).mpr h
theorem figs_cons (m c : Nat) (r : List Nat) : figs (m + 1) (c :: r) = if isF c then (c :: (figs m r).1, (figs m r).2) else ([], c :: r) := rfl
theorem takeN_cons (c : Nat) (r : List Nat) : takeN (c :: r) = if isF c then (if c = 48 then .ok [48] r else .ok (c :: (figs 99 r).1) (figs 99 r).2) else .bad (r.length + 1) := rfl
theorem takeP_one (c : Nat) : takeP [c] = if isF c then .ok [c] [] else .bad 1 := rfl
theorem takeP_two (c c' : Nat) (r : List Nat) : takeP (c :: c' :: r) = if isF c then (if c ≠ 48 ∧ isF c' = true ∧ 10 * (c - 48) + (c' - 48) ≤ 40 then .ok [c, c'] r else .ok [c] (c' :: r)) else .bad (r.length + 2) := rfl
theorem takeX_no {ds : List Nat} {c : Nat} {r : List Nat} (h : c ≠ 94) : takeX ds (c :: r) = .ok (ds, some []) (c :: r) := by unfold takeX; dsimp only; rw [if_neg h]
theorem takeX_yes {ds r ps r' : List Nat} (h : takeP r = .ok ps r') : takeX ds (94 :: r) = .ok (ds, some ps) r' := by unfold takeX; dsimp only; rw [if_pos rfl, h]
theorem takeR_no {ds : List Nat} {c : Nat} {r : List Nat} (h : c ≠ 120) : takeR ds (c :: r) = .ok (ds, none) (c :: r) := by unfold takeR; dsimp only; rw [if_neg h]
theorem takeR_yes {ds r : List Nat} : takeR ds (120 :: r) = takeX ds r := by rw [takeR, if_pos rfl]
theorem takeT_x {r : List Nat} : takeT (120 :: r) = takeX [] r := by rw [takeT, if_pos rfl]
theorem takeT_n {c : Nat} {r ds r' : List Nat} (h : c ≠ 120) (e : takeN (c :: r) = .ok ds r') : takeT (c :: r) = takeR ds r' := by unfold takeT; dsimp only; rw [if_neg h, e]
theorem skipB_b (r : List Nat) : skipB (32 :: r) = skipB r := by rw [skipB, if_pos rfl]
theorem skipB_n {c : Nat} {r : List Nat} (h : c ≠ 32) : skipB (c :: r) = c :: r := by rw [skipB, if_neg h]
theorem rdA_m {r : List Nat} : rdA (45 :: r) = rd1 true (skipB r) := by unfold rdA; rw [skipB_n (by decide)]; rfl
theorem rdA_n {c : Nat} {r : List Nat} (h : c ≠ 32) (h2 : ¬ (c = 43 ∨ c = 45)) : rdA (c :: r) = rd1 false (c :: r) := by unfold rdA; rw [skipB_n h]; dsimp only; rw [if_neg h2]
/-- no figure stands ahead -/
noncomputable def NoF (R : List Nat) : Prop := ∀ c r, R = c :: r → isF c = false
theorem figs_app : ∀ (m : Nat) (r R : List Nat), (∀ c ∈ r, isF c = true) → r.length ≤ m → NoF R → figs m (r ++ R) = (r, R)
  | 0, [], R, _, _, _ => rfl
  | m + 1, [], R, _, _, h => by
    cases R with
    | nil => rfl
    | cons c R =>
      rw [List.nil_append, figs_cons, if_neg (by rw [h c R rfl]; decide)]
  | 0, c :: r, R, _, h, _ => absurd h (by simp)
  | m + 1, c :: r, R, h1, h2, h3 => by
    rw [List.cons_append, figs_cons, if_pos (h1 c List.mem_cons_self), figs_app m r R (fun d hd => h1 d (List.mem_cons_of_mem _ hd)) (by simpa using h2) h3]
theorem takeN_dg {m : Nat} {R : List Nat} (hm : m < 10 ^ 100) (hR : NoF R) : takeN (dg m ++ R) = .ok (dg m) R := by
  obtain ⟨h1, _, h3, _⟩ := dg_all m
  by_cases h : m = 0
  · subst h
    rw [dg_small (by decide)]
    rfl
  · obtain ⟨c, r, e, c1, c2⟩ := h3 (by omega)
    have hl := dg_len (by decide) hm
    rw [e] at hl h1 ⊢
    rw [List.cons_append, takeN_cons, if_pos (h1 c List.mem_cons_self), if_neg (by omega), figs_app 99 r R (fun d hd => h1 d (List.mem_cons_of_mem _ hd)) (by simp only [List.length_cons] at hl; omega) hR]
theorem takeP_dg {k : Nat} {R : List Nat} (h2 : k ≤ 40) (hR : NoF R) : takeP (dg k ++ R) = .ok (dg k) R := by
  by_cases h : k < 10
  · have f : isF (48 + k) = true := isF_iff.mpr ⟨by omega, by omega⟩
    rw [dg_small h]
    cases R with
    | nil => rw [List.append_nil, takeP_one, if_pos f]
    | cons c R => rw [List.singleton_append, takeP_two, if_pos f, if_neg (by rw [hR c R rfl]; simp)]
  · rw [dg_big (by omega), dg_small (by omega)]
    have f : isF (48 + k / 10) = true := isF_iff.mpr ⟨by omega, by omega⟩
    have f2 : isF (48 + k % 10) = true := isF_iff.mpr ⟨by omega, by omega⟩
    rw [List.singleton_append, List.cons_append, List.singleton_append, takeP_two, if_pos f, if_pos ⟨by omega, f2, by omega⟩]
noncomputable def trmOf (n : Int) (k : Nat) : Trm := (if k ≠ 0 ∧ n.natAbs = 1 then [] else dg n.natAbs, if k = 0 then none else if k = 1 then some [] else some (dg k))
theorem tmS_cps (n : Int) (k : Nat) : (tmS n k).cps.toList = (if k ≠ 0 ∧ n.natAbs = 1 then [] else dg n.natAbs) ++ (if k = 0 then [] else if k = 1 then [120] else 120 :: 94 :: dg k) := by
  have z0 : ("" : Str).cps.toList = [] := by decide +kernel
  have zx : ("x" : Str).cps.toList = [120] := by decide +kernel
  have zc : ("x^" : Str).cps.toList = [120, 94] := by decide +kernel
  unfold tmS
  by_cases h : k = 0
  · subst h
    rw [if_pos (by rfl), if_neg (fun z => z.1 rfl), if_pos rfl, numS_dg, List.append_nil]
  · rw [if_neg (by omega), app_cps, if_neg h]
    congr 1
    · by_cases y : n.natAbs = 1
      · rw [if_pos y, if_pos ⟨h, y⟩, z0]
      · rw [if_neg y, if_neg (fun z => y z.2), numS_dg]
    · by_cases y : k = 1
      · rw [if_pos (by omega), if_pos y, zx]
      · rw [if_neg (by omega), if_neg y, app_cps, zc, numS_dg]
        rfl
theorem takeX_tm {ds R : List Nat} {k : Nat} (hk : k ≤ 40) (h0 : k ≠ 0) (hR : ∀ c r, R = c :: r → c ≠ 94 ∧ isF c = false) : takeX ds ((if k = 1 then [] else 94 :: dg k) ++ R) = .ok (ds, if k = 1 then some [] else some (dg k)) R := by
  by_cases y : k = 1
  · rw [if_pos y, if_pos y]
    cases R with
    | nil => rfl
    | cons c R =>
      rw [List.nil_append, takeX_no (hR c R rfl).1]
  · rw [if_neg y, if_neg y]
    rw [List.cons_append, takeX_yes (takeP_dg hk fun c r e => (hR c r e).2)]
theorem takeT_tm {n : Int} {k : Nat} {R : List Nat} (hn : n.natAbs < 10 ^ 100) (hk : k ≤ 40) (hR : ∀ c r, R = c :: r → c ≠ 94 ∧ isF c = false ∧ c ≠ 120) : takeT ((tmS n k).cps.toList ++ R) = .ok (trmOf n k) R := by
  have hR2 : ∀ c r, R = c :: r → c ≠ 94 ∧ isF c = false := fun c r e => ⟨(hR c r e).1, (hR c r e).2.1⟩
  obtain ⟨h1, _, _, h4⟩ := dg_all n.natAbs
  have num : ∀ S, NoF S → takeT (dg n.natAbs ++ S) = takeR (dg n.natAbs) S := fun S hS => by
    have hN := takeN_dg hn hS
    cases e : dg n.natAbs with
    | nil => exact absurd e h4
    | cons c r =>
      rw [e] at hN h1
      exact takeT_n (fun z => by have := h1 c List.mem_cons_self; rw [z] at this; exact absurd this (by decide)) hN
  unfold trmOf
  rw [tmS_cps, List.append_assoc]
  by_cases h : k = 0
  · rw [if_pos h, if_neg (fun z => z.1 h), List.nil_append, num R fun c r e => (hR c r e).2.1, if_pos h]
    cases R with
    | nil => rfl
    | cons c R =>
      rw [takeR_no (hR c R rfl).2.2]
  · have e2 : (if k = 0 then [] else if k = 1 then [120] else 120 :: 94 :: dg k) ++ R = 120 :: ((if k = 1 then [] else 94 :: dg k) ++ R) := by
      rw [if_neg h]
      by_cases y : k = 1
      · rw [if_pos y, if_pos y]; rfl
      · rw [if_neg y, if_neg y]; rfl
    rw [e2, if_neg h]
    by_cases y : n.natAbs = 1
    · rw [if_pos ⟨h, y⟩]
      rw [List.nil_append, takeT_x, takeX_tm hk h hR2]
    · rw [if_neg (fun z => y z.2), num _ (fun c r e => by injection e with e _; rw [← e]; decide)]
      rw [takeR_yes, takeX_tm hk h hR2]
noncomputable def tsLow (g : List Int) : Nat → List (Bool × Trm)
  | 0 => []
  | k + 1 => if g.getD k 0 = 0 then tsLow g k else (decide (g.getD k 0 < 0), trmOf (g.getD k 0) k) :: tsLow g k
theorem jnS_cps (n : Int) : (jnS n).cps.toList = [32, if n < 0 then 45 else 43, 32] := by
  unfold jnS
  split <;> decide +kernel
theorem low_hd (g : List Int) : ∀ (k : Nat) (c : Nat) (r : List Nat), (lowS g k).cps.toList = c :: r → c = 32
  | 0, c, r, h => by rw [show (lowS g 0).cps.toList = [] from by show (("" : Str)).cps.toList = []; decide +kernel] at h; cases h
  | k + 1, c, r, h => by
    unfold lowS at h
    split at h
    · exact low_hd g k c r h
    · rw [app_cps, jnS_cps] at h
      injection h with h _
      exact h.symm
theorem low_R (g : List Int) (k : Nat) : ∀ c r, (lowS g k).cps.toList = c :: r → c ≠ 94 ∧ isF c = false ∧ c ≠ 120 := fun c r e => by
  rw [low_hd g k c r e]
  decide
theorem tm_hd (n : Int) (k : Nat) (R : List Nat) : ∃ c r, (tmS n k).cps.toList ++ R = c :: r ∧ c ≠ 32 ∧ ¬ (c = 43 ∨ c = 45) := by
  obtain ⟨h1, _, _, h4⟩ := dg_all n.natAbs
  rw [tmS_cps]
  by_cases y : k ≠ 0 ∧ n.natAbs = 1
  · rw [if_pos y, if_neg y.1]
    by_cases z : k = 1
    · rw [if_pos z]
      exact ⟨120, _, rfl, by decide, by decide⟩
    · rw [if_neg z]
      exact ⟨120, _, rfl, by decide, by decide⟩
  · rw [if_neg y]
    cases e : dg n.natAbs with
    | nil => exact absurd e h4
    | cons c r =>
      rw [e] at h1
      have := isF_iff.mp (h1 c List.mem_cons_self)
      exact ⟨c, _, rfl, by omega, by omega⟩
theorem skip_tm (n : Int) (k : Nat) (R : List Nat) : skipB ((tmS n k).cps.toList ++ R) = (tmS n k).cps.toList ++ R := by
  obtain ⟨c, r, e, c1, _⟩ := tm_hd n k R
  rw [e]
  exact skipB_n c1
theorem rdK_low {g : List Int} (hb : ∀ j, (g.getD j 0).natAbs < 10 ^ 100) : ∀ k, k ≤ 41 → rdK (skipB (lowS g k).cps.toList) = .ok (tsLow g k)
  | 0, _ => by rw [show (lowS g 0).cps.toList = [] from by show (("" : Str)).cps.toList = []; decide +kernel]; rfl
  | k + 1, hk => by
    have ih := rdK_low hb k (by omega)
    unfold lowS tsLow
    by_cases h : g.getD k 0 = 0
    · rw [if_pos h, if_pos h]
      exact ih
    · rw [if_neg h, if_neg h, app_cps, app_cps, jnS_cps]
      have hT := takeT_tm (hb k) (show k ≤ 40 by omega) (low_R g k)
      have e : skipB ([32, if g.getD k 0 < 0 then 45 else 43, 32] ++ ((tmS (g.getD k 0) k).cps.toList ++ (lowS g k).cps.toList)) = (if g.getD k 0 < 0 then 45 else 43) :: 32 :: ((tmS (g.getD k 0) k).cps.toList ++ (lowS g k).cps.toList) := by
        rw [List.cons_append, skipB_b, List.cons_append, skipB_n (by split <;> decide)]
        rfl
      rw [e, (rdK_sign (c := if g.getD k 0 < 0 then 45 else 43) (r := 32 :: ((tmS (g.getD k 0) k).cps.toList ++ (lowS g k).cps.toList)) (by split <;> simp)).2 (trmOf (g.getD k 0) k) (lowS g k).cps.toList ?_, ih]
      · show Except.ok ((decide ((if g.getD k 0 < 0 then 45 else 43) = 45), _) :: _) = _
        congr 3
        by_cases y : g.getD k 0 < 0
        · rw [if_pos y]; simp only [decide_true, decide_eq_true y]
        · rw [if_neg y]; simp only [decide_eq_false y]; rfl
      · rw [skipB_b, skip_tm, hT]
theorem rdA_top {g : List Int} (hb : ∀ j, (g.getD j 0).natAbs < 10 ^ 100) {t : Nat} (ht : t ≤ 40) (h0 : g.getD t 0 ≠ 0) : rdA (topS g t).cps.toList = .ok (tsLow g (t + 1)) := by
  have hT := takeT_tm (hb t) ht (low_R g t)
  have hL := rdK_low hb t (by omega)
  unfold topS tsLow
  rw [if_neg h0, app_cps, app_cps]
  have fin : ∀ b, rd1 b ((tmS (g.getD t 0) t).cps.toList ++ (lowS g t).cps.toList) = .ok ((b, trmOf (g.getD t 0) t) :: tsLow g t) := fun b => by
    rw [(rd1_K b _).2 _ _ hT, hL]
    rfl
  by_cases y : g.getD t 0 < 0
  · rw [show (sgS (g.getD t 0)).cps.toList = [45] from by unfold sgS; rw [if_pos y]; decide +kernel]
    rw [List.singleton_append, rdA_m, skip_tm, fin, decide_eq_true y]
  · rw [show (sgS (g.getD t 0)).cps.toList = [] from by unfold sgS; rw [if_neg y]; decide +kernel, List.nil_append, decide_eq_false y]
    obtain ⟨c, r, e, c1, c2⟩ := tm_hd (g.getD t 0) t (lowS g t).cps.toList
    have f := fin false
    rw [e] at f ⊢
    rw [rdA_n c1 c2, f]
/-- the sum of the terms -/
theorem nOf_trm {n : Int} {k : Nat} (h : n ≠ 0) : (if decide (n < 0) then -1 else 1) * nOf (trmOf n k).1 = n := by
  have e : nOf (trmOf n k).1 = (n.natAbs : Int) := by
    unfold nOf trmOf
    dsimp only
    by_cases y : k ≠ 0 ∧ n.natAbs = 1
    · rw [if_pos y, if_pos rfl, y.2]; rfl
    · rw [if_neg y, if_neg (dg_all _).2.2.2, (dg_all _).2.1]
  rw [e]
  by_cases y : n < 0
  · rw [decide_eq_true y, if_pos rfl]; omega
  · rw [decide_eq_false y, if_neg (by decide)]; omega
theorem pOf_trm {n : Int} {k : Nat} : pOf (trmOf n k).2 = (k : Int) := by
  unfold trmOf
  dsimp only
  by_cases y : k = 0
  · rw [if_pos y, y]; rfl
  · rw [if_neg y]
    by_cases z : k = 1
    · rw [if_pos z, z]; rfl
    · rw [if_neg z]
      cases e : dg k with
      | nil => exact absurd e (dg_all k).2.2.2
      | cons c r =>
        show ((fv (c :: r) : Nat) : Int) = k
        rw [← e, (dg_all k).2.1]
theorem row_low (g : List Int) : ∀ (k : Nat) (row : List Int), row.length = 41 → k ≤ 41 → ∀ j, ((tsLow g k).foldl (fun row u => addT row (if u.1 then -1 else 1) u.2) row).getD j 0 = row.getD j 0 + if j < k then g.getD j 0 else 0
  | 0, row, _, _, j => by show row.getD j 0 = _; rw [if_neg (by omega), Int.add_zero]
  | k + 1, row, hl, hk, j => by
    unfold tsLow
    by_cases h : g.getD k 0 = 0
    · rw [if_pos h, row_low g k row hl (by omega) j]
      congr 1
      by_cases y : j < k
      · rw [if_pos y, if_pos (by omega)]
      · rw [if_neg y]
        by_cases z : j = k
        · rw [if_pos (by omega), z, h]
        · rw [if_neg (by omega)]
    · rw [if_neg h, List.foldl_cons, row_low g k _ (by rw [addT_len]; exact hl) (by omega) j]
      unfold addT
      dsimp only
      rw [pOf_trm, nOf_trm h, show ((k : Int)).toNat = k from rfl]
      rw [List.getD_eq_getElem?_getD, List.getD_eq_getElem?_getD (l := row), List.getD_eq_getElem?_getD (l := row) (i := j), List.getElem?_set]
      by_cases z : k = j
      · subst z
        rw [if_pos rfl, if_pos (by omega), if_neg (by omega), if_pos (by omega)]
        simp
      · rw [if_neg z]
        congr 1
        by_cases y : j < k
        · rw [if_pos y, if_pos (by omega)]
        · rw [if_neg y, if_neg (by omega)]
theorem rowOf_low {g : List Int} {k : Nat} (hk : k ≤ 41) (j : Nat) : (rowOf (tsLow g k)).getD j 0 = if j < k then g.getD j 0 else 0 := by
  unfold rowOf
  rw [row_low g k _ List.length_replicate hk j, List.getD_eq_getElem?_getD, List.getElem?_replicate]
  split <;> simp
/-- what is shown is read back -/
theorem rdA_sh {g : List Int} (hf : InForm g) (hl : g.length ≤ 41) (hb : ∀ m ∈ g, m.natAbs < 10 ^ 100) : ∃ ts, rdA (shS g).cps.toList = .ok ts ∧ trimZ (rowOf ts) = g := by
  have hb' : ∀ j, (g.getD j 0).natAbs < 10 ^ 100 := fun j => by
    rw [List.getD_eq_getElem?_getD]
    cases e : g[j]? with
    | none => exact (by decide : (0 : Int).natAbs < 10 ^ 100)
    | some m => exact hb m (List.mem_of_getElem? e)
  by_cases h : g = []
  · subst h
    refine ⟨[(false, ([48], none))], ?_, by decide⟩
    rw [show (shS []).cps.toList = [48] from by show (("0" : Str)).cps.toList = _; decide +kernel]
    rfl
  · have hn := List.length_pos_iff.mpr h
    have h0 := hf h
    refine ⟨_, by rw [show shS g = topS g (g.length - 1) from if_neg h]; exact rdA_top hb' (by omega) h0, ?_⟩
    rw [show g.length - 1 + 1 = g.length by omega]
    refine form_ext (trim_form _) hf fun j => ?_
    rw [trimZ_get _ _ rfl, rowOf_low hl]
    split
    · rfl
    · rw [List.getD_eq_getElem?_getD, List.getElem?_eq_none (by omega)]
      rfl


/-! ### products as texts: the pieces -/
noncomputable abbrev sepL : List Nat := [32, 42, 32]
theorem star_cps : (" * " : Str) = ⟨#[32, 42, 32]⟩ := by decide +kernel
theorem at_take {x : Str} {k : Nat} (h : PySem.StrLaws.At x " * " x.length k) : (x.cps.toList.drop k).take 3 = [32, 42, 32] := by
  have h2 := h.2
  rw [star_cps] at h2
  have h3 : x.cps.extract k (k + 3) = #[32, 42, 32] := by
    have : (x.cps.extract k (k + 3) == #[32, 42, 32]) = true := h2
    exact eq_of_beq this
  have h4 := congrArg Array.toList h3
  rw [Array.toList_extract] at h4
  have e : (x.cps.toList.drop k).take 3 = [32, 42, 32] := by
    simpa [List.extract_eq_take_drop] using h4
  exact e
theorem at_mid {x : Str} {k : Nat} (h : PySem.StrLaws.At x " * " x.length k) : x.cps.toList[k + 1]? = some 42 := by
  have e := congrArg (fun l => l[1]?) (at_take h)
  simp only [List.getElem?_take, List.getElem?_drop] at e
  simpa using e
theorem at_here {x : Str} {k : Nat} {r : List Nat} (h : x.cps.toList.drop k = 32 :: 42 :: 32 :: r) : PySem.StrLaws.At x " * " x.length k := by
  rw [star_cps]
  have hl := congrArg List.length h
  rw [List.length_drop, Array.length_toList] at hl
  simp only [List.length_cons] at hl
  refine ⟨?_, ?_⟩
  · show k + 3 ≤ x.cps.size
    omega
  · show (x.cps.extract k (k + 3) == #[32, 42, 32]) = true
    rw [beq_iff_eq]
    apply Array.toList_inj.mp
    rw [Array.toList_extract]
    simp [List.extract_eq_take_drop, h]
theorem jw_cons (z : List Nat) : ∀ (ps : List (List Nat)) (h : List Nat), jw z (h :: ps) = h ++ (ps.map fun p => z ++ p).flatten
  | [], h => by show h = h ++ []; rw [List.append_nil]
  | q :: r, h => by
    show h ++ z ++ jw z (q :: r) = _
    rw [jw_cons z r q, List.map_cons, List.flatten_cons, List.append_assoc, List.append_assoc]
open PySem.StrLaws in
theorem parts_star (x : Str) : ∀ (cuts : List Nat) (a f : Nat) (ps : List Str), ChainG x " * " x.length a cuts f → (∀ k, f ≤ k → ¬ At x " * " x.length k) → ps ≠ [] → (∀ p ∈ ps, 42 ∉ p.cps.toList) → x.cps.toList.drop a = jw sepL (ps.map fun p => p.cps.toList) → partsFrom x (" * " : Str).length a cuts = ps
  | [], a, f, ps, h, hn, h0, hp, e => by
    have ef : f = a := h
    subst ef
    match ps, h0, hp, e with
    | [p], _, _, e =>
      show [Builtin.Str.strSub x f x.length] = [p]
      congr 1
      refine str_ext ?_
      rw [strSub_toList]
      rw [e]
      show p.cps.toList.take _ = p.cps.toList
      refine List.take_of_length_le ?_
      have hl := congrArg List.length e
      rw [List.length_drop, Array.length_toList] at hl
      show p.cps.toList.length ≤ x.cps.size - f
      have : p.cps.toList.length = x.cps.size - f := hl.symm
      omega
    | p :: q :: r, _, _, e =>
      refine absurd (at_here (k := f + p.cps.toList.length) (r := jw sepL ((q :: r).map fun p => p.cps.toList)) ?_) (hn _ (Nat.le_add_right _ _))
      rw [← List.drop_drop, e]
      show (p.cps.toList ++ sepL ++ jw sepL _).drop _ = _
      rw [List.append_assoc, List.drop_left]
      rfl
  | c :: r, a, f, ps, h, hn, h0, hp, e => by
    obtain ⟨ac, hc, hb, hr⟩ := h
    have hm := at_mid hc
    have el : ∀ j, x.cps.toList[a + j]? = (jw sepL (ps.map fun p => p.cps.toList))[j]? := fun j => by rw [← e, List.getElem?_drop]
    match ps, h0, hp, e, el with
    | [p], _, hp, e, el =>
      have := el (c + 1 - a)
      rw [show a + (c + 1 - a) = c + 1 by omega, hm] at this
      exact absurd (List.mem_of_getElem? this.symm) (hp p List.mem_cons_self)
    | p :: q :: rs, _, hp, e, el =>
      have e2 : jw sepL ((p :: q :: rs).map fun p => p.cps.toList) = p.cps.toList ++ (32 :: 42 :: 32 :: jw sepL ((q :: rs).map fun p => p.cps.toList)) := by
        show p.cps.toList ++ sepL ++ jw sepL _ = _
        rw [List.append_assoc]
        rfl
      have at2 : At x " * " x.length (a + p.cps.toList.length) := at_here (r := jw sepL ((q :: rs).map fun p => p.cps.toList)) (by rw [← List.drop_drop, e, e2, List.drop_left])
      have c1 : ¬ a + p.cps.toList.length < c := fun y => hb _ (Nat.le_add_right _ _) y at2
      have c2 : ¬ c < a + p.cps.toList.length := fun y => by
        have z := el (c + 1 - a)
        rw [show a + (c + 1 - a) = c + 1 by omega, hm, e2] at z
        by_cases w : c + 1 < a + p.cps.toList.length
        · rw [List.getElem?_append_left (by omega)] at z
          exact absurd (List.mem_of_getElem? z.symm) (hp p List.mem_cons_self)
        · rw [List.getElem?_append_right (by omega), show c + 1 - a - p.cps.toList.length = 0 by omega] at z
          exact absurd (show (some 42 : Option Nat) = some 32 from z) (by decide)
      have c3 : c = a + p.cps.toList.length := by omega
      subst c3
      show Builtin.Str.strSub x a (a + p.cps.toList.length) :: partsFrom x (" * " : Str).length (a + p.cps.toList.length + (" * " : Str).length) r = _
      rw [parts_star x r _ f (q :: rs) hr hn (fun z => nomatch z) (fun p' h' => hp p' (List.mem_cons_of_mem _ h')) ?_]
      · congr 1
        refine str_ext ?_
        rw [strSub_toList, e, e2, show a + p.cps.toList.length - a = p.cps.toList.length by omega, List.take_left]
      · rw [show (" * " : Str).length = 3 from by decide +kernel, Nat.add_assoc, ← List.drop_drop, e, e2, ← List.drop_drop, List.drop_left]
        rfl
theorem split_star {x : Str} {ps : List Str} (h0 : ps ≠ []) (hp : ∀ p ∈ ps, 42 ∉ p.cps.toList) (e : x.cps.toList = jw sepL (ps.map fun p => p.cps.toList)) : PySem.Txt.split x " * " = ps := by
  obtain ⟨f, hG, hn⟩ := PySem.StrLaws.occ_tight x " * " (by decide +kernel)
  have main := parts_star x _ 0 f ps hG hn h0 hp (by rw [List.drop_zero]; exact e)
  unfold PySem.Txt.split
  split
  · rename_i hc
    match ps, h0, e with
    | [p], _, e => rw [str_ext (b := p) e]
    | p :: q :: r, _, e =>
      exfalso
      have hl := congrArg List.length e
      have e2 : jw sepL ((p :: q :: r).map fun p => p.cps.toList) = p.cps.toList ++ sepL ++ jw sepL ((q :: r).map fun p => p.cps.toList) := rfl
      rw [e2, List.length_append, List.length_append, ← len_cps] at hl
      have k1 : Builtin.Str.strKind (" * " : Str) = 1 := by decide +kernel
      have k2 : (" * " : Str).length = 3 := by decide +kernel
      rw [k1, k2] at hc
      have k3 : 1 ≤ Builtin.Str.strKind x := by unfold Builtin.Str.strKind; split <;> (try split) <;> omega
      simp only [Bool.or_eq_true, decide_eq_true_eq] at hc
      have k4 : sepL.length = 3 := rfl
      omega
  · split
    · rename_i hc
      have hc : PySem.Builtin.Str.occurrences x " * " 0 x.length (x.length + 1) = [] := List.isEmpty_iff.mp hc
      rw [hc] at main
      rw [← main]
      show [x] = [Builtin.Str.strSub x 0 x.length]
      rw [PySem.StrLaws.sub_whole]
    · rw [PySem.StrLaws.partsBetween_eq]
      exact main
/-- no sign of these stands in a shown polynomial -/
noncomputable def Tame (l : List Nat) : Prop := ∀ c ∈ l, c ≠ 41 ∧ c ≠ 42
theorem Tame.app {a b : List Nat} (ha : Tame a) (hb : Tame b) : Tame (a ++ b) := fun c hc => (List.mem_append.mp hc).elim (ha c) (hb c)
theorem tame_dg (m : Nat) : Tame (dg m) := fun c hc => by
  have := isF_iff.mp ((dg_all m).1 c hc)
  omega
theorem tame_tm (n : Int) (k : Nat) : Tame (tmS n k).cps.toList := by
  rw [tmS_cps]
  refine Tame.app ?_ ?_
  · split
    · exact fun c hc => nomatch hc
    · exact tame_dg _
  · split
    · exact fun c hc => nomatch hc
    · split
      · exact fun c hc => by rw [List.mem_singleton.mp hc]; decide
      · intro c hc
        rcases List.mem_cons.mp hc with rfl | hc
        · decide
        · rcases List.mem_cons.mp hc with rfl | hc
          · decide
          · exact tame_dg k c hc
theorem tame_low (g : List Int) : ∀ k, Tame (lowS g k).cps.toList
  | 0 => fun c hc => by rw [show (lowS g 0).cps.toList = [] from by show (("" : Str)).cps.toList = []; decide +kernel] at hc; cases hc
  | k + 1 => by
    unfold lowS
    split
    · exact tame_low g k
    · rw [app_cps, app_cps, jnS_cps]
      refine Tame.app (fun c hc => ?_) (Tame.app (tame_tm _ _) (tame_low g k))
      simp only [List.mem_cons, List.not_mem_nil, or_false] at hc
      rcases hc with rfl | rfl | rfl
      · decide
      · split <;> decide
      · decide
theorem tame_sh (g : List Int) : Tame (shS g).cps.toList := by
  unfold shS
  split
  · exact fun c hc => by rw [show ("0" : Str).cps.toList = [48] from by decide +kernel] at hc; rw [List.mem_singleton.mp hc]; decide
  · unfold topS
    rw [app_cps, app_cps]
    refine Tame.app (fun c hc => ?_) (Tame.app (tame_tm _ _) (tame_low _ _))
    unfold sgS at hc
    split at hc
    · rw [show ("-" : Str).cps.toList = [45] from by decide +kernel] at hc; rw [List.mem_singleton.mp hc]; decide
    · rw [show ("" : Str).cps.toList = [] from by decide +kernel] at hc; cases hc
noncomputable def ofTl (o : Int) : List Nat := if o > 1 then 94 :: dg o.toNat else []
/-- the piece of a pair -/
noncomputable def pcL (g : List Int) (o : Int) : List Nat := 40 :: (shS g).cps.toList ++ 41 :: ofTl o
noncomputable def pcQ (q : PV) : Str := ⟨(pcL (trimZ (goG q)) (goO q)).toArray⟩
theorem tl_cps {o : Int} : (if o > 1 then ("^" : Str) ++ numS o else e0).cps.toList = ofTl o := by
  unfold ofTl
  split
  · rename_i h
    rw [app_cps, show ("^" : Str).cps.toList = [94] from by decide +kernel, show numS o = numS (o.toNat : Int) from by rw [Int.toNat_of_nonneg (by omega)], numS_dg]
    rfl
  · decide +kernel
theorem stepS_cps (s : Str) (q : PV) : (stepS s q).cps.toList = s.cps.toList ++ (sepL ++ (pcQ q).cps.toList) := by
  unfold stepS
  rw [app_cps, app_cps, app_cps, app_cps, tl_cps, show (" * (" : Str).cps.toList = [32, 42, 32, 40] from by decide +kernel, show (")" : Str).cps.toList = [41] from by decide +kernel]
  show _ = s.cps.toList ++ (sepL ++ (40 :: (shS (trimZ (goG q))).cps.toList ++ 41 :: ofTl (goO q)))
  simp only [List.append_assoc, List.cons_append, List.nil_append]
theorem fold_cps : ∀ (l : List PV) (s : Str), (l.foldl stepS s).cps.toList = s.cps.toList ++ ((l.map fun q => (pcQ q).cps.toList).map fun p => sepL ++ p).flatten
  | [], s => by show s.cps.toList = _ ++ []; rw [List.append_nil]
  | q :: r, s => by
    rw [List.foldl_cons, fold_cps r, stepS_cps, List.map_cons, List.map_cons, List.flatten_cons, List.append_assoc]
theorem prS_cps (c : Int) (l : List PV) : (prS c l).cps.toList = jw sepL ((numS c :: l.map pcQ).map fun p => p.cps.toList) := by
  unfold prS
  rw [fold_cps, List.map_cons, jw_cons, List.map_map, List.map_map, List.map_map]
  rfl
theorem numS_chars (c : Int) : (numS c).cps.toList = (if c < 0 then [45] else []) ++ dg c.natAbs := by
  by_cases h : c < 0
  · obtain ⟨m, rfl⟩ : ∃ m : Nat, c = Int.negSucc m := ⟨c.natAbs - 1, by omega⟩
    rw [if_pos h]
    show (PySem.Str.ofString (toString (Int.negSucc m))).cps.toList = _
    rw [PyProof.Rows.signs_ofString]
    show ("-" ++ Nat.repr (m + 1)).toList.map Char.toNat = _
    rw [String.toList_append, List.map_append, Nat.toList_repr]
    rfl
  · obtain ⟨m, rfl⟩ := Int.eq_ofNat_of_zero_le (by omega : 0 ≤ c)
    rw [if_neg h, numS_dg]
    rfl
theorem ofTl_tame (o : Int) : 42 ∉ ofTl o := fun h => by
  unfold ofTl at h
  split at h
  · rcases List.mem_cons.mp h with h | h
    · exact absurd h (by decide)
    · exact (tame_dg _ _ h).2 rfl
  · cases h
theorem pc_tame (q : PV) : 42 ∉ (pcQ q).cps.toList := fun h => by
  have h : 42 ∈ 40 :: (shS (trimZ (goG q))).cps.toList ++ 41 :: ofTl (goO q) := h
  rcases List.mem_append.mp h with h | h
  · rcases List.mem_cons.mp h with h | h
    · exact absurd h (by decide)
    · exact (tame_sh _ _ h).2 rfl
  · rcases List.mem_cons.mp h with h | h
    · exact absurd h (by decide)
    · exact ofTl_tame _ h
theorem split_prS (c : Int) (l : List PV) : PySem.Txt.split (prS c l) " * " = numS c :: l.map pcQ := by
  refine split_star (fun z => nomatch z) (fun p hp => ?_) (prS_cps c l)
  rcases List.mem_cons.mp hp with rfl | hp
  · rw [numS_chars]
    intro h
    rcases List.mem_append.mp h with h | h
    · split at h
      · exact absurd (List.mem_singleton.mp h) (by decide)
      · cases h
    · exact (tame_dg _ _ h).2 rfl
  · obtain ⟨q, _, rfl⟩ := List.mem_map.mp hp
    exact pc_tame q
/-! what is read of a piece -/
theorem int_dg {m : Nat} (h : m < 10 ^ 100) : intText? (⟨(dg m).toArray⟩ : Str) = some (m : Int) := by
  obtain ⟨h1, h2, _, h4⟩ := dg_all m
  have hl := dg_len (k := 100) (by decide) h
  have := int_ofL h1 h4 (by omega)
  rw [h2] at this
  exact this
theorem fv_digits {es : List Nat} (h1 : ∀ c ∈ es, isF c = true) (h2 : es ≠ []) (hl : es.length ≤ 640) : fv es = PySem.NumText.digitsVal es := by
  have e1 := int_ofL h1 h2 hl
  have e2 := PySem.intText_digits (x := ofL es) (fun c hc => isF_iff.mp (h1 c hc)) h2 (by rw [len_cps]; show es.length ≤ 4300; omega)
  rw [e1] at e2
  exact Int.ofNat_inj.mp (Option.some.inj e2)
theorem int_numS {c : Int} (h : c.natAbs < 10 ^ 100) : intText? (numS c) = some c := by
  have eA : c < 0 → -((c.natAbs : Nat) : Int) = c := fun y => by omega
  have eB : ¬ c < 0 → ((c.natAbs : Nat) : Int) = c := fun y => by omega
  obtain ⟨h1, h2, _, h4⟩ := dg_all c.natAbs
  have hl := dg_len (k := 100) (by decide) h
  have e := numS_chars c
  by_cases y : c < 0
  · rw [if_pos y] at e
    rw [PySem.intText_neg (x := numS c) (cs := dg c.natAbs) e (fun c hc => isF_iff.mp (h1 c hc)) h4 (by rw [len_cps, e]; simp only [List.length_append, List.length_cons, List.length_nil]; omega), ← fv_digits h1 h4 (Nat.le_trans hl (by decide)), h2, eA y]
  · rw [if_neg y, List.nil_append] at e
    rw [show numS c = ⟨(dg c.natAbs).toArray⟩ from str_ext e, int_dg h, eB y]
theorem sl_tail {x : Str} {c : Nat} {r : List Nat} (h : x.cps.toList = c :: r) : PySem.StrLaws.sliceText x (some 1) none = ofL r := by
  rw [PySem.StrLaws.sliceText_from ⟨by decide, by rw [h]; simp only [List.length_cons]; omega⟩]
  refine str_ext ?_
  show (x.cps.toList.drop 1).take ((x.cps.toList.length : Int) - 1).toNat = r
  rw [h]
  refine List.take_of_length_le ?_
  simp only [List.length_cons, List.drop_succ_cons, List.drop_zero]
  omega
theorem part_pcQ (q : PV) : PySem.Txt.partition (pcQ q) ")" = (ofL (40 :: (shS (trimZ (goG q))).cps.toList), (")" : Str), ofL (ofTl (goO q))) := by
  have z : (")" : Str) = ⟨#[41]⟩ := by decide +kernel
  rw [z]
  exact part_some (a := 40 :: (shS (trimZ (goG q))).cps.toList) (b := ofTl (goO q)) rfl (fun h => by
    rcases List.mem_cons.mp h with h | h
    · exact absurd h (by decide)
    · exact (tame_sh _ _ h).1 rfl)
theorem starts_minus {x : Str} : PySem.Txt.startswith x "-" = true ↔ ∃ r, x.cps.toList = 45 :: r := by
  rw [show ("-" : Str) = ⟨#[45]⟩ from by decide +kernel]
  unfold PySem.Txt.startswith
  rw [Bool.and_eq_true, decide_eq_true_eq]
  constructor
  · rintro ⟨h1, h2⟩
    have h3 : x.cps.toList[0]? = some 45 := (PySem.StrLaws.subAt_one x 45 0).mp ⟨h1, h2⟩
    cases e : x.cps.toList with
    | nil => rw [e] at h3; cases h3
    | cons a r =>
      rw [e] at h3
      injection h3 with h3
      have h3 : a = 45 := h3
      exact ⟨r, by rw [h3]⟩
  · rintro ⟨r, e⟩
    have h3 : x.cps.toList[0]? = some 45 := by rw [e]; rfl
    exact (PySem.StrLaws.subAt_one x 45 0).mpr h3


noncomputable def sumF (t : Str) : List Int := match rdA t.cps.toList with
  | .ok ts => trimZ (rowOf ts)
  | .error _ => []
theorem FRead_ok {t : Str} {ts : List (Bool × Trm)} (h : rdA t.cps.toList = .ok ts) : FRead t = .inr (sumF t) := by
  unfold FRead sumF
  rw [h]
  exact congrArg Sum.inr (congrArg trimZ ((List.map_congr_left fun n _ => rfl).trans (List.map_id _)))
theorem kx_polynomial_read (T : Top K mg cFE cBP cBT cK cW cRd) : Ok P w K mg base 8 "polynomial_read" ["text"] (spFL K (G82 cW) (fun as => ∃ t ts, as = [.str t] ∧ t.length ≤ 10000 ∧ rdA t.cps.toList = .ok ts) fun as => match as with
    | [.str t] => sumF t
    | _ => []) := by
  refine okF T.d_polynomial_read sc_polynomial_read (fun as ⟨a, b, h, _⟩ => by rw [h]; rfl) (fun f cdv A outer s H E hr => ⟨_, (xss_one (xst_tryC (fun _ _ => (xss_one (xst_ret (newL (xl_callX (kx_read T) hr (xs 0)))))))), fun as hp => ?_⟩)
  obtain ⟨t, ts, rfl, ht, hts⟩ := hp
  have e := FRead_ok hts
  refine ⟨⟨rfl, ht, _, e⟩, ?_⟩
  show PV.ints (getR (FRead t)) = PV.ints (sumF t)
  rw [e]
  rfl
theorem kx_is_figures (T : Top K mg cFE cBP cBT cK cW cRd) : Ok P w K mg base 1 "is_figures" ["text", "most"] (spFB K (G82 cW) (fun as => ∃ t m, as = [.str t, .int m] ∧ t.length ≤ 1000) fun as => match as with
    | [.str t, .int m] => decide ((1 ≤ (t.length : Int) ∧ (t.length : Int) ≤ m) ∧ (t.cps.toList.all isF) = true)
    | _ => false) := by
  refine okF T.d_is_figures sc_is_figures (fun as ⟨a, b, h, _⟩ => by rw [h]; rfl) (fun f cdv A outer s H E hr => ⟨_, (xss_one (xst_ret (xe_and (xe_chainLe xn_int (xn_lenS T.b_len (xs 0)) (xn 1)) (pe_one (xe_all rfl T.b_all (newP (xp_lcW (N' := ["sign"]) (cap := []) (lc_ok rfl rfl rfl rfl True.intro True.intro rfl) rfl (xs 0) (fun _ _ _ => (pg_name (i := 0) (show (["sign"] : List Str).Nodup by decide +kernel) rfl (Or.inl rfl) (.inr rfl))) (fun _ _ _ => (xe_in1 (xs 0) (xs_glob (by rfl) T.g_FIGURES)))))))))), fun as hp => ?_⟩)
  obtain ⟨t, m, rfl, ht⟩ := hp
  have tl : t.length ≤ sizeLine := by rw [sizeLine_eq]; omega
  refine ⟨⟨⟨True.intro, ⟨rfl, tl⟩, rfl⟩, fun _ => ⟨⟨rfl, ht, fun c hc => ⟨rfl, True.intro, rfl⟩⟩, fun q hq => ?_⟩⟩, ?_⟩
  · obtain ⟨c, _, rfl⟩ := List.mem_map.mp hq
    exact ⟨_, rfl⟩
  · show PV.bl (decide ((1 ≤ (t.length : Int) ∧ (t.length : Int) ≤ m) ∧ (((t.cps.toList.map fun c => PV.bl (decide (hdS ⟨#[c]⟩ ∈ ("0123456789" : Str).cps.toList))).map isTB).all id) = true)) = PV.bl _
    have e : ((t.cps.toList.map fun c => PV.bl (decide (hdS ⟨#[c]⟩ ∈ ("0123456789" : Str).cps.toList))).map isTB).all id = t.cps.toList.all isF := by
      rw [List.map_map, List.all_map]
      congr 1
      funext c
      show decide (hdS ⟨#[c]⟩ ∈ ("0123456789" : Str).cps.toList) = isF c
      rw [show hdS ⟨#[c]⟩ = c from rfl]
      cases h : isF c with
      | true => exact decide_eq_true (fig_in.mpr h)
      | false => exact decide_eq_false fun z => by rw [fig_in.mp z] at h; cases h
    rw [e]
/-- a text of figures -/
noncomputable def FgT (t : Str) (m : Int) : Prop := 1 ≤ (t.length : Int) ∧ (t.length : Int) ≤ m ∧ m ≤ 640 ∧ ∀ c ∈ t.cps.toList, isF c = true
theorem FgT.some {t : Str} {m : Int} (h : FgT t m) : (intText? t).isSome = true := by
  obtain ⟨h1, h2, h3, h4⟩ := h
  rw [len_cps] at h1 h2
  have := int_ofL h4 (fun z => by rw [z] at h1; exact absurd h1 (by decide)) (by omega)
  rw [show t = ofL t.cps.toList from rfl, this]
  rfl
theorem kx_number_read (T : Top K mg cFE cBP cBT cK cW cRd) : Ok P w K mg base 2 "number_read" ["text", "most_figures"] (spFI K (G82 cW) (fun as => ∃ t m, as = [.str t, .int m] ∧ FgT t m) fun as => match as with
    | [.str t, .int m] => (intText? t).getD 0
    | _ => 0) := by
  refine okF T.d_number_read sc_number_read (fun as ⟨a, b, h, _⟩ => by rw [h]; rfl) (fun f cdv A outer s H E hr => ⟨_, (xss_cons (xst_if (xt_not (xt_V (xcb (kx_is_figures T) hr (xa_cons (xs 0) (xa_cons (xn 1) xa_nil)))))
 (xss_one xst_never)
 xss_nil)
 (xss_one (xst_ret (xn_intS T.b_int bt_int (xs 0))))), fun as hp => ?_⟩)
  obtain ⟨t, m, rfl, hf⟩ := hp
  obtain ⟨h1, h2, h3, h4⟩ := id hf
  refine ⟨⟨⟨rfl, rfl, True.intro⟩, t, m, rfl, by omega⟩, fun q => ?_, fun _ => ?_⟩
  · have q : ¬ decide ((1 ≤ (t.length : Int) ∧ (t.length : Int) ≤ m) ∧ (t.cps.toList.all isF) = true) = true := q
    exact q (decide_eq_true ⟨⟨h1, h2⟩, List.all_eq_true.mpr h4⟩)
  · exact ⟨⟨rfl, hf.some, by show t.length ≤ 640; omega⟩, rfl⟩
theorem fgt_dg {m k : Nat} (hk : 0 < k) (h : m < 10 ^ k) (h2 : k ≤ 640) : FgT (ofL (dg m)) (k : Int) := by
  obtain ⟨h1, _, _, h4⟩ := dg_all m
  have := dg_len hk h
  have := List.length_pos_iff.mpr h4
  refine ⟨?_, ?_, by omega, h1⟩
  · rw [len_cps]; show 1 ≤ ((dg m).length : Int); omega
  · rw [len_cps]; show ((dg m).length : Int) ≤ k; omega
theorem kx_content_read (T : Top K mg cFE cBP cBT cK cW cRd) : Ok P w K mg base 3 "content_read" ["text"] (spFI K (G82 cW) (fun as => ∃ c, as = [.str (numS c)] ∧ c.natAbs < 10 ^ 100) fun as => match as with
    | [.str t] => (intText? t).getD 0
    | _ => 0) := by
  refine okF T.d_content_read sc_content_read (fun as ⟨a, h, _⟩ => by rw [h]; rfl) (fun f cdv A outer s H E hr => ⟨_, (xss_cons (xst_if (xt_V (xe_starts (xs 0)))
 (xss_one (xst_ret (xn_neg (xci (kx_number_read T) hr (xa_cons (xs_from (xs 0) xn_int) (xa_cons (xn_glob (by rfl) T.g_MOST_CONTENT_FIGURES) xa_nil))))))
 xss_nil)
 (xss_one (xst_ret (xci (kx_number_read T) hr (xa_cons (xs 0) (xa_cons (xn_glob (by rfl) T.g_MOST_CONTENT_FIGURES) xa_nil)))))), fun as hp => ?_⟩)
  obtain ⟨c, rfl, hc⟩ := hp
  have e := numS_chars c
  have hl := dg_len (k := 100) (by decide) hc
  have tl : (numS c).length ≤ sizeLine := by
    rw [len_cps, e, sizeLine_eq, List.length_append]
    split <;> simp only [List.length_cons, List.length_nil] <;> omega
  refine ⟨rfl, fun q => ?_, fun q => ?_⟩
  · have q : PySem.Txt.startswith (numS c) "-" = true := q
    obtain ⟨r, er⟩ := starts_minus.mp q
    have y : c < 0 := by
      by_cases y : c < 0
      · exact y
      · rw [if_neg y, List.nil_append] at e
        rw [e] at er
        have := (dg_all c.natAbs).1 45 (by rw [er]; exact List.mem_cons_self)
        exact absurd this (by decide)
    rw [if_pos y] at e
    have sl := sl_tail (x := numS c) (c := 45) (r := dg c.natAbs) e
    have fg := fgt_dg (k := 100) (by decide) hc (by decide)
    refine ⟨⟨⟨⟨rfl, True.intro, tl⟩, True.intro, True.intro⟩, _, _, rfl, ?_⟩, ?_⟩
    · show FgT (PySem.StrLaws.sliceText (numS c) (some 1) none) 100
      rw [sl]
      exact fg
    · show PV.int (-(intText? (PySem.StrLaws.sliceText (numS c) (some 1) none)).getD 0) = PV.int ((intText? (numS c)).getD 0)
      rw [sl, int_numS hc, show ofL (dg c.natAbs) = ⟨(dg c.natAbs).toArray⟩ from rfl, int_dg hc]
      show PV.int (-((c.natAbs : Nat) : Int)) = PV.int c
      congr 1
      clear hl fg
      omega
  · have q : ¬ PySem.Txt.startswith (numS c) "-" = true := q
    have y : ¬ c < 0 := fun y => q (starts_minus.mpr ⟨dg c.natAbs, by rw [if_pos y] at e; exact e⟩)
    rw [if_neg y, List.nil_append] at e
    have fg := fgt_dg (k := 100) (by decide) hc (by decide)
    refine ⟨⟨⟨rfl, True.intro, True.intro⟩, _, _, rfl, ?_⟩, rfl⟩
    show FgT (numS c) 100
    rw [show numS c = ofL (dg c.natAbs) from str_ext e]
    exact fg
noncomputable def ofR (t : Str) : Int := if t = "" then 1 else (intText? (PySem.StrLaws.sliceText t (some 1) none)).getD 0
theorem ofR_tl {o : Int} (h1 : 1 ≤ o) (h2 : o ≤ 40) : ofR (ofL (ofTl o)) = o := by
  have e : o.toNat < 10 ^ 100 := by
    have : o.toNat ≤ 40 := by omega
    exact Nat.lt_of_le_of_lt this (by decide +kernel)
  unfold ofR ofTl
  by_cases y : o > 1
  · rw [if_pos y, if_neg (fun z => by have := congrArg (fun s : Str => s.cps.toList) z; exact absurd (this.trans (show ("" : Str).cps.toList = [] from by decide +kernel)) (fun z => nomatch z)), sl_tail (c := 94) (r := dg o.toNat) rfl, show ofL (dg o.toNat) = ⟨(dg o.toNat).toArray⟩ from rfl, int_dg e]
    show ((o.toNat : Nat) : Int) = o
    omega
  · rw [if_neg y, if_pos (by decide +kernel)]
    omega
theorem kx_often_read (T : Top K mg cFE cBP cBT cK cW cRd) : Ok P w K mg base 3 "often_read" ["text"] (spFI K (G82 cW) (fun as => ∃ o, as = [.str (ofL (ofTl o))] ∧ 1 ≤ o ∧ o ≤ 40) fun as => match as with
    | [.str t] => ofR t
    | _ => 0) := by
  refine okF T.d_often_read sc_often_read (fun as ⟨a, h, _⟩ => by rw [h]; rfl) (fun f cdv A outer s H E hr => ⟨_, (xss_cons (xst_if (xt_eqS (xs 0) xs_str)
 (xss_one (xst_ret xn_int))
 xss_nil)
 (xss_cons (xst_setI (i := 1) sc_often_read.nd rfl (Or.inl rfl) (xci (kx_number_read T) hr (xa_cons (xs_from (xs 0) xn_int) (xa_cons (xn_lenS T.b_len (xs_ofI T.b_str (xn_glob (by rfl) T.g_MOST_OFTEN))) xa_nil))))
 (xss_cons (xst_if (xt_gt (xn 1) (xn_glob (by rfl) T.g_MOST_OFTEN))
 (xss_one xst_never)
 xss_nil)
 (xss_one (xst_ret (xn 1)))))), fun as hp => ?_⟩)
  obtain ⟨o, rfl, o1, o2⟩ := hp
  have eo := ofR_tl o1 o2
  have n40 : (toString (40 : Int) : Str).length = 2 := by decide +kernel
  have hd : (dg o.toNat).length ≤ 2 := dg_len (by decide) (by omega)
  have tl : (ofL (ofTl o)).length ≤ sizeLine := by
    rw [len_cps, sizeLine_eq]
    show (ofTl o).length ≤ _
    unfold ofTl
    split <;> simp only [List.length_cons, List.length_nil] <;> omega
  refine ⟨⟨rfl, True.intro⟩, fun q => ?_, fun q => ?_⟩
  · have q : ofL (ofTl o) = "" := q
    refine ⟨True.intro, ?_⟩
    show PV.int 1 = PV.int (ofR (ofL (ofTl o)))
    unfold ofR
    rw [if_pos q]
  · have q : ¬ ofL (ofTl o) = "" := q
    have y : o > 1 := by
      by_cases y : o > 1
      · exact y
      · exact absurd (by unfold ofTl; rw [if_neg y]; decide +kernel) q
    have et : ofTl o = 94 :: dg o.toNat := if_pos y
    have sl := sl_tail (x := ofL (ofTl o)) (c := 94) (r := dg o.toNat) et
    refine ⟨⟨⟨⟨rfl, True.intro, tl⟩, ⟨⟨True.intro, by decide⟩, by show (toString (40 : Int) : Str).length ≤ sizeLine; rw [n40, sizeLine_eq]; omega⟩, True.intro⟩, _, _, rfl, ?_⟩, fun n en => ?_⟩
    · show FgT (PySem.StrLaws.sliceText (ofL (ofTl o)) (some 1) none) ((toString (40 : Int) : Str).length : Int)
      rw [sl, n40]
      exact fgt_dg (k := 2) (by decide) (by omega) (by decide)
    · have e2 : ofR (ofL (ofTl o)) = (intText? (PySem.StrLaws.sliceText (ofL (ofTl o)) (some 1) none)).getD 0 := if_neg q
      replace en : n = o := by
        rw [show n = (intText? (PySem.StrLaws.sliceText (ofL (ofTl o)) (some 1) none)).getD 0 from en, ← e2, eo]
      subst en
      refine ⟨⟨rfl, True.intro⟩, fun z => ?_, fun _ => ⟨rfl, ?_⟩⟩
      · have z : n > 40 := z
        exact absurd o2 (by omega)
      · show PV.int n = PV.int (ofR (ofL (ofTl n)))
        rw [eo]
/-- what a pair is read as -/
noncomputable def prR (t : Str) : PV := .tup [.ints (sumF (PySem.StrLaws.sliceText (PySem.Txt.partition t ")").1 (some 1) none)), .int (ofR (PySem.Txt.partition t ")").2.2)]
/-- a pair as it stands in a product that is read -/
structure Gp (q : PV) : Prop where
  ex : ∃ g o, q = .tup [.ints g, .int o]
  fm : InForm (goG q)
  ln : (goG q).length ≤ 41
  bd : ∀ m ∈ goG q, m.natAbs < 10 ^ 100
  o1 : 1 ≤ goO q
  o2 : goO q ≤ 40
  tx : (shS (goG q)).length ≤ 5000
theorem trim_id {g : List Int} (h : InForm g) : trimZ g = g := form_ext (trim_form _) h fun n => trimZ_get _ _ rfl n
theorem pq_parts {q : PV} (h : Gp q) : PySem.Txt.partition (pcQ q) ")" = (ofL (40 :: (shS (goG q)).cps.toList), (")" : Str), ofL (ofTl (goO q))) := by
  rw [part_pcQ, trim_id h.fm]
theorem sh_slice (g : List Int) : PySem.StrLaws.sliceText (ofL (40 :: (shS g).cps.toList)) (some 1) none = shS g := by
  rw [sl_tail (c := 40) (r := (shS g).cps.toList) rfl]
  rfl
theorem prR_eq {q : PV} (h : Gp q) : prR (pcQ q) = q := by
  obtain ⟨ts, e1, e2⟩ := rdA_sh h.fm h.ln h.bd
  unfold prR
  rw [pq_parts h]
  dsimp only
  rw [sh_slice, ofR_tl h.o1 h.o2, show sumF (shS (goG q)) = goG q from by unfold sumF; rw [e1]; exact e2]
  obtain ⟨g, o, rfl⟩ := h.ex
  rfl
theorem pcQ_len {q : PV} (h : Gp q) : (pcQ q).length ≤ 5010 := by
  have h1 := h.tx
  have h2 := h.o1
  have h3 := h.o2
  rw [len_cps] at h1 ⊢
  show (40 :: (shS (trimZ (goG q))).cps.toList ++ 41 :: ofTl (goO q)).length ≤ 5010
  rw [trim_id h.fm]
  have hd : (dg (goO q).toNat).length ≤ 2 := dg_len (by decide) (by omega)
  have ho : (ofTl (goO q)).length ≤ 3 := by
    unfold ofTl
    split <;> simp only [List.length_cons, List.length_nil] <;> omega
  simp only [List.length_append, List.length_cons]
  omega
theorem kx_pair_read (T : Top K mg cFE cBP cBT cK cW cRd) : Ok P w K mg base 9 "pair_read" ["text"] (spF K (G82 cW) (fun as => ∃ q, as = [.str (pcQ q)] ∧ Gp q) fun as => match as with
    | [.str t] => prR t
    | _ => .non) := by
  refine okF T.d_pair_read sc_pair_read (fun as ⟨a, h, _⟩ => by rw [h]; rfl) (fun f cdv A outer s H E hr => ⟨_, (xss_cons (xst_setP (i := 1) sc_pair_read.nd rfl (Or.inl rfl) (xp_part (xs 0) (by decide +kernel)))
 (xss_one (xst_ret (xp_tup (xa_cons (xcL (kx_polynomial_read T) hr (xa_cons (xs_from (xs_of (xp_item (xv 1) xn_int (fun _ _ => rfl))) xn_int) xa_nil)) (xa_cons (xci (kx_often_read T) hr (xa_cons (xs_of (xp_item (xv 1) xn_int (fun _ _ => rfl))) xa_nil)) xa_nil)))))), fun as hp => ?_⟩)
  obtain ⟨q, rfl, hq⟩ := hp
  have ln := pcQ_len hq
  have tl : (pcQ q).length ≤ sizeLine := by rw [sizeLine_eq]; omega
  have hpp := pq_parts hq
  obtain ⟨ts, e1, e2⟩ := rdA_sh hq.fm hq.ln hq.bd
  have h5 := hq.tx
  refine ⟨⟨rfl, tl⟩, fun p ep => ?_⟩
  replace ep : p = .tup [.str (ofL (40 :: (shS (goG q)).cps.toList)), .str (")" : Str), .str (ofL (ofTl (goO q)))] := by
    rw [show p = .tup [.str (PySem.Txt.partition (pcQ q) ")").1, .str (PySem.Txt.partition (pcQ q) ")").2.1, .str (PySem.Txt.partition (pcQ q) ")").2.2] from ep, hpp]
  subst ep
  refine to_lit (ρ' := [.fr (.str (pcQ q)), .fr (.tup [.str (ofL (40 :: (shS (goG q)).cps.toList)), .str (")" : Str), .str (ofL (ofTl (goO q)))])]) rfl ?_
  have hl : (ofL (40 :: (shS (goG q)).cps.toList)).length ≤ sizeLine := by
    rw [len_cps, sizeLine_eq]
    show (shS (goG q)).cps.toList.length + 1 ≤ _
    rw [← len_cps]
    omega
  refine ⟨⟨⟨⟨⟨⟨⟨rfl, True.intro, ?_⟩, rfl⟩, True.intro, hl⟩, True.intro⟩, _, ts, rfl, ?_, ?_⟩, ⟨⟨⟨⟨rfl, True.intro, ?_⟩, rfl⟩, True.intro⟩, goO q, rfl, hq.o1, hq.o2⟩, True.intro⟩, ?_⟩
  · show -((3 : Nat) : Int) ≤ 0 ∧ (0 : Int) < ((3 : Nat) : Int)
    decide
  · show (PySem.StrLaws.sliceText (ofL (40 :: (shS (goG q)).cps.toList)) (some 1) none).length ≤ 10000
    rw [sh_slice]; omega
  · show rdA (PySem.StrLaws.sliceText (ofL (40 :: (shS (goG q)).cps.toList)) (some 1) none).cps.toList = .ok ts
    rw [sh_slice]; exact e1
  · show -((3 : Nat) : Int) ≤ 2 ∧ (2 : Int) < ((3 : Nat) : Int)
    decide
  · show PV.tup [.ints (sumF (PySem.StrLaws.sliceText (ofL (40 :: (shS (goG q)).cps.toList)) (some 1) none)), .int (ofR (ofL (ofTl (goO q))))] = prR (pcQ q)
    unfold prR
    rw [hpp]


/-- what a product's text is read as -/
noncomputable def rdP (cBP : Addr) (t : Str) : Rs := if 24 < (PySem.Txt.split t " * ").tail.length then .err cBP else .val (.tup [.int ((intText? ((PySem.Txt.split t " * ").headD "")).getD 0), .lst ((PySem.Txt.split t " * ").tail.map prR)])
theorem rdP_eq {c : Int} {l : List PV} (hc : c.natAbs < 10 ^ 100) (hl : ∀ q ∈ l, Gp q) : rdP cBP (prS c l) = if 24 < l.length then .err cBP else .val (.tup [.int c, .lst l]) := by
  unfold rdP
  rw [split_prS]
  have e0 : (numS c :: l.map pcQ).tail.length = l.length := by rw [List.tail_cons, List.length_map]
  by_cases h : 24 < l.length
  · rw [if_pos (by rw [e0]; exact h), if_pos h]
  · rw [if_neg (by rw [e0]; exact h), if_neg h]
    show Rs.val (.tup [.int ((intText? (numS c)).getD 0), .lst ((l.map pcQ).map prR)]) = _
    have e : l.map (prR ∘ pcQ) = l := by
      conv => rhs; rw [← List.map_id l]
      exact List.map_congr_left fun q hq => prR_eq (hl q hq)
    rw [int_numS hc, List.map_map, e]
    rfl
theorem cutP_one (x : PV) (r : List PV) : cutP (x :: r) (some 1) none = r := by
  unfold cutP
  have e1 : HT.sIx (x :: r).length 0 (some 1) = 1 := by
    show HT.sIx (r.length + 1) 0 (some ((1 : Nat) : Int)) = 1
    unfold HT.sIx
    simp
    try omega
  have e2 : HT.sIx (x :: r).length (x :: r).length none = r.length + 1 := rfl
  rw [e1, e2, List.drop_succ_cons, List.drop_zero]
  exact List.take_of_length_le (by omega)
theorem Gp.gd {q : PV} (h : Gp q) : Gd q := by
  obtain ⟨g, o, rfl⟩ := h.ex
  have h1 := h.o1
  have h2 := h.o2
  have h3 := h.ln
  have h4 := h.bd
  have e10 : ((10 ^ 100 : Nat) : Int) = (10 : Int) ^ 100 := by decide +kernel
  refine ⟨g, o, rfl, ?_, fun m hm => ?_, ?_, ?_⟩
  · have : g.length ≤ 41 := h3
    omega
  · have := h4 m hm
    rw [← e10]
    exact Int.ofNat_lt.mpr this
  · have : 1 ≤ o := h1
    omega
  · have : o ≤ 40 := h2
    omega
theorem kx_product_read (T : Top K mg cFE cBP cBT cK cW cRd) : OkE P w K mg base 10 "product_read" ["text"] (spEV K (G82 cW) (fun as => ∃ c l, as = [.str (prS c l)] ∧ c.natAbs < 10 ^ 100 ∧ l.length ≤ 25 ∧ (∀ q ∈ l, Gp q) ∧ (prS c l).length ≤ 1000000) fun as => match as with
    | [.str t] => rdP cBP t
    | _ => .val .non) := by
  refine okEV T.d_product_read sc_product_read (fun as ⟨a, b, h, _⟩ => by rw [h]; rfl) (fun f cdv A outer s H E hr => ⟨_, (xss_cons (xst_setP (i := 1) sc_product_read.nd rfl (Or.inl rfl) (xp_splitE (xs 0) (by decide +kernel)))
 (xss_cons (xst_setI (i := 2) sc_product_read.nd rfl (Or.inl rfl) (xci (kx_content_read T) hr (xa_cons (xs_of (xp_item (xv 1) xn_int (fun _ _ => rfl))) xa_nil)))
 (xss_cons (xst_lcVPf (i := 3) sc_product_read.nd rfl rfl (N' := ["piece"]) (cap := []) (lc_ok rfl rfl rfl rfl True.intro True.intro rfl) rfl (xp_of (newP (xp_slice (xp_of (xv 1)) (xo_some xn_int) xo_none))) (fun _ _ _ => (pg_name (i := 0) (show (["piece"] : List Str).Nodup by decide +kernel) rfl (Or.inl rfl) (.inr rfl))) (fun _ _ _ => (xc (kx_pair_read T) hr (xa_cons (xs 0) xa_nil))) rfl)
 (xss_cons (xst_if (L2.PW.pt (xw_or (xt_gt (xn_lenP T.b_len (xv 3)) (xn_glob (by rfl) T.g_MOST_PAIRS)) (xw_or1 (xt_neS (xs_of (xc (kx_product_shown T) hr (xa_cons (xn 2) (xa_cons (xv 3) xa_nil)))) (xs 0)))))
 (xss_one (xst_raise newE rfl T.x_BadProduct (by rfl) T.m_BadProduct (xa_cons xs_str xa_nil)))
 xss_nil)
 (xss_one (xst_ret (xp_tup (xa_cons (xn 2) (xa_cons (xv 3) xa_nil))))))))), fun as hp => ?_⟩)
  obtain ⟨c, l, rfl, hc, hl, hg, ht⟩ := hp
  have hF : rdP cBP (prS c l) = if 24 < l.length then .err cBP else .val (.tup [.int c, .lst l]) := rdP_eq hc hg
  have hsp := split_prS c l
  have cI : (c.natAbs : Int) < 10 ^ 100 := by
    have e10 : ((10 ^ 100 : Nat) : Int) = (10 : Int) ^ 100 := by decide +kernel
    rw [← e10]
    exact Int.ofNat_lt.mpr hc
  refine ⟨⟨rfl, ?_, ?_⟩, fun ps eps => ?_⟩
  · show (prS c l).length < sizeLine
    rw [sizeLine_eq]; omega
  · show (PySem.Txt.split (prS c l) " * ").length ≤ sizeLine
    rw [hsp, sizeLine_eq, List.length_cons, List.length_map]; omega
  replace eps : ps = .lst (.str (numS c) :: l.map fun q => .str (pcQ q)) := by
    rw [show ps = .lst ((PySem.Txt.split (prS c l) " * ").map PV.str) from eps, hsp, List.map_cons, List.map_map]
    rfl
  subst eps
  refine to_lit (ρ' := [.fr (.str (prS c l)), .fr (.lst (.str (numS c) :: l.map fun q => .str (pcQ q))), .un, .un]) rfl ?_
  refine ⟨⟨⟨⟨⟨rfl, True.intro, ?_⟩, rfl⟩, True.intro⟩, c, rfl, hc⟩, fun n en => ?_⟩
  · refine ⟨?_, ?_⟩
    · show -((PV.str (numS c) :: l.map fun q => PV.str (pcQ q)).length : Int) ≤ 0
      omega
    · show (0 : Int) < ((PV.str (numS c) :: l.map fun q => PV.str (pcQ q)).length : Int)
      rw [List.length_cons]; omega
  replace en : n = c := by
    rw [show n = (intText? (numS c)).getD 0 from en, int_numS hc]
    rfl
  subst en
  have ecut : cutP (.str (numS n) :: l.map fun q => .str (pcQ q)) (some 1) none = l.map fun q => .str (pcQ q) := cutP_one _ _
  refine ⟨⟨⟨⟨⟨rfl, rfl⟩, True.intro, True.intro⟩, rfl⟩, ?_, fun q hq => ?_⟩, fun ns ens => ?_⟩
  · show (cutP (.str (numS n) :: l.map fun q => .str (pcQ q)) (some 1) none).length ≤ 1000
    rw [ecut, List.length_map]
    omega
  · have hq : q ∈ cutP (.str (numS n) :: l.map fun q => .str (pcQ q)) (some 1) none := hq
    rw [ecut] at hq
    obtain ⟨q', hq', rfl⟩ := List.mem_map.mp hq
    exact ⟨⟨rfl, True.intro⟩, q', rfl, hg q' hq'⟩
  replace ens : ns = l := by
    rw [show ns = (cutP (.str (numS n) :: l.map fun q => .str (pcQ q)) (some 1) none).map (fun q => prR (pvS q)) from ?_, ecut, List.map_map]
    · conv => rhs; rw [← List.map_id l]
      exact List.map_congr_left fun q hq => prR_eq (hg q hq)
    · rw [ens]
      show (cutP (.str (numS n) :: l.map fun q => .str (pcQ q)) (some 1) none).map _ = _
      refine List.map_congr_left fun q hq => ?_
      rw [ecut] at hq
      obtain ⟨q', _, rfl⟩ := List.mem_map.mp hq
      rfl
  subst ens
  refine to_lit (ρ' := [.fr (.str (prS n ns)), .fr (.lst (.str (numS n) :: ns.map fun q => .str (pcQ q))), .fr (.int n), .fr (.lst ns)]) rfl ?_
  refine ⟨⟨⟨⟨rfl, True.intro⟩, True.intro⟩, fun _ => ⟨⟨⟨⟨rfl, rfl, True.intro⟩, n, ns, rfl, cI, by omega, fun q hq => (hg q hq).gd⟩, rfl⟩, rfl⟩⟩, fun q => ?_, fun q => ?_⟩
  · have q : (ns.length : Int) > 24 ∨ ¬ prS n ns = prS n ns := q
    refine ⟨⟨True.intro, True.intro⟩, ?_⟩
    show rdP cBP (prS n ns) = .err cBP
    rw [hF]
    rcases q with q | q
    · rw [if_pos (by omega)]
    · exact absurd rfl q
  · have q : ¬ ((ns.length : Int) > 24 ∨ ¬ prS n ns = prS n ns) := q
    refine ⟨⟨rfl, rfl, True.intro⟩, ?_⟩
    show rdP cBP (prS n ns) = .val (.tup [.int n, .lst ns])
    rw [hF, if_neg (fun z => q (.inl (by omega)))]


theorem kx_form (T : Top K mg cFE cBP cBT cK cW cRd) : Ok P w K mg base 1 "_law_form" ["_law_row"] (spL K (G82 cW) (fun as => ∃ f, as = [.ints f] ∧ f.length ≤ 1000) fun as => match as with
    | [.ints f] => trimZ f
    | _ => []) := by
  refine okL T.d_form sc_form (fun as ⟨a, h, _⟩ => by rw [h]; rfl) (fun f cdv A outer s H E hr => ⟨_, (xss_cons (xst_own (i := 0) sc_form.nd rfl (Or.inl rfl) (xl_list T.b_list (xl 0) (fun _ => .inl rfl)))
 (xss_cons (xst_while PassesOwn.never (L2.PW.pt (xw_and (xt_neL hr.units (rlO 0) (rdX (newL (xl_lst xa_nil)))) (xw_and1 (xt_eq (xn_item 0 (xn_neg xn_int) (fun _ _ => rfl)) xn_int))))
 (xss_one (xst_pop 0)))
 (xss_one (xst_retO 0)))), fun as hp => ?_⟩)
  obtain ⟨f, rfl, hf⟩ := hp
  refine ⟨rfl, fun ns e => ?_⟩
  have e : ns = f := e
  refine ⟨fun ρ => ∃ ms, ρ = [.ow (.ints ms)] ∧ trimZ ms = trimZ ns, fun ρ => (getL ρ 0).length, ⟨ns, rfl, rfl⟩, ?_⟩
  rintro ρ ⟨ms, rfl, hm⟩
  refine ⟨⟨⟨.inr rfl, True.intro, True.intro⟩, fun h => ⟨⟨.inr (.inl rfl), True.intro, ?_, ?_⟩, True.intro⟩⟩, fun q => ?_, fun q => ?_⟩
  · have h : ¬ ms = [] := h
    have := List.length_pos_iff.mpr h
    show -(ms.length : Int) ≤ -1
    omega
  · show (-1 : Int) < (ms.length : Int)
    omega
  · have q : ¬ ms = [] ∧ ms.getD (ixO ms.length (-1)) 0 = 0 := q
    have hne : ms ≠ [] := q.1
    rw [last_at ms hne] at q
    have := List.length_pos_iff.mpr hne
    refine ⟨rfl, hne, ⟨_, rfl, ?_⟩, ?_⟩
    · rw [← hm]; exact trimZ_step hne q.2
    · show ms.dropLast.length < ms.length
      rw [List.length_dropLast]
      omega
  · have q : ¬ (¬ ms = [] ∧ ms.getD (ixO ms.length (-1)) 0 = 0) := q
    refine ⟨rfl, ?_⟩
    show ms = trimZ f
    rw [← e, ← hm, trimZ_done]
    rintro ⟨a, b⟩
    exact q ⟨a, by rw [last_at ms a]; exact b⟩

theorem kx_whole (T : Top K mg cFE cBP cBT cK cW cRd) : Ok P w K mg base 1 "_law_whole" ["_law_found"] (spFB K (G82 cW) (fun as => ∃ n, as = [.int n]) fun _ => true) := by
  refine okF T.d_whole sc_whole (fun as ⟨c, h⟩ => by rw [h]; rfl) (fun f cdv A outer s H E hr => ⟨_, (xss_one (xst_ret (xe_and (xe_isinst T.b_isinstance (xv 0) (xv_bltn (by rfl) T.b_int bt_int)) (pe_one (xe_not (xe_isinst T.b_isinstance (xv 0) (xv_bltn (by rfl) T.b_bool bt_bool))))))), fun as hp => ?_⟩)
  obtain ⟨n, rfl⟩ := hp
  have h1 : instP K (.int n) (.ty "int") = true := instP_of rfl rfl T.i_int_int
  have h2 : instP K (.int n) (.ty "bool") = false := instP_of rfl rfl T.i_int_bool
  refine ⟨⟨⟨rfl, True.intro, _, _, _, rfl, rfl, T.i_int_int⟩, fun _ => ⟨rfl, True.intro, _, _, _, rfl, rfl, T.i_int_bool⟩⟩, ?_⟩
  show PV.bl (decide (instP K (.int n) (.ty "int") = true ∧ ¬ instP K (.int n) (.ty "bool") = true)) = PV.bl true
  rw [h1, h2]
  rfl

theorem datOk_pr {q : PV} (h : isGo q) : DatOk q q := by
  have h1 : ∀ x ∈ [q], isGo x := fun x hx => by rw [List.mem_singleton.mp hx]; exact h
  obtain ⟨a, _, sa, _, _⟩ := datOk_go h1 h1
  obtain ⟨c1, c2⟩ := canLay_go h1
  obtain ⟨g, o, rfl⟩ := h
  have hs : (Spec.Shape.tuple [.list .int, .int]).has (dat (.tup [.ints g, .int o])) = true := by
    have hg : (Spec.Shape.list .int).has (.list (g.map PyData.int)) = true := list_map_has fun _ => rfl
    simp only [dat, dats, Spec.Shape.has, Spec.Shape.hasAll, Bool.and_true]
    simp only [Spec.Shape.has] at hg
    rw [hg]
    rfl
  have sh : SeqAt.shaped (dat (.tup [.ints g, .int o])) = true := by
    simp [dat, dats, SeqAt.shaped, PyData.canLay0, PyData.canLayAll0, PyData.depth, PyData.depthAll, PySem.W.ke_canLayAll0, PySem.W.ke_depthAll]
  have di : isDat (.tup [.ints g, .int o]) := by
    simp [isDat, areDat]
  exact ⟨di, di, sh, sh, SeqAt.noMix_of_shape (.tuple [.list .int, .int]) rfl _ _ hs hs⟩
theorem kx_right (T : Top K mg cFE cBP cBT cK cW cRd) : Ok P w K mg base 2 "_law_right" ["_law_found", "_law_content", "_law_pairs"] (spFB K (G82 cW) (fun as => ∃ c l, as = [.tup [.int c, .lst l], .int c, .lst l] ∧ l.length ≤ 30 ∧ ∀ q ∈ l, Gp q) fun _ => true) := by
  refine okF T.d_right sc_right (fun as ⟨a, b, h, _⟩ => by rw [h]; rfl) (fun f cdv A outer s H E hr => ⟨_, (xss_cons (xst_if (L2.PW.pt (xw_or (xt_not (xt_V (xe_isinst T.b_isinstance (xv 0) (xv_bltn (by rfl) T.b_tuple bt_tuple)))) (xw_or (xt_ne (xn_lenP T.b_len (xv 0)) xn_int) (xw_or (xt_not (xt_V (xcb (kx_whole T) hr (xa_cons (xn_of (xp_item (xv 0) xn_int (fun _ _ => rfl))) xa_nil)))) (xw_or1 (xt_ne (xn_of (xp_item (xv 0) xn_int (fun _ _ => rfl))) (xn 1)))))))
 (xss_one (xst_ret xb_bl))
 xss_nil)
 (xss_cons (xst_if (L2.PW.pt (xw_or (xt_not (xt_V (xe_isinst T.b_isinstance (xp_item (xv 0) xn_int (fun _ _ => rfl)) (xv_bltn (by rfl) T.b_list bt_list)))) (xw_or1 (xt_ne (xn_lenP T.b_len (xp_item (xv 0) xn_int (fun _ _ => rfl))) (xn_lenP T.b_len (xv 2))))))
 (xss_one (xst_ret xb_bl))
 xss_nil)
 (xss_cons (xst_forZP (k := 3) (j := 4) PassesOwn.never rfl (by rfl) T.b_zip (xp_of (xp_item (xv 0) xn_int (fun _ _ => rfl))) (xp_of (xv 2)) (pg_tup rfl (pgs_cons (pg_name (i := 3) sc_right.nd rfl (Or.inl rfl)) (pgs_cons (pg_name (i := 4) sc_right.nd rfl (Or.inl rfl)) pgs_nil)))
 (xss_cons (xst_if (L2.PW.pt (xw_or (xt_not (xt_V (xe_isinst T.b_isinstance (xv 3) (xv_bltn (by rfl) T.b_tuple bt_tuple)))) (xw_or (xt_ne (xn_lenP T.b_len (xv 3)) xn_int) (xw_or (xt_not (xt_V (xe_isinst T.b_isinstance (xl_of (xp_item (xv 3) xn_int (fun _ _ => rfl))) (xv_bltn (by rfl) T.b_list bt_list)))) (xw_or1 (xt_not (xt_V (xcb (kx_whole T) hr (xa_cons (xn_of (xp_item (xv 3) xn_int (fun _ _ => rfl))) xa_nil)))))))))
 (xss_one (xst_ret xb_bl))
 xss_nil)
 (xss_one (xst_if (L2.PW.pt (xw_or (xt_neL hr.units (rdX (newL (xl_lcLT (N' := ["_law_number"]) (cap := []) (lc_ok rfl rfl rfl rfl True.intro True.intro rfl) rfl (rdX (xl_of (xp_item (xv 3) xn_int (fun _ _ => rfl)))) (fun _ _ _ => (pg_name (i := 0) (show (["_law_number"] : List Str).Nodup by decide +kernel) rfl (Or.inl rfl) (.inr rfl))) (fun _ _ _ => (xt_not (xt_V (xcb (kx_whole T) hr (xa_cons (xn 0) xa_nil))))) (fun _ _ _ => (xn 0))))) (rdX (newL (xl_lst xa_nil)))) (xw_or1 (xt_neD hr.units (rdX (xv 3)) (rdX (xv 4))))))
 (xss_one (xst_ret xb_bl))
 xss_nil))))
 (xss_one (xst_ret xb_bl))))), fun as hp => ?_⟩)
  obtain ⟨c, l, rfl, hl, hg⟩ := hp
  have t1 : instP K (.tup [.int c, .lst l]) (.ty "tuple") = true := instP_of rfl rfl T.i_tup_tup
  have t2 : instP K (.lst l) (.ty "list") = true := instP_of rfl rfl T.i_list_list
  have it0 : hasIt (.tup [.int c, .lst l]) 0 := by show -((2 : Nat) : Int) ≤ 0 ∧ (0 : Int) < ((2 : Nat) : Int); decide
  have it1 : hasIt (.tup [.int c, .lst l]) 1 := by show -((2 : Nat) : Int) ≤ 1 ∧ (1 : Int) < ((2 : Nat) : Int); decide
  refine ⟨⟨⟨rfl, True.intro, _, _, _, rfl, rfl, T.i_tup_tup⟩, fun _ => ⟨⟨⟨rfl, True.intro⟩, True.intro⟩, fun _ => ⟨⟨⟨⟨⟨rfl, True.intro, it0⟩, rfl⟩, True.intro⟩, _, rfl⟩, fun _ => ⟨⟨⟨rfl, True.intro, it0⟩, rfl⟩, rfl⟩⟩⟩⟩, fun q => ?_, fun _ => ?_⟩
  · have q : ¬ instP K (.tup [.int c, .lst l]) (.ty "tuple") = true ∨ ¬ ((2 : Nat) : Int) = 2 ∨ ¬ true = true ∨ ¬ c = c := q
    rw [t1] at q
    rcases q with q | q | q | q
    · exact absurd rfl q
    · exact absurd rfl q
    · exact absurd rfl q
    · exact absurd rfl q
  refine ⟨⟨⟨⟨rfl, True.intro, it1⟩, True.intro, _, _, _, rfl, rfl, T.i_list_list⟩, fun _ => ⟨⟨⟨rfl, True.intro, it1⟩, True.intro⟩, rfl, True.intro⟩⟩, fun q => ?_, fun _ => ?_⟩
  · have q : ¬ instP K (.lst l) (.ty "list") = true ∨ ¬ (l.length : Int) = (l.length : Int) := q
    rw [t2] at q
    rcases q with q | q
    · exact absurd rfl q
    · exact absurd rfl q
  refine ⟨⟨⟨⟨rfl, True.intro, it1⟩, rfl⟩, rfl, rfl⟩, fun i ρ => ∃ a b, ρ = [.fr (.tup [.int c, .lst l]), .fr (.int c), .fr (.lst l), a, b], ⟨.un, .un, rfl⟩, ?_, ?_⟩
  · rintro i n m ρ hn hm ⟨a, b, rfl⟩
    have hn : l[i]? = some n := hn
    have hm : l[i]? = some m := hm
    rw [hn] at hm
    cases hm
    have gq := hg n (List.mem_of_getElem? hn)
    have go := gq.gd.go
    obtain ⟨g, o, rfl⟩ := gq.ex
    have gl : g.length ≤ 41 := gq.ln
    have u1 : instP K (.tup [.ints g, .int o]) (.ty "tuple") = true := instP_of rfl rfl T.i_tup_tup
    have u2 : instP K (.ints g) (.ty "list") = true := instP_of rfl rfl T.i_list_list
    have jt0 : hasIt (.tup [.ints g, .int o]) 0 := by show -((2 : Nat) : Int) ≤ 0 ∧ (0 : Int) < ((2 : Nat) : Int); decide
    have jt1 : hasIt (.tup [.ints g, .int o]) 1 := by show -((2 : Nat) : Int) ≤ 1 ∧ (1 : Int) < ((2 : Nat) : Int); decide
    refine ⟨⟨⟨rfl, True.intro, _, _, _, rfl, rfl, T.i_tup_tup⟩, fun _ => ⟨⟨⟨rfl, True.intro⟩, True.intro⟩, fun _ => ⟨⟨⟨⟨rfl, True.intro, jt0⟩, rfl⟩, True.intro, _, _, _, rfl, rfl, T.i_list_list⟩, fun _ => ⟨⟨⟨⟨rfl, True.intro, jt1⟩, rfl⟩, True.intro⟩, _, rfl⟩⟩⟩⟩, fun q => ?_, fun _ => ?_⟩
    · have q : ¬ instP K (.tup [.ints g, .int o]) (.ty "tuple") = true ∨ ¬ ((2 : Nat) : Int) = 2 ∨ ¬ instP K (.ints g) (.ty "list") = true ∨ ¬ true = true := q
      rw [u1, u2] at q
      rcases q with q | q | q | q
      · exact absurd rfl q
      · exact absurd rfl q
      · exact absurd rfl q
      · exact absurd rfl q
    · refine ⟨⟨⟨⟨⟨⟨rfl, True.intro, jt0⟩, rfl⟩, by show g.length ≤ 1000; omega, fun n _ => ⟨⟨⟨rfl, True.intro⟩, _, rfl⟩, fun _ => rfl⟩⟩, True.intro, True.intro⟩, fun _ => ⟨rfl, rfl, datOk_pr go⟩⟩, fun q => ?_, fun _ => ⟨_, _, rfl⟩⟩
      have q : ¬ ((g.filter fun n => decide (¬ true = true)).map fun n => n) = [] ∨ ¬ eqD (.tup [.ints g, .int o]) (.tup [.ints g, .int o]) := q
      rcases q with q | q
      · exact absurd (by simp) q
      · exact absurd (eqD_self _) q
  · rintro ρ ⟨a, b, rfl⟩
    exact ⟨True.intro, rfl⟩
theorem kx_refused (T : Top K mg cFE cBP cBT cK cW cRd) : Ok P w K mg base 11 "_law_refused" ["_law_text"] (spFB K (G82 cW) (fun as => ∃ c l, as = [.str (prS c l)] ∧ c.natAbs < 10 ^ 100 ∧ l.length ≤ 25 ∧ (∀ q ∈ l, Gp q) ∧ (prS c l).length ≤ 1000000 ∧ 24 < l.length) fun _ => true) := by
  refine okF T.d_refused sc_refused (fun as ⟨a, b, h, _⟩ => by rw [h]; rfl) (fun f cdv A outer s H E hr => ⟨_, (xss_cons (xst_setP (i := 1) sc_refused.nd rfl (Or.inl rfl) xv_non)
 (xss_cons (xst_tryR (i := 2) (j := 1) gkE_err rfl rfl rfl rfl (by rfl) T.m_ForgeError sc_refused.nd rfl rfl rfl rfl rfl (by decide) (by decide) (fun _ _ => (xR_callV (kx_product_read T) hr (xa_cons (xs 0) xa_nil))))
 (xss_one (xst_ret (xe_and (xe_isx gkE_err T.b_isinstance (xv 1) (xv_glob (by rfl) T.m_BadProduct)) (pe_one (xe_isx gkE_err T.b_isinstance (xv 1) (xv_bltn (by rfl) T.b_ValueError bt_ValueError)))))))), fun as hp => ?_⟩)
  obtain ⟨c, l, rfl, hc, hl, hg, ht, h24⟩ := hp
  have hF : rdP cBP (prS c l) = .err cBP := by rw [rdP_eq hc hg, if_pos h24]
  refine ⟨True.intro, fun v ev => ?_⟩
  have ev : v = .non := ev
  subst ev
  refine ⟨⟨⟨rfl, True.intro⟩, c, l, rfl, hc, hl, hg, ht⟩, fun q eq => ?_, fun d ed => ?_⟩
  · have eq : rdP cBP (prS c l) = .val q := eq
    rw [hF] at eq
    cases eq
  have ed : rdP cBP (prS c l) = .err d := ed
  rw [hF] at ed
  cases ed
  have e1 : instPX K (.ob 1 ((cBP : Nat) : Int)) (.cls cBP) = true := instPX_err rfl T.i_bp_bp
  have e2 : instPX K (.ob 1 ((cBP : Nat) : Int)) (.ty "ValueError") = true := instPX_err rfl T.i_bp_ve
  refine ⟨T.y_bp, ⟨⟨rfl, True.intro, .inr ⟨cBP, _, _, rfl, T.k_BadProduct, rfl, T.i_bp_bp⟩⟩, fun _ => ⟨rfl, True.intro, .inr ⟨cBP, _, _, rfl, T.k_BadProduct, rfl, T.i_bp_ve⟩⟩⟩, ?_⟩
  show PV.bl (decide (instPX K (.ob 1 ((cBP : Nat) : Int)) (.cls cBP) = true ∧ instPX K (.ob 1 ((cBP : Nat) : Int)) (.ty "ValueError") = true)) = PV.bl true
  rw [e1, e2]
  rfl


theorem ofF_b2 (c : Int) : 1 ≤ ofF c ∧ ofF c ≤ 40 := by
  unfold ofF
  have h1 := Int.emod_nonneg c (show (3 : Int) ≠ 0 by decide)
  have h2 := Int.emod_nonneg (c / 3) (show (39 : Int) ≠ 0 by decide)
  have h3 := Int.emod_lt_of_pos (c / 3) (show (0 : Int) < 39 by decide)
  have h4 := Int.emod_nonneg (c / 3) (show (2 : Int) ≠ 0 by decide)
  have h5 := Int.emod_lt_of_pos (c / 3) (show (0 : Int) < 2 by decide)
  split
  · omega
  · have e : c / 3 % 2 = 0 ∨ c / 3 % 2 = 1 := by omega
    rcases e with e | e <;> rw [e]
    · show 1 ≤ (40 : Int) ∧ (40 : Int) ≤ 40
      decide
    · show 1 ≤ 2 + c / 3 % 39 ∧ 2 + c / 3 % 39 ≤ 40
      omega
theorem shF_b2 (c : Int) : 0 ≤ shF c ∧ shF c ≤ 38 := by
  unfold shF
  have h2 := Int.emod_nonneg (c / 4) (show (39 : Int) ≠ 0 by decide)
  have h3 := Int.emod_lt_of_pos (c / 4) (show (0 : Int) < 39 by decide)
  have h4 := Int.emod_nonneg c (show (4 : Int) ≠ 0 by decide)
  have h5 := Int.emod_lt_of_pos c (show (0 : Int) < 4 by decide)
  have e : c % 4 = 0 ∨ c % 4 = 1 ∨ c % 4 = 2 ∨ c % 4 = 3 := by omega
  rcases e with e | e | e | e <;> rw [e]
  · show 0 ≤ (0 : Int) ∧ (0 : Int) ≤ 38
    decide
  · show 0 ≤ (1 : Int) ∧ (1 : Int) ≤ 38
    decide
  · show 0 ≤ (0 : Int) ∧ (0 : Int) ≤ 38
    decide
  · show 0 ≤ c / 4 % 39 ∧ c / 4 % 39 ≤ 38
    omega
theorem trimZ_rep (x : List Int) : ∀ k, trimZ (x ++ List.replicate k 0) = trimZ x
  | 0 => by rw [List.replicate_zero, List.append_nil]
  | k + 1 => by rw [List.replicate_succ', ← List.append_assoc, trimZ_zero, trimZ_rep x k]
theorem mem_trim {xs : List Int} {m : Int} (h : m ∈ trimZ xs) : m = 0 ∨ m ∈ xs := by
  obtain ⟨i, hi, rfl⟩ := List.mem_iff_getElem.mp h
  have e := trimZ_get _ xs rfl i
  rw [List.getD_eq_getElem?_getD, List.getElem?_eq_getElem hi] at e
  have e : (trimZ xs)[i] = xs.getD i 0 := e
  rw [e]
  by_cases c : i < xs.length
  · exact .inr (FM.getD_mem c)
  · rw [getD_ge (by omega)]; exact .inl rfl
/-- a pair as the law keeps it -/
noncomputable def kpQ (sm : List Int) : PV := .tup [.ints (trimZ (goG (rowP sm))), .int (goO (rowP sm))]
theorem kpQ_ok {sm : List Int} (h : sm.length ≤ 3) (ht : (shS (trimZ (goG (rowP sm)))).length ≤ 5000) : Gp (kpQ sm) := by
  obtain ⟨g, o, e, h1, h2, h3, h4⟩ := rowP_ok h
  have eg : goG (rowP sm) = g := by rw [e]; rfl
  refine ⟨⟨_, _, rfl⟩, trim_form _, ?_, fun m hm => ?_, (ofF_b2 _).1, (ofF_b2 _).2, ht⟩
  · show (trimZ (rowG sm ++ List.replicate (sm.getD (ixO sm.length (-1)) 0 / 5 % 2).toNat 0)).length ≤ 41
    rw [trimZ_rep]
    refine Nat.le_trans (trimZ_len _) ?_
    unfold rowG
    have := shF_b2 (sm.getD (ixO sm.length 0) 0)
    rw [List.length_append, List.length_replicate, List.length_map]
    omega
  · have hm : m ∈ trimZ (goG (rowP sm)) := hm
    rcases mem_trim hm with z | z
    · rw [z]; decide
    · rw [eg] at z
      have := h2 m z
      have e10 : ((10 ^ 100 : Nat) : Int) = (10 : Int) ^ 100 := by decide +kernel
      rw [← e10] at this
      exact Int.ofNat_lt.mp this
theorem kpX_ok : Gp (.tup [.ints [0, 1], .int 1]) := by
  refine ⟨⟨_, _, rfl⟩, fun _ => by decide, by show 2 ≤ 41; decide, fun m hm => ?_, by show (1 : Int) ≤ 1; decide, by show (1 : Int) ≤ 40; decide, ?_⟩
  · have hm : m ∈ ([0, 1] : List Int) := hm
    simp only [List.mem_cons, List.not_mem_nil, or_false] at hm
    rcases hm with rfl | rfl <;> decide
  · show (shS [0, 1]).length ≤ 5000
    exact Nat.le_trans (show (shS [0, 1]).length ≤ 10 by decide +kernel) (by decide)
theorem kx_law (T : Top K mg cFE cBP cBT cK cW cRd) {f : Addr} {fd : FuncData} (F : Fun K "law" "law" s_law f fd) : FnOk P w K mg base CX0 14 f fd ["_law_script"] (spLaw2 K) := by
  refine lawF2 (G := G82 cW) F sc_law (fun cdv A outer s H E hr => ⟨_, (xss_cons (xst_setI (i := 1) sc_law.nd rfl (Or.inl rfl) (xci (kx_number_by T) hr (xa_cons (xn_div (xci (kx_cell_at T) hr (xa_cons (xr 0) (xa_cons xn_int xa_nil))) xn_int) xa_nil)))
 (xss_cons (xst_ownP (i := 2) sc_law.nd rfl (Or.inl rfl) (xp_lst xa_nil))
 (xss_cons (xst_setI (i := 3) sc_law.nd rfl (Or.inl rfl) (xn_lenS T.b_len (xs_ofI T.b_str (xn 1))))
 (xss_cons (xst_forR3 (k := 4) PassesOwn.never rfl (by rfl) T.b_range xn_int (xn_min rfl T.b_min (xn_len 0 T.b_len) xn_int) xn_int sc_law.nd rfl (Or.inl rfl)
 (xss_cons (xst_unp (xc (kx_pair T) hr (xa_cons (xr 0) (xa_cons (xn 4) xa_nil))) (pg_tup rfl (pgs_cons (pg_name (i := 5) sc_law.nd rfl (Or.inl rfl)) (pgs_cons (pg_name (i := 6) sc_law.nd rfl (Or.inl rfl)) pgs_nil))))
 (xss_cons (xst_setI (i := 3) sc_law.nd rfl (Or.inl rfl) (xn_add (xn_add (xn 3) (xn_lenS T.b_len (xs_of (xc (kx_law_shown T) hr (xa_cons (xl 5) xa_nil))))) xn_int))
 (xss_one (xst_if (xt_le (xn 3) xn_int)
 (xss_one (xst_appP 2 (xp_tup (xa_cons (newL (xcl (kx_form T) hr (xa_cons (xl 5) xa_nil))) (xa_cons (xn 6) xa_nil)))))
 xss_nil)))))
 (xss_cons (xst_setI (i := 7) sc_law.nd rfl (Or.inl rfl) (xn_mod (xci (kx_cell_at T) hr (xa_cons (xr 0) (xa_cons xn_int xa_nil))) xn_int))
 (xss_join (xst_if (xt_gt (xn 7) xn_int)
 (xss_one (xst_while PassesOwn.never (xt_lt (xn_lenO 2 T.b_len) (xn_add xn_int (xn 7)))
 (xss_one (xst_appP 2 (xp_tup (xa_cons (newL (xl_lst (xa_cons xn_int (xa_cons xn_int xa_nil)))) (xa_cons xn_int xa_nil)))))))
 xss_nil)
 (xss_freeze 2 (xss_cons (xst_setS (i := 8) sc_law.nd rfl (Or.inl rfl) (xs_of (xc (kx_product T) hr (xa_cons (xn 1) (xa_cons (xv 2) xa_nil)))))
 (xss_cons (xst_if (xt_gt (xn_lenP T.b_len (xv 2)) xn_int)
 (xss_one (xst_ret (xcb (kx_refused T) hr (xa_cons (xs 8) xa_nil))))
 xss_nil)
 (xss_one (xst_ret (xe_and (xcb (kx_right T) hr (xa_cons (rcvV (kx_product_read T) hr (xa_cons (xs 8) xa_nil)) (xa_cons (xn 1) (xa_cons (xv 2) xa_nil)))) (pe_one (xcb (kx_right T) hr (xa_cons (rcvV (kx_product_read T) hr (xa_cons (xs 8) xa_nil)) (xa_cons (xn 1) (xa_cons (xv 2) xa_nil))))))))))))))))), fun ns h63 hbits => ?_⟩)
  have hc1 : Builtin.Int.intBits (ns.getD 1 0) ≤ 2 ^ 20 := by
    by_cases c : 1 < ns.length
    · exact hbits _ (FM.getD_mem c)
    · rw [getD_ge (by omega)]; decide
  refine ⟨⟨⟨⟨⟨⟨rfl, True.intro, True.intro⟩, True.intro, rfl, by show (0 : Int) ≤ 1; decide⟩, True.intro, by show (0 : Int) < 3; decide, by show (3 : Int).natAbs.log2 < 9000; decide +kernel⟩, True.intro⟩, _, rfl, bits_div 3 hc1⟩, fun c ec => ?_⟩
  have ec : c = nbF (ns.getD 1 0 / 3) := ec
  have cb := nbF_b (ns.getD 1 0 / 3)
  rw [← ec] at cb
  clear ec
  have hc : c.natAbs < 10 ^ 100 := by
    have e10 : ((10 ^ 100 : Nat) : Int) = (10 : Int) ^ 100 := by decide +kernel
    rw [← e10] at cb
    exact Int.ofNat_lt.mp cb
  have nl := numS_lenA cb
  refine ⟨True.intro, fun l0 el0 => ?_⟩
  replace el0 : l0 = [] := el0
  subst el0
  refine ⟨⟨⟨rfl, logB cb⟩, by show (numS c).length ≤ sizeLine; rw [sizeLine_eq]; omega⟩, fun sz esz => ?_⟩
  have sz0 : 0 ≤ sz := by rw [show sz = ((numS c).length : Int) from esz]; omega
  clear esz
  refine to_lit (ρ' := [.fr (.scr ns), .fr (.int c), .ow (.lst []), .fr (.int sz), .un, .un, .un, .un, .un]) rfl ?_
  generalize hM : (if (63 : Int) < (ns.length : Int) then (63 : Int) else (ns.length : Int)) = M
  have hM1 : 0 ≤ M ∧ M ≤ 63 ∧ M ≤ ns.length := by rw [← hM]; split <;> omega
  have hR : ∀ k : Nat, k < rngN 0 M 3 → 0 + (k : Int) * 3 < M := fun k hk => by
    unfold rngN at hk
    split at hk <;> omega
  have hR2 : rngN 0 M 3 ≤ 22 := by
    unfold rngN
    split <;> omega
  refine ⟨⟨True.intro, ⟨.inr (.inr rfl), True.intro⟩, True.intro⟩, ⟨by show (0 : Int) < 3; decide, by show (3 : Int) < 1000; decide, by show -(2 : Int) ^ 62 ≤ 0; decide, by show (0 : Int) < 2 ^ 62; decide, ?_, ?_⟩, fun i ρ => ∃ l sz a b d, ρ = [.fr (.scr ns), .fr (.int c), .ow (.lst l), .fr (.int sz), a, b, d, .un, .un] ∧ 0 ≤ sz ∧ l.length ≤ i ∧ ∀ q ∈ l, Gp q, ⟨[], sz, .un, .un, .un, rfl, sz0, Nat.le_refl _, fun q hq => nomatch hq⟩, ?_, ?_⟩
  · show -(2 : Int) ^ 62 ≤ (if (63 : Int) < (ns.length : Int) then (63 : Int) else (ns.length : Int))
    rw [hM]; omega
  · show (if (63 : Int) < (ns.length : Int) then (63 : Int) else (ns.length : Int)) < 2 ^ 62
    rw [hM]; omega
  · rintro i ρ hi ⟨l, sz, a, b, d, rfl, sz0, ll, lg⟩
    have hi : i < rngN 0 (if (63 : Int) < (ns.length : Int) then (63 : Int) else (ns.length : Int)) 3 := hi
    rw [hM] at hi
    have hk := hR i hi
    have sm3 := (smF_ok (ns := ns) (k := 0 + (i : Int) * 3) (by omega) (by omega) (by omega)).2.1
    generalize hsm : smF ns (0 + (i : Int) * 3) = sm at sm3
    obtain ⟨g, o, e, h1, h2, h3, h4⟩ := rowP_ok sm3
    have sl := shS_len h2 h1
    refine ⟨⟨⟨rfl, rfl, True.intro⟩, ns, 0 + (i : Int) * 3, rfl, by omega, by omega, by omega, h63, hbits⟩, .ints g, .int o, ?_, ?_⟩
    · show rowP (smF ns (0 + (i : Int) * 3)) = _
      rw [hsm]; exact e
    refine to_lit (ρ' := [.fr (.scr ns), .fr (.int c), .ow (.lst l), .fr (.int sz), .fr (.int (0 + (i : Int) * 3)), .fr (.ints g), .fr (.int o), .un, .un]) rfl ?_
    refine ⟨⟨⟨rfl, ⟨⟨⟨rfl, True.intro⟩, g, rfl, h1, h2⟩, rfl⟩, by show (shS (trimZ g)).length ≤ sizeLine; rw [sizeLine_eq]; omega⟩, True.intro⟩, fun s2 es2 => ?_⟩
    replace es2 : s2 = sz + ((shS (trimZ g)).length : Int) + 8 := es2
    refine to_lit (ρ' := [.fr (.scr ns), .fr (.int c), .ow (.lst l), .fr (.int s2), .fr (.int (0 + (i : Int) * 3)), .fr (.ints g), .fr (.int o), .un, .un]) rfl ?_
    refine ⟨⟨rfl, True.intro⟩, fun q => ?_, fun _ => ⟨l, s2, _, _, _, rfl, by omega, by omega, lg⟩⟩
    have q : s2 ≤ 3400 := q
    have eg : goG (rowP sm) = g := by rw [e]; rfl
    have eo : goO (rowP sm) = o := by rw [e]; rfl
    have gp : Gp (.tup [.ints (trimZ g), .int o]) := by
      have := kpQ_ok (sm := sm) sm3 (by rw [eg]; omega)
      unfold kpQ at this
      rw [eg, eo] at this
      exact this
    refine ⟨rfl, ⟨⟨⟨rfl, True.intro⟩, g, rfl, by omega⟩, rfl, True.intro⟩, by show l.length < sizeLine; rw [sizeLine_eq]; omega, l ++ [.tup [.ints (trimZ g), .int o]], s2, _, _, _, rfl, by omega, by rw [List.length_append]; show l.length + 1 ≤ i + 1; omega, fun q hq => ?_⟩
    rcases List.mem_append.mp hq with hq | hq
    · exact lg q hq
    · rw [List.mem_singleton.mp hq]; exact gp
  rintro ρ ⟨l, sz, a, b, d, rfl, _, ll, lg⟩
  replace ll : l.length ≤ 22 := by
    have : l.length ≤ rngN 0 (if (63 : Int) < (ns.length : Int) then (63 : Int) else (ns.length : Int)) 3 := ll
    rw [hM] at this
    omega
  refine ⟨⟨⟨⟨rfl, True.intro, True.intro⟩, True.intro, rfl, by show (0 : Int) ≤ 2; decide⟩, True.intro, by show (0 : Int) < 3; decide⟩, fun tn etn => ?_⟩
  have t0 : 0 ≤ tn ∧ tn < 3 := by
    rw [show tn = ns.getD 2 0 % 3 from etn]
    exact ⟨Int.emod_nonneg _ (by decide), Int.emod_lt_of_pos _ (by decide)⟩
  clear etn
  refine to_lit (ρ' := [.fr (.scr ns), .fr (.int c), .ow (.lst l), .fr (.int sz), a, b, d, .fr (.int tn), .un]) rfl ?_
  refine ⟨fun ρ => ∃ l, ρ = [.fr (.scr ns), .fr (.int c), .ow (.lst l), .fr (.int sz), a, b, d, .fr (.int tn), .un] ∧ l.length ≤ 25 ∧ ∀ q ∈ l, Gp q, ⟨⟨rfl, True.intro⟩, fun _ => ?_, fun _ => ⟨l, rfl, by omega, lg⟩⟩, ?_⟩
  · refine ⟨fun ρ => ∃ l, ρ = [.fr (.scr ns), .fr (.int c), .ow (.lst l), .fr (.int sz), a, b, d, .fr (.int tn), .un] ∧ l.length ≤ 25 ∧ ∀ q ∈ l, Gp q, fun ρ => 25 - (pvP (getP ρ 2)).length, ⟨l, rfl, by omega, lg⟩, ?_⟩
    rintro ρ ⟨l, rfl, ll, lg⟩
    refine ⟨⟨rfl, True.intro, rfl⟩, fun q => ?_, fun _ => ⟨l, rfl, ll, lg⟩⟩
    have q : (l.length : Int) < 23 + tn := q
    refine ⟨rfl, ⟨⟨⟨True.intro, True.intro, True.intro⟩, True.intro⟩, True.intro, True.intro⟩, by show l.length < sizeLine; rw [sizeLine_eq]; omega, ⟨l ++ [.tup [.ints [0, 1], .int 1]], rfl, by rw [List.length_append]; show l.length + 1 ≤ 25; omega, fun q hq => ?_⟩, ?_⟩
    · rcases List.mem_append.mp hq with hq | hq
      · exact lg q hq
      · rw [List.mem_singleton.mp hq]; exact kpX_ok
    · show 25 - (l ++ [PV.tup [.ints [0, 1], .int 1]]).length < 25 - l.length
      rw [List.length_append]
      show 25 - (l.length + 1) < 25 - l.length
      omega
  clear ll lg
  rintro ρ ⟨l, rfl, ll, lg⟩
  have gd : ∀ q ∈ l, Gd q := fun q hq => (lg q hq).gd
  have pl : (prS c l).length ≤ 1000000 := by
    have := prS_len cb gd l.length (Nat.le_refl _)
    rw [List.take_length] at this
    omega
  refine ⟨⟨⟨⟨rfl, rfl, True.intro⟩, c, l, rfl, cb, by omega, gd⟩, rfl⟩, fun t et => ?_⟩
  replace et : t = prS c l := et
  subst et
  refine to_lit (ρ' := [.fr (.scr ns), .fr (.int c), .fr (.lst l), .fr (.int sz), a, b, d, .fr (.int tn), .fr (.str (prS c l))]) rfl ?_
  refine ⟨⟨⟨rfl, True.intro⟩, True.intro⟩, fun q => ?_, fun q => ?_⟩
  · have q : (l.length : Int) > 24 := q
    exact ⟨⟨⟨rfl, True.intro⟩, c, l, rfl, hc, ll, lg, pl, by omega⟩, rfl⟩
  · have q : ¬ (l.length : Int) > 24 := q
    have hF : rdP cBP (prS c l) = .val (.tup [.int c, .lst l]) := by rw [rdP_eq hc lg, if_neg (by omega)]
    have one : (isS [.fr (.scr ns), .fr (.int c), .fr (.lst l), .fr (.int sz), a, b, d, .fr (.int tn), .fr (.str (prS c l))] 8) := rfl
    refine ⟨⟨⟨⟨⟨⟨rfl, True.intro⟩, ⟨c, l, rfl, hc, ll, lg, pl⟩, ?_⟩, rfl, rfl, True.intro⟩, c, l, ?_, by omega, lg⟩, fun _ => ⟨⟨⟨⟨rfl, True.intro⟩, ⟨c, l, rfl, hc, ll, lg, pl⟩, ?_⟩, rfl, rfl, True.intro⟩, c, l, ?_, by omega, lg⟩⟩, rfl⟩
    · show (rdP cBP (prS c l)).isV
      rw [hF]; exact True.intro
    · show [(rdP cBP (prS c l)).get, PV.int c, PV.lst l] = _
      rw [hF]; rfl
    · show (rdP cBP (prS c l)).isV
      rw [hF]; exact True.intro
    · show [(rdP cBP (prS c l)).get, PV.int c, PV.lst l] = _
      rw [hF]; rfl


end
end K82
theorem PySem.Challenge.cw_factorforge_k82_product_read_holds : PySem.Challenge.rw_factorforge_k82_product_read.Holds :=
  K82.pre fun T => K82.kx_law T
