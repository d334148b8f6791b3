import PyProof.Rows.All
import Wide.All
import KE.KNestM
import KE.KUnpack
import KE.KEqDeep
import KE.KPassesOwn
import KE.RegKIsAll
import KE.RegKTryMore
import OpenK.KOwn
import KE.KItem
import KE.KNest
import KE.KLam
import KE.KSortKey
import Wide.FinOn
import Lean
import PyProof.EqAt
import PyProof.EqKinds
import PyProof.TupleCall
import KE.KNest
import KE.KNestM
import KE.KLam
import KE.KSortKey
import PySem.Challenge.RW_factorforge_k25_whole_squares_out
set_option Elab.async false
set_option linter.all false
set_option maxRecDepth 100000
set_option maxHeartbeats 4000000
local macro_rules | `(tactic| omega) => `(tactic| lia)
noncomputable section
theorem tT : True := True.intro
theorem gQ {A : Type} {l : List A} {i : Nat} {a : A} : l.getD i a = l[i]?.getD a := List.getD_eq_getElem?_getD ..
theorem lP {A : Type} {l : List A} (h : l ≠ []) : 0 < l.length := List.length_pos_iff.mpr h
section
open PySem PySem.W PyProof.Rows
namespace K25
def top (i : Nat) : Stmt := PySem.Challenge.pw_factorforge_k25_whole_squares_out.main.body.getD i (.Pass ⟨0, 0, 0, 0⟩)
end K25
def K25.view : PySem.Program := { PySem.Challenge.rw_factorforge_k25_whole_squares_out.row.toRowW.prog with main := { PySem.Challenge.rw_factorforge_k25_whole_squares_out.row.toRowW.prog.main with body := [K25.top 0, K25.top 2, K25.top 3, K25.top 4, K25.top 5, K25.top 7, K25.top 8, K25.top 9, K25.top 10, K25.top 11, K25.top 12, K25.top 13, K25.top 14, K25.top 16, K25.top 17, K25.top 18, K25.top 19, K25.top 20, K25.top 22, K25.top 23, K25.top 25, K25.top 26, K25.top 27, K25.top 28, K25.top 29, K25.top 30, K25.top 32, K25.top 33, K25.top 34, K25.top 35, K25.top 36, K25.top 37, K25.top 38, K25.top 39, K25.top 40, K25.top 41, K25.top 42, K25.top 43] } }
def X.trT (tb : String -> Option Builtin) (p : Program) (w : World) (n₀ : Nat) (ann : Option Value) : Nat -> SharedT -> Thread -> Option SharedT
  | 0, _, _ => none
  | n + 1, s, t => match through t with
    | true => some s
    | false => match stepOk n₀ ann t with
      | false => none
      | true => match stepT (denote tb) p w s t with
        | some (s', t') => X.trT tb p w n₀ ann n s' t'
        | none => none
theorem X.trT_of {tb : String -> Option Builtin} {p : Program} {w : World} {n₀ : Nat} {ann : Option Value} : ∀ {n : Nat} {s s' : SharedT} {t : Thread}, X.trT tb p w n₀ ann n s t = some s' -> topRun tb p w n₀ ann n s.abs t = some s'.abs
  | 0, _, _, _, h => by cases h
  | n + 1, s, s', t, h => by
    unfold X.trT at h
    unfold topRun
    cases ht : through t with
    | true => rw [ht] at h; cases h; rfl
    | false =>
      rw [ht] at h
      cases hk : stepOk n₀ ann t with
      | false => rw [hk] at h; cases h
      | true =>
        rw [hk] at h
        cases hs : stepT (denote tb) p w s t with
        | none => rw [hs] at h; cases h
        | some r => obtain ⟨s₂, t₂⟩ := r; rw [hs] at h; rw [stepT_spec hs]; exact X.trT_of h
def X.toT (s : Shared) : SharedT := ⟨(s.heap.objs.toList.foldl (fun (x : BT × Nat) o => (x.1.ins x.2 o, x.2 + 1)) (BT.nil, 0)).1, s.heap.objs.size, s.heap.life, s.gens, s.drawn, s.toks, s.os⟩
def X.RT (tb : String -> Option Builtin) (p : Program) (w : World) (N : Nat) : Option (Shared × SharedT) := (fencedOpening tb p w N).bind fun s0 => (X.trT tb p w s0.heap.objs.size (s0.heap.nsMap mainGlobals "__annotations__") N (X.toT s0) (topStub p)).map fun s1 => (s0, s1)
def X.chk (p : Program) (s0 s1 : Shared) : Bool := (s0.heap.isNs mainGlobals && s0.gens.size == 0) && (staticsOk (importedModules p.main.body) s0.heap s1.heap && namesBound p s1.heap && gensDone s1 && laidKept s0.heap s1.heap)
theorem X.ends_of_tree {p : Program} {w : World} {N : Nat} {A : Type} {f : Shared -> A} {a : A} (h0 : (fencedOpening treeTable p w N).map (fun s => (X.toT s).tree.list s.heap.objs.size) = (fencedOpening treeTable p w N).map (fun s => s.heap.objs.toList))
    (h1 : (X.RT treeTable p w N).map (fun x => (X.chk p x.1 x.2.abs, f x.2.abs)) = some (true, a)) : (openEnds treeTable p w N).map f = some a := by
  unfold X.RT at h1
  unfold openEnds
  cases e : fencedOpening treeTable p w N with
  | none => rw [e] at h1; cases h1
  | some s0 =>
    rw [e] at h0 h1
    have hl : (X.toT s0).tree.list s0.heap.objs.size = s0.heap.objs.toList := Option.some.inj h0
    have ha : (X.toT s0).abs = s0 := by
      obtain ⟨⟨objs, life⟩, gens, drawn, toks, os⟩ := s0
      show (⟨⟨((X.toT ⟨⟨objs, life⟩, gens, drawn, toks, os⟩).tree.list objs.size).toArray, life⟩, gens, drawn, toks, os⟩ : Shared) = _
      rw [hl]
    have h1 : ((X.trT treeTable p w s0.heap.objs.size (s0.heap.nsMap mainGlobals "__annotations__") N (X.toT s0) (topStub p)).map fun s1 => (s0, s1)).map (fun x => (X.chk p x.1 x.2.abs, f x.2.abs)) = some (true, a) := h1
    cases e1 : X.trT treeTable p w s0.heap.objs.size (s0.heap.nsMap mainGlobals "__annotations__") N (X.toT s0) (topStub p) with
    | none => rw [e1] at h1; cases h1
    | some s1 =>
      rw [e1] at h1
      have h1 := Option.some.inj h1
      have c := congrArg Prod.fst h1
      have d := congrArg Prod.snd h1
      have c : X.chk p s0 s1.abs = true := c
      have d : f s1.abs = a := d
      have r := X.trT_of e1
      rw [ha] at r
      obtain ⟨c1, c2⟩ := Bool.and_eq_true_iff.mp c
      show (topFrom treeTable p w N s0).map f = some a
      unfold topFrom
      rw [c1, r]
      show (match staticsOk (importedModules p.main.body) s0.heap s1.abs.heap && namesBound p s1.abs.heap && gensDone s1.abs && laidKept s0.heap s1.abs.heap with | true => some s1.abs | false => none).map f = some a
      rw [c2]
      exact congrArg some d
theorem X.both {S A B : Type} {o : Option S} {c : S -> Bool} {f : S -> A} {y : S -> B} {g : A} {a : B} (h1 : o.map (fun x => (c x, f x)) = some (true, g)) (h2 : o.map y = some a) : o.map (fun x => (c x, (f x, y x))) = some (true, (g, a)) := by
  cases o with
  | none => cases h2
  | some s =>
    have e1 := Option.some.inj h1
    have e2 := Option.some.inj h2
    have e3 : c s = true := congrArg Prod.fst e1
    have e4 : f s = g := congrArg Prod.snd e1
    show some (c s, (f s, y s)) = _
    rw [e3, e4, e2]
abbrev K25.seenT (s : Shared) := openSeen K25.view [] (importedModules PySem.Challenge.rw_factorforge_k25_whole_squares_out.row.toRowW.prog.main.body) (fun s => xlAt K25.view [] s && recOk (RowW.records PySem.Challenge.rw_factorforge_k25_whole_squares_out.row.toRowW) s) true s
theorem K25.h0 : ∀ w, (fencedOpening treeTable PySem.Challenge.rw_factorforge_k25_whole_squares_out.row.toRowW.prog w 20000).map (fun s => (X.toT s).tree.list s.heap.objs.size) = (fencedOpening treeTable PySem.Challenge.rw_factorforge_k25_whole_squares_out.row.toRowW.prog w 20000).map (fun s => s.heap.objs.toList) := by intro w; kernel_rfl
theorem K25.h1 : ∀ w, (X.RT treeTable PySem.Challenge.rw_factorforge_k25_whole_squares_out.row.toRowW.prog w 20000).map (fun x => (X.chk PySem.Challenge.rw_factorforge_k25_whole_squares_out.row.toRowW.prog x.1 x.2.abs, K25.seenT x.2.abs)) = some (true, openGood K25.view []) := by intro w; kernel_rfl
theorem K25.fin {A : Type} {y : Shared -> A} {a : A} (w : World) (h : (X.RT treeTable PySem.Challenge.rw_factorforge_k25_whole_squares_out.row.toRowW.prog w 20000).map (fun x => y x.2.abs) = some a) : (openEnds treeTable PySem.Challenge.rw_factorforge_k25_whole_squares_out.row.toRowW.prog w 20000).map (fun s => (K25.seenT s, y s)) = some (openGood K25.view [], a) :=
  X.ends_of_tree (f := fun s => (K25.seenT s, y s)) (K25.h0 w) (X.both (K25.h1 w) h)
end
namespace L2
open PySem PySem.Spec PyProof.Rows
abbrev Key := Sum Int Str
def keyIs : Key -> Value -> Bool
  | .inl k, v => Value.isInt k v
  | .inr x, v => Value.isStrOf x v
def keyH (w : World) : Key -> Int
  | .inl k => hashInt k
  | .inr x => hashStr w x
theorem keyIs_shape : ∀ {k : Key} {v : Value}, keyIs k v = true -> (∃ i t, k = Sum.inl i /\ v = Value.int i t) \/ (∃ x t, k = Sum.inr x /\ v = Value.str x t)
  | .inl i, v, h => by
    obtain ⟨t, e⟩ := Value.isInt_shape (k := i) (v := v) h
    exact .inl ⟨i, t, rfl, e⟩
  | .inr x, v, h => by
    obtain ⟨t, e⟩ := Value.isStrOf_shape (x := x) (v := v) h
    exact .inr ⟨x, t, rfl, e⟩
theorem key_ll (a b : Int) : decide ((Sum.inl a : Key) = Sum.inl b) = (a == b) := by
  by_cases e : a = b
  . subst e; simp
  . have h : ¬ (Sum.inl a : Key) = Sum.inl b := fun q => e (Sum.inl.inj q)
    rw [decide_eq_false h]
    exact (beq_eq_false_iff_ne.mpr e).symm
theorem key_rr (a b : Str) : decide ((Sum.inr a : Key) = Sum.inr b) = decide (a = b) := by
  by_cases e : a = b
  . subst e; simp
  . have h : ¬ (Sum.inr a : Key) = Sum.inr b := fun q => e (Sum.inr.inj q)
    rw [decide_eq_false h, decide_eq_false e]
theorem key_lr (a : Int) (b : Str) : decide ((Sum.inl a : Key) = Sum.inr b) = false := decide_eq_false (fun q => nomatch q)
theorem key_rl (a : Str) (b : Int) : decide ((Sum.inr a : Key) = Sum.inl b) = false := decide_eq_false (fun q => nomatch q)
def mixKind (prog : Program) (w : World) : PySem.KeyKind prog w Key where
  is := keyIs
  hash := keyH w
  inj := fun v a b ha hb => by
    rcases keyIs_shape ha with ⟨i, t, rfl, rfl⟩ | ⟨x, t, rfl, rfl⟩
    . rcases keyIs_shape hb with ⟨j, u, rfl, e⟩ | ⟨y, u, rfl, e⟩
      . injection e with e1 _; rw [e1]
      . exact nomatch e
    . rcases keyIs_shape hb with ⟨j, u, rfl, e⟩ | ⟨y, u, rfl, e⟩
      . exact nomatch e
      . injection e with e1 _; rw [e1]
  byValue := fun k v h => by
    rcases keyIs_shape h with ⟨i, t, rfl, rfl⟩ | ⟨x, t, rfl, rfl⟩ <;> rfl
  pyHash := fun hv h => by
    rcases keyIs_shape hv with ⟨i, t, rfl, rfl⟩ | ⟨x, t, rfl, rfl⟩
    . exact wpAny_pyHash_int h
    . exact wpAny_pyHash_str h
  eqBool := fun hu hv h => by
    rcases keyIs_shape hu with ⟨i, t, rfl, rfl⟩ | ⟨x, t, rfl, rfl⟩
    . rcases keyIs_shape hv with ⟨j, u, rfl, rfl⟩ | ⟨y, u, rfl, rfl⟩
      . rw [key_ll] at h; exact wpAny_eqBool_int h
      . rw [key_lr] at h; exact SeqAt.EqAt.int_str i t y u _ _ _ _ h
    . rcases keyIs_shape hv with ⟨j, u, rfl, rfl⟩ | ⟨y, u, rfl, rfl⟩
      . rw [key_rl] at h; exact SeqAt.EqAt.str_int x t j u _ _ _ _ h
      . rw [key_rr] at h; exact wpAny_eqBool_str h
  «strs» := fun k x t v h => by
    rcases keyIs_shape h with ⟨i, u, rfl, e⟩ | ⟨y, u, rfl, e⟩
    . exact nomatch e
    . injection e with e1 _
      subst e1
      cases v <;> rfl
inductive V where
  | non | bl (b : Bool) | int (i : Int) | str (x : Str) | byt (b : Array UInt8) | flt (b : UInt64) | ref (a : Addr) | ty (n : String)
  deriving DecidableEq
def RelV : V -> Value -> Prop
  | .non, u => u = Value.none
  | .bl b, u => u = Value.bool b
  | .int i, u => ∃ t, u = Value.int i t
  | .str x, u => ∃ t, u = Value.str x t
  | .byt b, u => ∃ t, u = Value.bytes b t
  | .flt b, u => ∃ t, u = Value.float b t
  | .ref a, u => u = Value.ref a
  | .ty n, u => u = Value.type n
abbrev Vals : List V -> List Value -> Prop := Paired RelV
theorem Vals.length {xs : List V} {us : List Value} (r : Vals xs us) : xs.length = us.length := Paired.length r
theorem Vals.get : ∀ {xs : List V} {us : List Value} {i : Nat} {x : V}, Vals xs us -> xs[i]? = some x -> ∃ u, us[i]? = some u /\ RelV x u
  | _, _, _, _, .nil, e => by simp at e
  | _, _, 0, _, .cons r _, e => by simp at e; subst e; exact ⟨_, rfl, r⟩
  | _, _, i + 1, x, .cons _ t, e => by
    obtain ⟨u, h1, h2⟩ := Vals.get (i := i) (x := x) t (by simpa using e)
    exact ⟨u, by simpa using h1, h2⟩
theorem Vals.set {x : V} {u : Value} (r : RelV x u) : ∀ {xs : List V} {us : List Value} (i : Nat), Vals xs us -> Vals (xs.set i x) (us.set i u)
  | _, _, _, .nil => .nil
  | _, _, 0, .cons _ t => .cons r t
  | _, _, i + 1, .cons q t => .cons q (Vals.set r i t)
theorem Vals.append : ∀ {xs ys : List V} {us ws : List Value}, Vals xs us -> Vals ys ws -> Vals (xs ++ ys) (us ++ ws)
  | _, _, _, _, .nil, s => s
  | _, _, _, _, .cons r t, s => .cons r (Vals.append t s)
theorem Vals.take : ∀ {xs : List V} {us : List Value} (n : Nat), Vals xs us -> Vals (xs.take n) (us.take n)
  | _, _, 0, _ => .nil
  | _, _, _ + 1, .nil => .nil
  | _, _, n + 1, .cons r t => .cons r (Vals.take n t)
theorem Vals.drop : ∀ {xs : List V} {us : List Value} (n : Nat), Vals xs us -> Vals (xs.drop n) (us.drop n)
  | _, _, 0, r => r
  | _, _, _ + 1, .nil => .nil
  | _, _, n + 1, .cons _ t => Vals.drop n t
theorem Vals.none_of : ∀ {xs : List V} {us : List Value} {i : Nat}, Vals xs us -> xs[i]? = none -> us[i]? = none := fun {xs us i} r e => by
  have h1 := r.length
  have h2 : xs.length <= i := List.getElem?_eq_none_iff.mp e
  exact List.getElem?_eq_none_iff.mpr (by omega)
def RelO : Option V -> Option Value -> Prop
  | some v, some u => RelV v u
  | none, none => True
  | _, _ => False
def KV {κ : Type} : List (κ × V) -> List (κ × Value) -> Prop := Paired fun (p : κ × V) (q : κ × Value) => p.1 = q.1 /\ RelV p.2 q.2
def kV : Key -> V
  | .inl i => .int i
  | .inr x => .str x
structure TabD where
  q : Str
  ps : Array Value
instance : HAppend TabD (Array Value) TabD := ⟨fun t m => ⟨t.q, t.ps ++ m⟩⟩
@[simp] theorem TabD.append_nil (t : TabD) : t ++ (#[] : Array Value) = t := by
  obtain ⟨q, ps⟩ := t
  show TabD.mk q (ps ++ #[]) = ⟨q, ps⟩
  rw [Array.append_empty]
theorem TabD.append_assoc (t : TabD) (a b : Array Value) : t ++ a ++ b = t ++ (a ++ b) := by
  obtain ⟨q, ps⟩ := t
  show TabD.mk q (ps ++ a ++ b) = ⟨q, ps ++ (a ++ b)⟩
  rw [Array.append_assoc]
def CodeQ (o : Obj) (q : Str) : Prop := ∃ vs t, o.data = .fields vs /\ vs[1]? = some (.str q t)
inductive HO where
  | lst (xs : List V)
  | tup (xs : List V)
  | dK (kvs : List (Key × V)) | dT (kvs : List (List Key × V))
  | set (S : Int -> Bool) (n : Nat)
  | ins (C dx : Addr) (fs : List (Str × V))
  | own (x : Addr)
  | xd (fs : List (Str × V))
  | met (f x : Addr)
  | rng (lo hi : Int)
  | frz (o : Obj) (u : HO)
  | tbl (ps : TabD)
  | ext (φ : Heap -> Prop)
abbrev Hp := Addr -> Option HO
def upd (H : Hp) (a : Addr) (o : HO) : Hp := fun b => if b = a then some o else H b
theorem upd_same {H : Hp} {a : Addr} {o : HO} : upd H a o a = some o := by unfold upd; rw [if_pos rfl]
theorem upd_ne {H : Hp} {a b : Addr} {o : HO} (h : b ≠ a) : upd H a o b = H b := by unfold upd; rw [if_neg h]
theorem upd_upd {H : Hp} {a : Addr} {o u : HO} : upd (upd H a o) a u = upd H a u := by
  funext b; unfold upd; split <;> rfl
theorem ne_of_none {H : Hp} {a b : Addr} {o : HO} (h : H a = some o) (h' : H b = none) : a ≠ b := by
  intro e; subst e; rw [h] at h'; cases h'
section
variable (P : Program) (w : World)
def ObjOk (H : Hp) (h : Heap) (a : Addr) : HO -> Prop
  | .lst xs => xs.length <= sizeLine /\ ∃ (its : List Value) (n : Nat), Vals xs its /\ h.get? a = some { cls := .type "list", data := .seq its.toArray n }
  | .tup xs => xs.length <= sizeLine /\ ∃ its : List Value, Vals xs its /\ IsTup h a its.toArray
  | .dK kvs => kvs.length <= sizeLine /\ (a == sysModules) = false /\ ∃ vs, KV kvs vs /\ h.DictOf (mixKind P w) a vs
  | .dT kvs => kvs.length <= sizeLine /\ (a == sysModules) = false /\ ∃ xs : List (List Key × Addr × Value),
      Paired (fun (p : List Key × V) (q : List Key × Addr × Value) => p.1 = q.1 /\ H q.2.1 = some (.tup (p.1.map kV)) /\ RelV p.2 q.2.2) kvs xs /\
      ∃ o es ep, h.get? a = some o /\ o.ExactDict /\ o.data = .dict es ep /\ es.toList = xs.map (entryOfKey (tupleKind (mixKind P w))) /\ (xs.map (·.1)).Nodup
  | .set S n => h.SetOf (intKind P w) a S n
  | .ins C dx fs => H dx = some (.own a) /\ fs.length <= 1000 /\ dx ≠ a /\ h.get? a = some (PySem.W.instObj C dx) /\
      ∃ mA, h.Ns1 dx mA /\ (∀ f, RelO (fs.lookup f) (mA f)) /\ PySem.Within mA (fs.map (·.1))
  | .own _ => ∃ o, h.get? a = some o
  | .xd fs => ∃ mA, h.Ns1 a mA /\ ∀ f, RelO (fs.lookup f) (mA f)
  | .rng lo hi => ∃ t u v, h.get? a = some { cls := .type "range", data := .fields #[.int lo t, .int hi u, .int 1 v] }
  | .frz o u => h.get? a = some o /\ ObjOk H h a u
  | .tbl ps => h.get? a = some { cls := .none, data := .fields ps.ps } /\ TriplesOk ps.ps.toList /\ ∀ p cv, codeAmong p ps.ps.toList = some cv -> ∃ c oc u, cv = Value.ref c /\ H c = some (.frz oc u) /\ CodeQ oc ps.q
  | .met f x => h.get? a = some (PySem.W.methodObj (.ref f) (.ref x))
  | .ext φ => φ h /\ (∃ o, h.get? a = some o) /\ ∀ h1 h2 : Heap, φ h1 -> (∀ o, h1.get? a = some o -> h2.get? a = some o) -> φ h2
def HOk (H : Hp) (h : Heap) : Prop := ∀ a o, H a = some o -> ObjOk P w H h a o
end
section
variable {P : Program} {w : World} {H H' : Hp} {h h' : Heap} {a : Addr} {o : HO}
theorem ObjOk.lt (x : ObjOk P w H h a o) : a < h.objs.size := by
  cases o with
  | lst xs => obtain ⟨_, _, _, _, e⟩ := x; exact Heap.lt_size e
  | tup xs => obtain ⟨_, _, _, p⟩ := x; exact p.lt
  | dK kvs => obtain ⟨_, _, _, _, o, _, _, e, _⟩ := x; exact Heap.lt_size e
  | dT kvs => obtain ⟨_, _, _, _, o, _, _, e, _⟩ := x; exact Heap.lt_size e
  | set S n => obtain ⟨o, _, _, _, e, _⟩ := x; exact Heap.lt_size e
  | ins C dx fs => obtain ⟨_, _, _, e, _⟩ := x; exact Heap.lt_size e
  | own y => obtain ⟨_, e⟩ := x; exact Heap.lt_size e
  | xd fs => obtain ⟨_, ⟨_, _, _, e, _⟩, _⟩ := x; exact Heap.lt_size e
  | rng lo hi => obtain ⟨_, _, _, e⟩ := x; exact Heap.lt_size e
  | frz ob u => obtain ⟨e, _⟩ := x; exact Heap.lt_size e
  | tbl ps => exact Heap.lt_size x.1
  | met f y => exact Heap.lt_size (show h.get? a = some _ from x)
  | ext φ => obtain ⟨_, ⟨_, e⟩, _⟩ := x; exact Heap.lt_size e
theorem Paired.mapP {α β : Type} {F G : α -> β -> Prop} : ∀ {l₁ : List α} {l₂ : List β}, Paired F l₁ l₂ -> (∀ a b, F a b -> G a b) -> Paired G l₁ l₂
  | _, _, .nil, _ => .nil
  | _, _, .cons r t, f => .cons (f _ _ r) (Paired.mapP t f)
theorem ObjOk.stay (x : ObjOk P w H h a o) (k : ∀ b u, (b = a \/ H b = some (.own a)) -> h.get? b = some u -> h'.get? b = some u)
    (ho : ∀ b, H b = some (.own a) -> H' b = some (.own a)) (ht : ∀ b xs, H b = some (.tup xs) -> H' b = some (.tup xs)) (hz : ∀ b o u, H b = some (.frz o u) -> H' b = some (.frz o u) := by intro _ _ _ q; exact q) : ObjOk P w H' h' a o := by
  induction o with
  | lst xs => obtain ⟨z, its, n, r, e⟩ := x; exact ⟨z, its, n, r, k _ _ (.inl rfl) e⟩
  | tup xs => obtain ⟨z, its, r, ob, e, c⟩ := x; exact ⟨z, its, r, ob, k _ _ (.inl rfl) e, c⟩
  | dK kvs => obtain ⟨z, y, vs, r, ob, es, ep, e, c⟩ := x; exact ⟨z, y, vs, r, ob, es, ep, k _ _ (.inl rfl) e, c⟩
  | dT kvs =>
    obtain ⟨z, y, xs, r, ob, es, ep, e, c⟩ := x
    exact ⟨z, y, xs, Paired.mapP r fun p q z => ⟨z.1, ht _ _ z.2.1, z.2.2⟩, ob, es, ep, k _ _ (.inl rfl) e, c⟩
  | set S n => obtain ⟨ob, es, ep, t, e, c⟩ := x; exact ⟨ob, es, ep, t, k _ _ (.inl rfl) e, c⟩
  | ins C dx fs =>
    obtain ⟨d, z, ne, e, mA, ⟨od, es, ep, e2, c⟩, r⟩ := x
    exact ⟨ho _ d, z, ne, k _ _ (.inl rfl) e, mA, ⟨od, es, ep, k _ _ (.inr d) e2, c⟩, r⟩
  | own y => obtain ⟨ob, e⟩ := x; exact ⟨ob, k _ _ (.inl rfl) e⟩
  | xd fs => obtain ⟨mA, ⟨od, es, ep, e, c⟩, r⟩ := x; exact ⟨mA, ⟨od, es, ep, k _ _ (.inl rfl) e, c⟩, r⟩
  | rng lo hi => obtain ⟨t, u, v, e⟩ := x; exact ⟨t, u, v, k _ _ (.inl rfl) e⟩
  | frz ob u ih => obtain ⟨e, q⟩ := x; exact ⟨k _ _ (.inl rfl) e, ih q⟩
  | tbl ps =>
    obtain ⟨e, t, g⟩ := x
    exact ⟨k a _ (.inl rfl) e, t, fun p cv hc => let ⟨c, oc, u, y, z, q⟩ := g p cv hc; ⟨c, oc, u, y, hz _ _ _ z, q⟩⟩
  | met f y =>
    have e : h.get? a = some (PySem.W.methodObj (.ref f) (.ref y)) := x
    show h'.get? a = some (PySem.W.methodObj (.ref f) (.ref y))
    exact k a _ (.inl rfl) e
  | ext φ => obtain ⟨p, ⟨o, e⟩, st⟩ := x; exact ⟨st _ _ p fun o q => k _ _ (.inl rfl) q, ⟨o, k _ _ (.inl rfl) e⟩, st⟩
theorem HOk.lt (x : HOk P w H h) (e : H a = some o) : a < h.objs.size := (x a o e).lt
theorem HOk.fresh (x : HOk P w H h) (e : h.objs.size <= a) : H a = none := by
  cases q : H a with
  | none => rfl
  | some u => exact absurd (Nat.lt_of_lt_of_le (x.lt q) e) (Nat.lt_irrefl _)
theorem HOk.kept (x : HOk P w H h) (k : ∀ b u, h.get? b = some u -> h'.get? b = some u) : HOk P w H h' := fun a o e =>
  (x a o e).stay (fun b u _ q => k b u q) (fun _ q => q) fun _ _ q => q
theorem HOk.laid (x : HOk P w H h) (k : ∀ b u, h.get? b = some u -> h'.get? b = some u) (hp : h.objs.size <= a) (new : ObjOk P w (upd H a o) h' a o) : HOk P w (upd H a o) h' := fun b u e => by
  have hn := x.fresh hp
  by_cases hb : b = a
  . subst hb; rw [upd_same] at e; cases e; exact new
  . rw [upd_ne hb] at e
    exact (x b u e).stay (fun c v _ q => k c v q) (fun c q => by rw [upd_ne (ne_of_none q hn)]; exact q) (fun c xs q => by rw [upd_ne (ne_of_none q hn)]; exact q) fun c _ _ q => by rw [upd_ne (ne_of_none q hn)]; exact q
end
def Rd (H : Hp) (a : Addr) (u : HO) : Prop := H a = some u \/ ∃ o, H a = some (.frz o u)
theorem Rd.ok {P : Program} {w : World} {H : Hp} {h : Heap} {a : Addr} {u : HO} (r : Rd H a u) (x : HOk P w H h) : ObjOk P w H h a u := by
  rcases r with r | ⟨o, r⟩
  . exact x a u r
  . obtain ⟨_, q⟩ := x a _ r
    exact q
def Mut : Option HO -> Prop
  | some (.lst _) => True
  | some (.dK _) => True
  | some (.dT _) => True
  | some (.set _ _) => True
  | some (.ins _ _ _) => True
  | some (.ext _) => True
  | _ => False
section
variable {P : Program} {w : World} {H : Hp} {h h' : Heap} {x e : Addr} {o' : HO}
theorem HOk.write (ok : HOk P w H h) (mu : Mut (H x)) (he : e = x \/ H e = some (.own x)) (k : ∀ b u, b ≠ e -> h.get? b = some u -> h'.get? b = some u) (heo : ∃ u, h'.get? e = some u)
    (new : ObjOk P w (upd H x o') h' x o') : HOk P w (upd H x o') h' := fun b u q => by
  have nown : ∀ c y, H c = some (.own y) -> c ≠ x := fun c y r z => by subst z; rw [r] at mu; exact mu
  have ntup : ∀ c xs, H c = some (.tup xs) -> c ≠ x := fun c xs r z => by subst z; rw [r] at mu; exact mu
  have nfrz : ∀ c o u, H c = some (.frz o u) -> c ≠ x := fun c o u r z => by subst z; rw [r] at mu; exact mu
  by_cases hb : b = x
  . subst hb; rw [upd_same] at q; cases q; exact new
  . rw [upd_ne hb] at q
    by_cases hbe : b = e
    . have q' : H b = some (.own x) := by
        rcases he with z | z
        . exact absurd (hbe.trans z) hb
        . rw [hbe]; exact z
      rw [q] at q'; cases q'
      obtain ⟨v, hv⟩ := heo
      exact ⟨v, by rw [hbe]; exact hv⟩
    . refine (ok b u q).stay (fun c v hc r => k c v ?_ r) (fun c r => by rw [upd_ne (nown c b r)]; exact r) (fun c xs r => by rw [upd_ne (ntup c xs r)]; exact r) fun c o u r => by rw [upd_ne (nfrz c o u r)]; exact r
      rcases hc with rfl | hc
      . exact hbe
      . rintro rfl
        rcases he with z | z
        . exact nown c b hc z
        . rw [hc] at z; cases z; exact hb rfl
end
structure Un (fs ex : List Addr) (H H' : Hp) (h h' : Heap) : Prop where
  keep : ∀ b o, h.get? b = some o -> H b = none -> b ∉ fs -> b ∉ ex -> h'.get? b = some o
  slot : ∀ b o, h.get? b = some o -> H b = none -> b ∈ fs -> b ∉ ex -> ∃ sl, h'.get? b = some { o with slots := sl }
  free : ∀ b o, h.get? b = some o -> H b = none -> b ∉ ex -> H' b = none
  there : ∀ b o, h.get? b = some o -> b ∉ ex -> ∃ o', h'.get? b = some o'
  tups : ∀ b xs, H b = some (.tup xs) -> H' b = some (.tup xs)
  frzs : ∀ b o u, H b = some (.frz o u) -> H' b = some (.frz o u)
  tbls : ∀ b ps, H b = some (.tbl ps) -> ∃ more : Array Value, H' b = some (.tbl (ps ++ more))
section
variable {fs fs' ex ex' : List Addr} {H H1 H2 : Hp} {h h1 h2 h' : Heap} {a x e : Addr} {o : HO}
theorem Un.any (u : Un fs ex H H1 h h1) {b : Addr} {ob : Obj} (q : h.get? b = some ob) (n : H b = none) (hx : b ∉ ex) : ∃ sl, h1.get? b = some { ob with slots := sl } := by
  by_cases hb : b ∈ fs
  . exact u.slot b ob q n hb hx
  . exact ⟨ob.slots, u.keep b ob q n hb hx⟩
theorem Un.kept (k : ∀ b u, h.get? b = some u -> h'.get? b = some u) : Un fs ex H H h h' :=
  ⟨fun b ob q _ _ _ => k b ob q, fun b ob q _ _ _ => ⟨ob.slots, k b ob q⟩, fun _ _ _ n _ => n, fun b ob q _ => ⟨ob, k b ob q⟩, fun _ _ q => q, fun _ _ _ q => q, fun _ ps q => ⟨#[], by rw [q]; simp⟩⟩
theorem Un.refl : Un fs ex H H h h := Un.kept fun _ _ q => q
theorem Un.laid (k : ∀ b u, h.get? b = some u -> h'.get? b = some u) (hp : h.objs.size <= a) (hn : H a = none) : Un fs ex H (upd H a o) h h' where
  keep := fun b u q _ _ _ => k b u q
  slot := fun b u q _ _ _ => ⟨u.slots, k b u q⟩
  free := fun b u q n _ => by rw [upd_ne (Nat.ne_of_lt (Nat.lt_of_lt_of_le (Heap.lt_size q) hp))]; exact n
  there := fun b u q _ => ⟨u, k b u q⟩
  tups := fun b xs q => by rw [upd_ne (ne_of_none q hn)]; exact q
  frzs := fun b u xs q => by rw [upd_ne (ne_of_none q hn)]; exact q
  tbls := fun b ps q => ⟨#[], by rw [upd_ne (ne_of_none q hn), q]; simp⟩
theorem Un.write (mu : Mut (H x)) (he : e = x \/ H e = some (.own x)) (k : ∀ b u, b ≠ e -> h.get? b = some u -> h'.get? b = some u) (heo : ∃ u, h'.get? e = some u) : Un fs ex H (upd H x o) h h' := by
  have hx : ∀ b, H b = none -> b ≠ x := fun b n z => by subst z; rw [n] at mu; exact mu
  have hb : ∀ b, H b = none -> b ≠ e := fun b n z => by
    subst z
    rcases he with r | r
    . exact hx b n r
    . rw [n] at r; cases r
  have hm : ∀ b u, H b = some u -> ¬ Mut (some u) -> b ≠ x := fun b u q nm z => by subst z; rw [q] at mu; exact nm mu
  refine ⟨fun b u q n _ _ => k b u (hb b n) q, fun b u q n _ _ => ⟨u.slots, k b u (hb b n) q⟩, fun b u q n _ => by rw [upd_ne (hx b n)]; exact n, fun b u q _ => ?_,
    fun b xs q => by rw [upd_ne (hm b _ q fun z => z)]; exact q, fun b u xs q => by rw [upd_ne (hm b _ q fun z => z)]; exact q, fun b ps q => ⟨#[], by rw [upd_ne (hm b _ q fun z => z), q]; simp⟩⟩
  by_cases hbe : b = e
  . subst hbe; exact heo
  . exact ⟨u, k b u hbe q⟩
end
def trk (h : Heap) (H : Hp) : List Addr := (List.range h.objs.size).filter fun a => (H a).isSome
def hidT (h : Heap) (H : Hp) : Heap := PySem.W.hideAll h (trk h H)
theorem hidT_size (h : Heap) (H : Hp) : (hidT h H).objs.size = h.objs.size := PySem.W.hideAll_size _ _
theorem hidT_get {h : Heap} {H : Hp} {b : Addr} {o : Obj} (e : h.get? b = some o) (n : H b = none) : (hidT h H).get? b = some o :=
  PySem.W.hideAll_get _ e fun hm => by
    have q : (H b).isSome = true := (List.mem_filter.mp hm).2
    rw [n] at q; simp at q
theorem of_hidT {h : Heap} {H : Hp} {b : Addr} {o : Obj} (e : (hidT h H).get? b = some o) : h.get? b = some o /\ H b = none := by
  have e' : h.get? b = some o := PySem.W.of_hideAll (trk h H) e
  refine ⟨e', ?_⟩
  cases q : H b with
  | none => rfl
  | some x =>
    have hm : b ∈ trk h H := List.mem_filter.mpr ⟨List.mem_range.mpr (Heap.lt_size e'), by simp [q]⟩
    have z : (hidT h H).get? b = none := PySem.W.hideAll_none (trk h H) hm
    rw [z] at e; cases e
def allNews (g h : Heap) (L : Addr) : List (Addr × Obj) := (List.range h.objs.size).filterMap fun a => if a = L \/ (g.get? a).isSome = true then none else (h.get? a).map fun o => (a, o)
theorem mem_allNews {g h : Heap} {L a : Addr} {o : Obj} (h1 : a ≠ L) (h2 : g.get? a = none) (h3 : h.get? a = some o) : (a, o) ∈ allNews g h L :=
  List.mem_filterMap.mpr ⟨a, List.mem_range.mpr (Heap.lt_size h3), by simp [h1, h2, h3]⟩
theorem of_mem_allNews {g h : Heap} {L : Addr} {p : Addr × Obj} (hp : p ∈ allNews g h L) : p.1 ≠ L /\ g.get? p.1 = none /\ h.get? p.1 = some p.2 := by
  obtain ⟨b, _, e⟩ := List.mem_filterMap.mp hp
  split at e
  . cases e
  . rename_i hn
    cases q : h.get? b with
    | none => rw [q] at e; simp at e
    | some u =>
      rw [q] at e
      simp only [Option.map_some, Option.some.injEq] at e
      subst e
      refine ⟨fun z => hn (.inl z), ?_, q⟩
      show g.get? b = none
      cases r : g.get? b with
      | none => rfl
      | some v => exact (hn (.inr (by simp [r]))).elim
def rest (g h : Heap) (L d : Addr) : List (Addr × Obj) := (allNews g h L).filter fun p => decide (p.1 ≠ d)
theorem news_all {g h : Heap} {L : Addr} : News g L h (allNews g h L) := fun p hp => let ⟨a, b, c⟩ := of_mem_allNews hp; ⟨c, a, b⟩
def BltM (mg : Str -> Option Value) (h : Heap) : Prop := ∃ bm ob, mg "__builtins__" = some (.ref bm) /\ bm ≠ builtinsNs /\ h.get? bm = some ob /\ ob.cls = .type "module" /\ ob.dict = some builtinsNs /\ ob.data = .plain
structure Mod (K : PySem.W.Frag) (mg : Str -> Option Value) (base : Heap) : Prop where
  kin : K.In base
  glob : base.Ns mainGlobals mg
  blt : ∃ mb, base.Ns builtinsNs mb /\ ∀ x : Str, x ≠ "__name__" -> mb x = bootBuiltins x
  nolimit : base.NoLimit
  bm : BltM mg base
structure Cx where
  prog : Program
  w : World
  K : PySem.W.Frag
  mg : Str -> Option Value
  base : Heap
  A : Around
  N : List Str
  s₀ : Shared
  H₀ : Hp
  env : Env
  outer : List Env
  stack : List Env
  ex : List Addr
  fn : Str -> Bool
  calm : Bool
  pn : List (Addr × Obj)
  xe : Value -> Shared -> Prop
def frs (l : List Env) : List Addr := l.filterMap (·.frame)
abbrev Cx.fs (X : Cx) : List Addr := frs X.outer
def Vis (sc : Scope) (x : Str) : Prop := sc.names.lookup x = some .local \/ sc.names.lookup x = some .cell \/ sc.names.lookup x = some .free
def Loc (sc : Scope) (x : Str) : Prop := sc.names.lookup x = some .local \/ sc.names.lookup x = some .cell
def Look (env : Env) (h : Heap) (m : Str -> Option Value) (x : Str) (u : Value) : Prop :=
  (env.kindOf x = some .local /\ m x = some u) \/ ((env.kindOf x = some .cell \/ env.kindOf x = some .free) /\ ∃ c, env.cells.lookup x = some c /\ h.IsCell c (some u))
def lamStmt : Stmt -> Bool
  | .Return (some (.Call _ _ [⟨_, .Lambda _ _ _ _, _⟩] _)) _ => true
  | _ => false
def lamBody : FuncBody -> Bool
  | .stmts ss => ss.any lamStmt
  | _ => false
def lamsIn (K : PySem.W.Frag) : List (Addr × Addr × Str) := K.filterMap fun x => match x.2.data with
  | .func fd => if lamBody fd.body = true then (match fd.code with
      | .ref c => (match K.lookup c with
        | some ⟨_, _, .fields vs, _⟩ => (match (vs[11]? : Option Value) with
          | some (.ref P) => if PySem.W.codeHdIn K c P = true then some (c, P, fd.qualname ++ ".<locals>." ++ "<lambda>") else none
          | _ => none)
        | _ => none)
      | _ => none) else none
  | _ => none
structure Frf (K : PySem.W.Frag) (H : Hp) (fs : List Addr) : Prop where
  f : ∀ b ∈ fs, H b = none
  t : ∀ x ∈ lamsIn K, ∃ ps, H x.2.1 = some (.tbl ⟨x.2.2, ps⟩)
structure Cx.Ok (X : Cx) : Prop where
  mod : Mod X.K X.mg X.base
  kind : X.env.scope.kind = .function
  glob : X.env.globals = mainGlobals
  blt : X.env.builtins = builtinsNs
  above : X.s₀.heap.objs.size <= X.env.locals
  inj : ∀ x y c, X.env.cells.lookup x = some c -> X.env.cells.lookup y = some c -> x = y
  has : ∀ x, (X.env.kindOf x = some .cell \/ X.env.kindOf x = some .free) -> ∃ c, X.env.cells.lookup x = some c
  cab : ∀ x c, X.fn x = true -> X.env.cells.lookup x = some c -> X.s₀.heap.objs.size <= c
  hd : X.calm = true -> X.A.handled = none
  frames : X.A.frames = some X.stack
  stk : X.stack = X.outer \/ (X.stack = X.env :: X.outer /\ X.env.frame = some X.env.locals)
  exf : ∀ b ∈ X.ex, b ≠ X.env.locals /\ ∀ x c, X.env.cells.lookup x = some c -> c ≠ b
  bs : ∀ b o, X.base.get? b = some o -> X.s₀.heap.get? b = some o /\ X.H₀ b = none
  bsz : X.base.objs.size <= X.s₀.heap.objs.size
  noex : ∀ b o, X.base.get? b = some o -> b ∉ X.ex
  exfs : ∀ b ∈ X.ex, b ∉ X.fs
  funs : X.s₀.heap.FunFrames X.base X.outer
  frf : Frf X.K X.H₀ X.fs
structure Inv (X : Cx) (pins : List (Addr × Obj)) (σ : List (Option V)) (H : Hp) (s : Shared) : Prop where
  ok : X.Ok
  os : s.os = X.s₀.os
  bare : AllBare s.gens
  base : Un X.fs X.ex X.H₀ H X.s₀.heap s.heap
  loc : ∃ m, s.heap.Ns X.env.locals m /\ ∀ (i : Nat) (x : Str) (v : V), X.N[i]? = some x -> σ[i]? = some (some v) -> Vis X.env.scope x -> ∃ u, RelV v u /\ Look X.env s.heap m x u
  cell : ∀ x c, X.env.cells.lookup x = some c -> ∃ v, s.heap.IsCell c v
  free : H X.env.locals = none
  freeC : ∀ x c, X.env.cells.lookup x = some c -> H c = none
  pin : ∀ p ∈ X.pn ++ pins, s.heap.get? p.1 = some p.2 /\ H p.1 = none /\ p.1 ≠ X.env.locals /\ p.1 ∉ X.fs /\ ∀ v, p.2.data ≠ .cell v
  hok : HOk X.prog X.w H s.heap
  len : σ.length = X.N.length
section
variable {X : Cx} {pins : List (Addr × Obj)} {σ : List (Option V)} {H H' : Hp} {s : Shared} {h' : Heap}
theorem Cx.Ok.nofr (ok : X.Ok) {b : Addr} {o : Obj} (e : X.base.get? b = some o) : b ∉ X.fs := fun hb => by
  have := (ok.funs.mem hb).1
  rw [e] at this; cases this
theorem Inv.bs (I : Inv X pins σ H s) : ∀ b o, X.base.get? b = some o -> s.heap.get? b = some o /\ H b = none := fun b o e =>
  ⟨I.base.keep b o (I.ok.bs b o e).1 (I.ok.bs b o e).2 (I.ok.nofr e) (I.ok.noex b o e), I.base.free b o (I.ok.bs b o e).1 (I.ok.bs b o e).2 (I.ok.noex b o e)⟩
theorem Inv.bk (I : Inv X pins σ H s) : ∀ b o, X.base.get? b = some o -> s.heap.get? b = some o := fun b o e => (I.bs b o e).1
theorem Inv.mod (I : Inv X pins σ H s) : Mod X.K X.mg X.base := I.ok.mod
theorem Inv.kIn (I : Inv X pins σ H s) : X.K.In s.heap := I.ok.mod.kin.keeps I.bk
theorem Inv.fr (I : Inv X pins σ H s) : ∃ m, Fr X.base X.env.locals s.heap m :=
  let ⟨m, hn, _⟩ := I.loc
  ⟨m, hn, I.bk, Nat.le_trans I.ok.bsz I.ok.above⟩
theorem Inv.lt (I : Inv X pins σ H s) : X.env.locals < s.heap.objs.size := let ⟨_, hn, _⟩ := I.loc; hn.lt
theorem Inv.sz (I : Inv X pins σ H s) : X.s₀.heap.objs.size <= s.heap.objs.size := Nat.le_trans I.ok.above (Nat.le_of_lt I.lt)
theorem Inv.nofs (I : Inv X pins σ H s) {a : Addr} (h : s.heap.objs.size <= a) : a ∉ X.fs := fun hb => by
  obtain ⟨_, o, ho, _⟩ := I.ok.funs.mem hb
  exact absurd (Nat.lt_of_lt_of_le (Heap.lt_size ho) (Nat.le_trans I.sz h)) (Nat.lt_irrefl _)
theorem Inv.cne (I : Inv X pins σ H s) : ∀ x c, X.env.cells.lookup x = some c -> c ≠ X.env.locals := fun x c e z => by
  obtain ⟨v, o, ho, hd⟩ := I.cell x c e
  obtain ⟨m, ⟨o', es, ep, ho', hd', _⟩, _⟩ := I.loc
  rw [z, ho'] at ho; cases ho; rw [hd'] at hd; cases hd
theorem Inv.funs (I : Inv X pins σ H s) : s.heap.FunFrames X.base X.outer := by
  have all : ∀ (l : List Env), (∀ b ∈ frs l, b ∈ X.fs) -> X.s₀.heap.FunFrames X.base l -> s.heap.FunFrames X.base l := by
    intro l
    induction l with
    | nil => intro _ _; trivial
    | cons env r ih =>
      intro hs hl
      obtain ⟨hk, ⟨L, o, hf, hn, ho, hd⟩, hr⟩ := hl
      have hL : L ∈ X.fs := hs L (by unfold frs; rw [List.filterMap_cons, hf]; exact List.mem_cons_self)
      obtain ⟨sl, e⟩ := I.base.slot L o ho (I.ok.frf.f L hL) hL fun z => I.ok.exfs L z hL
      exact ⟨hk, ⟨L, _, hf, hn, e, hd⟩, ih (fun b hb => hs b (by unfold frs; rw [List.filterMap_cons, hf]; exact List.mem_cons_of_mem _ hb)) hr⟩
  exact all X.outer (fun _ hb => hb) I.ok.funs
theorem Inv.stack (I : Inv X pins σ H s) : s.heap.FunFrames X.base X.stack := by
  rcases I.ok.stk with e | ⟨e, hf⟩
  . rw [e]; exact I.funs
  . rw [e]
    obtain ⟨m, hn, _⟩ := I.loc
    refine .cons (by rw [I.ok.kind]; decide) hf hn ?_ I.funs
    exact Heap.get?_none_of_le (Nat.le_trans I.ok.bsz I.ok.above)
theorem Inv.stkSub (I : Inv X pins σ H s) : ∀ b ∈ frs X.stack, b ∈ X.env.locals :: X.fs := fun b hb => by
  rcases I.ok.stk with e | ⟨e, hf⟩
  . rw [e] at hb; exact List.mem_cons_of_mem _ hb
  . rw [e] at hb
    unfold frs at hb
    rw [List.filterMap_cons, hf] at hb
    exact hb
theorem Inv.stkFree (I : Inv X pins σ H s) : ∀ b ∈ frs X.stack, H b = none := fun b hb => by
  rcases List.mem_cons.mp (I.stkSub b hb) with e | hb
  . rw [e]; exact I.free
  . obtain ⟨_, o, ho, _⟩ := I.ok.funs.mem hb
    exact I.base.free b o ho (I.ok.frf.f b hb) fun z => I.ok.exfs b z hb
theorem Inv.step {g' : Array GenState} {t' : Nat} {d' : Drawn} {ch : List Addr} (I : Inv X pins σ H s)
    (hch : ∀ b ∈ ch, (b ∈ X.ex \/ X.s₀.heap.objs.size <= b) /\ b ≠ X.env.locals /\ (∀ x c, X.env.cells.lookup x = some c -> c ≠ b) /\ ∀ p ∈ X.pn ++ pins, p.1 ≠ b)
    (keep : ∀ b o, b ≠ X.env.locals -> b ∉ X.fs -> b ∉ ch -> s.heap.get? b = some o -> H b = none -> h'.get? b = some o)
    (slot : ∀ b o, b ≠ X.env.locals -> b ∈ X.fs -> b ∉ ch -> s.heap.get? b = some o -> H b = none -> ∃ sl, h'.get? b = some { o with slots := sl }) (free : ∀ b o, b ∉ ch -> s.heap.get? b = some o -> H b = none -> H' b = none)
    (there : ∀ b o, b ∉ ch -> s.heap.get? b = some o -> ∃ o', h'.get? b = some o')
    (tups : ∀ b xs, H b = some (.tup xs) -> H' b = some (.tup xs)) (frzs : ∀ b o u, H b = some (.frz o u) -> H' b = some (.frz o u)) (tbls : ∀ b ps, H b = some (.tbl ps) -> ∃ more : Array Value, H' b = some (.tbl (ps ++ more)))
    (ns : ∀ m, s.heap.Ns X.env.locals m -> h'.Ns X.env.locals m) (hok : HOk X.prog X.w H' h') (hg : AllBare g') :
    Inv X pins σ H' { s with heap := h', gens := g', drawn := d', toks := t' } := by
  have neL : ∀ b o, X.s₀.heap.get? b = some o -> b ≠ X.env.locals := fun b o e => Nat.ne_of_lt (Nat.lt_of_lt_of_le (Heap.lt_size e) I.ok.above)
  have neC : ∀ b o, X.s₀.heap.get? b = some o -> b ∉ X.ex -> b ∉ ch := fun b o e hx hb => by
    rcases (hch b hb).1 with z | z
    . exact hx z
    . exact absurd (Nat.lt_of_lt_of_le (Heap.lt_size e) z) (Nat.lt_irrefl _)
  have cellK : ∀ x c, X.env.cells.lookup x = some c -> ∀ v, s.heap.IsCell c v -> h'.IsCell c v := fun x c e v ⟨o, ho, hd⟩ => by
    have nch : c ∉ ch := fun z => (hch c z).2.2.1 x c e rfl
    by_cases hc : c ∈ X.fs
    . obtain ⟨sl, q⟩ := slot c o (I.cne x c e) hc nch ho (I.freeC x c e)
      exact ⟨_, q, hd⟩
    . exact ⟨o, keep c o (I.cne x c e) hc nch ho (I.freeC x c e), hd⟩
  refine ⟨I.ok, I.os, hg, ⟨fun b o e n hb hx => ?_, fun b o e n hb hx => ?_, fun b o e n hx => ?_, fun b o e hx => ?_, fun b xs e => tups b xs (I.base.tups b xs e), fun b o xs e => frzs b o xs (I.base.frzs b o xs e), fun b ps e => ?_⟩, ?_, fun x c e => ?_, ?_, fun x c e => ?_, fun p hp => ?_, hok, I.len⟩
  . exact keep b o (neL b o e) hb (neC b o e hx) (I.base.keep b o e n hb hx) (I.base.free b o e n hx)
  . obtain ⟨sl, e1⟩ := I.base.slot b o e n hb hx
    obtain ⟨sl', e2⟩ := slot b _ (neL b o e) hb (neC b o e hx) e1 (I.base.free b o e n hx)
    exact ⟨sl', e2⟩
  . obtain ⟨o', e1⟩ := I.base.there b o e hx
    exact free b o' (neC b o e hx) e1 (I.base.free b o e n hx)
  . obtain ⟨o', e1⟩ := I.base.there b o e hx
    exact there b o' (neC b o e hx) e1
  . obtain ⟨m1, e1⟩ := I.base.tbls b ps e
    obtain ⟨m2, e2⟩ := tbls b _ e1
    exact ⟨m1 ++ m2, by rw [e2, TabD.append_assoc]⟩
  . obtain ⟨m, hn, hl⟩ := I.loc
    refine ⟨m, ns m hn, fun i x v e1 e2 e3 => ?_⟩
    obtain ⟨u, r, l⟩ := hl i x v e1 e2 e3
    refine ⟨u, r, ?_⟩
    rcases l with l | ⟨k, c, e, z⟩
    . exact .inl l
    . exact .inr ⟨k, c, e, cellK x c e _ z⟩
  . obtain ⟨v, z⟩ := I.cell x c e
    exact ⟨v, cellK x c e v z⟩
  . obtain ⟨m, ⟨o, _, _, ho, _⟩, _⟩ := I.loc
    exact free _ o (fun z => (hch _ z).2.1 rfl) ho I.free
  . obtain ⟨v, o, ho, hd⟩ := I.cell x c e
    exact free c o (fun z => (hch c z).2.2.1 x c e rfl) ho (I.freeC x c e)
  . obtain ⟨e, n, ne, nf, d⟩ := I.pin p hp
    have nch : p.1 ∉ ch := fun z => (hch p.1 z).2.2.2 p hp rfl
    exact ⟨keep p.1 p.2 ne nf nch e n, free p.1 p.2 nch e n, ne, nf, d⟩
theorem Inv.un {t' : Nat} (I : Inv X pins σ H s) (u : Un X.fs [] H H' s.heap h') (hok : HOk X.prog X.w H' h') : Inv X pins σ H' { s with heap := h', toks := t' } := by
  obtain ⟨m, ⟨o, es, ep, ho, r⟩, _⟩ := id I.loc
  obtain ⟨sl, hL⟩ := u.any ho I.free (by simp)
  exact I.step (g' := s.gens) (d' := s.drawn) (ch := []) (fun _ z => nomatch z) (fun b o _ hb _ e n => u.keep b o e n hb (by simp)) (fun b o _ hb _ e n => u.slot b o e n hb (by simp)) (fun b o _ e n => u.free b o e n (by simp)) (fun b o _ e => u.there b o e (by simp)) u.tups u.frzs u.tbls (fun m' hm => by
    obtain ⟨o', es', ep', ho', r'⟩ := hm
    rw [ho] at ho'; cases ho'
    exact ⟨_, es', ep', hL, r'⟩) hok I.bare
theorem Inv.call {g' : Array GenState} {t' : Nat} {d' : Drawn} {ch : List Addr} (I : Inv X pins σ H s) (u : Un (frs X.stack) ch H H' s.heap h') (hok : HOk X.prog X.w H' h') (hg : AllBare g')
    (hch : ∀ b ∈ ch, (b ∈ X.ex \/ X.s₀.heap.objs.size <= b) /\ b ≠ X.env.locals /\ (∀ x c, X.env.cells.lookup x = some c -> c ≠ b) /\ ∀ p ∈ X.pn ++ pins, p.1 ≠ b) :
    Inv X pins σ H' { s with heap := h', gens := g', drawn := d', toks := t' } := by
  obtain ⟨m, ⟨o, es, ep, ho, r⟩, _⟩ := id I.loc
  obtain ⟨sl, hL⟩ := u.any ho I.free fun z => (hch _ z).2.1 rfl
  exact I.step (ch := ch) hch (fun b o hL hb hc e n => u.keep b o e n (fun z => (List.mem_cons.mp (I.stkSub b z)).elim hL hb) hc) (fun b o _ _ hc e n => u.any e n hc) (fun b o hc e n => u.free b o e n hc) (fun b o hc e => u.there b o e hc) u.tups u.frzs u.tbls (fun m' hm => by
    obtain ⟨o', es', ep', ho', r'⟩ := hm
    rw [ho] at ho'; cases ho'
    exact ⟨_, es', ep', hL, r'⟩) hok hg
theorem Inv.turned {t' : Nat} {it : Addr} (I : Inv X pins σ H s) (k : ∀ b o, b ≠ it -> s.heap.get? b = some o -> h'.get? b = some o) (hn : H it = none) (hL : it ≠ X.env.locals)
    (h1 : it ∈ X.ex \/ X.s₀.heap.objs.size <= it) (h2 : ∀ x c, X.env.cells.lookup x = some c -> c ≠ it) (h3 : ∀ p ∈ X.pn ++ pins, p.1 ≠ it) : Inv X pins σ H { s with heap := h', toks := t' } := by
  have nit : ∀ b u, H b = some u -> b ≠ it := fun b u e z => by rw [z, hn] at e; cases e
  refine I.step (g' := s.gens) (d' := s.drawn) (ch := [it]) (fun b hb => ?_) (fun b o _ _ hc e _ => k b o (fun z => hc (by simp [z])) e) (fun b o _ _ hc e _ => ⟨o.slots, k b o (fun z => hc (by simp [z])) e⟩) (fun _ _ _ _ n => n)
    (fun b o hc e => ⟨o, k b o (fun z => hc (by simp [z])) e⟩) (fun _ _ e => e) (fun _ _ _ e => e) (fun b ps e => ⟨#[], by rw [e]; simp⟩) (fun m hm => ?_) (fun b u e => ?_) I.bare
  . have e : b = it := by simpa using hb
    subst e
    exact ⟨h1, hL, h2, h3⟩
  . obtain ⟨o, es, ep, ho, r⟩ := hm
    exact ⟨o, es, ep, k _ o (Ne.symm hL) ho, r⟩
  . refine (I.hok b u e).stay (fun c v hc q => k c v ?_ q) (fun _ q => q) fun _ _ q => q
    rcases hc with z | z
    . rw [z]; exact nit b u e
    . exact nit c _ z
theorem Inv.tok (I : Inv X pins σ H s) (t : Nat) : Inv X pins σ H { s with toks := t } := I.un (h' := s.heap) (t' := t) Un.refl I.hok
theorem Inv.kept {t' : Nat} (I : Inv X pins σ H s) (k : ∀ b u, s.heap.get? b = some u -> h'.get? b = some u) : Inv X pins σ H { s with heap := h', toks := t' } := I.un (Un.kept k) (I.hok.kept k)
theorem Inv.laid {a : Addr} {o : HO} {t' : Nat} (I : Inv X pins σ H s) (k : ∀ b u, s.heap.get? b = some u -> h'.get? b = some u) (hp : s.heap.objs.size <= a) (new : ObjOk X.prog X.w (upd H a o) h' a o) :
    Inv X pins σ (upd H a o) { s with heap := h', toks := t' } := I.un (Un.laid k hp (I.hok.fresh hp)) (I.hok.laid k hp new)
theorem Inv.write {x e : Addr} {o : HO} {t' : Nat} (I : Inv X pins σ H s) (mu : Mut (H x)) (he : e = x \/ H e = some (.own x)) (k : ∀ b u, b ≠ e -> s.heap.get? b = some u -> h'.get? b = some u) (heo : ∃ u, h'.get? e = some u)
    (new : ObjOk X.prog X.w (upd H x o) h' x o) : Inv X pins σ (upd H x o) { s with heap := h', toks := t' } := I.un (Un.write mu he k heo) (I.hok.write mu he k heo new)
theorem Inv.weak {σ' : List (Option V)} (I : Inv X pins σ H s) (hl : σ'.length = σ.length) (w : ∀ (i : Nat) v, σ'[i]? = some (some v) -> σ[i]? = some (some v)) : Inv X pins σ' H s :=
  ⟨I.ok, I.os, I.bare, I.base, let ⟨m, hn, hl'⟩ := I.loc; ⟨m, hn, fun i x v e1 e2 e3 => hl' i x v e1 (w i v e2) e3⟩, I.cell, I.free, I.freeC, I.pin, I.hok, hl.trans I.len⟩
theorem Inv.pins_of {pins' : List (Addr × Obj)} (I : Inv X pins σ H s) (h : ∀ p ∈ pins', s.heap.get? p.1 = some p.2 /\ H p.1 = none /\ p.1 ≠ X.env.locals /\ p.1 ∉ X.fs /\ ∀ v, p.2.data ≠ .cell v) : Inv X pins' σ H s :=
  ⟨I.ok, I.os, I.bare, I.base, I.loc, I.cell, I.free, I.freeC, fun p hp => (List.mem_append.mp hp).elim (fun z => I.pin p (List.mem_append_left _ z)) (h p), I.hok, I.len⟩
theorem nodup_ix {N : List Str} (hN : N.Nodup) {i j : Nat} {x : Str} (a : N[i]? = some x) (b : N[j]? = some x) : i = j := by
  obtain ⟨h1, e1⟩ := List.getElem?_eq_some_iff.mp a
  obtain ⟨h2, e2⟩ := List.getElem?_eq_some_iff.mp b
  exact (List.getElem_inj hN).mp (e1.trans e2.symm)
theorem store_ok2 {M : Model} {A : Around} {E : Value -> Shared -> Prop} {i : Nat} {x : Str} {v : V} {u : Value} {Q : Unit -> Shared -> Prop} (I : Inv X pins σ H s) (hN : X.N.Nodup) (hi : X.N[i]? = some x) (hx : Loc X.env.scope x) (r : RelV v u)
    (h : ∀ s', Inv X pins (σ.set i (some v)) H s' -> (∃ a, Heap.SameBut a s.heap s'.heap /\ (a = X.env.locals \/ X.env.cells.lookup x = some a)) -> Q () s') (hf : X.fn x = true \/ X.env.scope.names.lookup x = some .local := by first | exact .inl rfl | exact .inr rfl | assumption) : wpAny M A (storeName X.env x u) Q E s := by
  obtain ⟨m, hn, hl⟩ := id I.loc
  have hcls : (X.env.scope.kind == .class || (X.env.scope.kind == .module && X.env.locals != X.env.globals)) = false := by rw [I.ok.kind]; rfl
  have hiσ : i < σ.length := by rw [I.len]; exact (List.getElem?_eq_some_iff.mp hi).1
  have cne := I.cne
  have tracked : ∀ {a : Addr} {h' : Heap}, (∃ o, s.heap.get? a = some o /\ H a = none) -> Heap.SameBut a s.heap h' -> HOk X.prog X.w H h' := fun {a h'} ha hs b ob e => by
    obtain ⟨_, _, hfree⟩ := ha
    refine (I.hok b ob e).stay (fun c w' hc q => (hs.2 c ?_).trans q) (fun _ q => q) fun _ _ q => q
    rintro rfl
    rcases hc with rfl | hc
    . rw [hfree] at e; cases e
    . rw [hfree] at hc; cases hc
  rcases hx with hk | hk
  . refine wpAny_storeName_local hk hn (fun h' hn' hs => ?_) hcls
    obtain ⟨oL, _, _, hoL, _⟩ := id hn
    refine h _ ⟨I.ok, I.os, I.bare, ⟨fun b o e n hb hx => ?_, fun b o e n hb hx => ?_, I.base.free, fun b o e hx => ?_, I.base.tups, I.base.frzs, I.base.tbls⟩, ⟨_, hn', fun j y v' e1 e2 e3 => ?_⟩, fun y c e => ?_, I.free, I.freeC, fun p hp => ?_, tracked ⟨oL, hoL, I.free⟩ hs, by simpa using I.len⟩ ⟨_, hs, .inl rfl⟩
    . exact (hs.2 b (Nat.ne_of_lt (Nat.lt_of_lt_of_le (Heap.lt_size e) I.ok.above))).trans (I.base.keep b o e n hb hx)
    . obtain ⟨sl, e1⟩ := I.base.slot b o e n hb hx
      exact ⟨sl, (hs.2 b (Nat.ne_of_lt (Nat.lt_of_lt_of_le (Heap.lt_size e) I.ok.above))).trans e1⟩
    . obtain ⟨o', e1⟩ := I.base.there b o e hx
      exact ⟨o', (hs.2 b (Nat.ne_of_lt (Nat.lt_of_lt_of_le (Heap.lt_size e) I.ok.above))).trans e1⟩
    . by_cases hj : j = i
      . subst hj
        rw [hi] at e1; cases e1
        rw [List.getElem?_set_self hiσ] at e2
        cases e2
        exact ⟨u, r, .inl ⟨hk, by simp⟩⟩
      . rw [List.getElem?_set_ne (Ne.symm hj)] at e2
        obtain ⟨u', r', q⟩ := hl j y v' e1 e2 e3
        refine ⟨u', r', ?_⟩
        rcases q with ⟨k, e⟩ | ⟨k, c, e, z⟩
        . refine .inl ⟨k, ?_⟩
          have : y ≠ x := fun e => hj (nodup_ix hN e1 (e ▸ hi))
          simp [this, e]
        . exact .inr ⟨k, c, e, z.sameBut hs (cne y c e)⟩
    . obtain ⟨w', z⟩ := I.cell y c e
      exact ⟨w', z.sameBut hs (cne y c e)⟩
    . obtain ⟨e, n, ne, nf, d⟩ := I.pin p hp
      exact ⟨(hs.2 p.1 ne).trans e, n, ne, nf, d⟩
  . have hfn : X.fn x = true := by
      rcases hf with z | z
      . exact z
      . rw [z] at hk; cases hk
    obtain ⟨c, hc⟩ := I.ok.has x (.inl hk)
    obtain ⟨w', z⟩ := I.cell x c hc
    refine wpAny_storeName_cell I.ok.kind hk hc z (fun h' hc' hs => ?_)
    obtain ⟨oc, hoc, hocd⟩ := id z
    refine h { s with heap := h' } ⟨I.ok, I.os, I.bare, ⟨fun b o e n hb hx => ?_, fun b o e n hb hx => ?_, I.base.free, fun b o e hx => ?_, I.base.tups, I.base.frzs, I.base.tbls⟩, ⟨m, hn.sameBut hs (Ne.symm (cne x c hc)), fun j y v' e1 e2 e3 => ?_⟩, fun y c' e => ?_, I.free, I.freeC, fun p hp => ?_, tracked ⟨oc, hoc, I.freeC x c hc⟩ hs, by simpa using I.len⟩ ⟨c, hs, .inr hc⟩
    . exact (hs.2 b (Nat.ne_of_lt (Nat.lt_of_lt_of_le (Heap.lt_size e) (I.ok.cab x c hfn hc)))).trans (I.base.keep b o e n hb hx)
    . obtain ⟨sl, e1⟩ := I.base.slot b o e n hb hx
      exact ⟨sl, (hs.2 b (Nat.ne_of_lt (Nat.lt_of_lt_of_le (Heap.lt_size e) (I.ok.cab x c hfn hc)))).trans e1⟩
    . obtain ⟨o', e1⟩ := I.base.there b o e hx
      exact ⟨o', (hs.2 b (Nat.ne_of_lt (Nat.lt_of_lt_of_le (Heap.lt_size e) (I.ok.cab x c hfn hc)))).trans e1⟩
    . by_cases hj : j = i
      . subst hj
        rw [hi] at e1; cases e1
        rw [List.getElem?_set_self hiσ] at e2
        cases e2
        exact ⟨u, r, .inr ⟨.inl hk, c, hc, hc'⟩⟩
      . rw [List.getElem?_set_ne (Ne.symm hj)] at e2
        obtain ⟨u', r', q⟩ := hl j y v' e1 e2 e3
        refine ⟨u', r', ?_⟩
        rcases q with q | ⟨k, c', e, z'⟩
        . exact .inl q
        . refine .inr ⟨k, c', e, z'.sameBut hs ?_⟩
          rintro rfl
          exact hj (nodup_ix hN e1 (I.ok.inj _ _ _ e hc ▸ hi))
    . by_cases hcc : c' = c
      . subst hcc; exact ⟨_, hc'⟩
      . obtain ⟨w2, z2⟩ := I.cell y c' e
        exact ⟨w2, z2.sameBut hs hcc⟩
    . obtain ⟨e, n, ne, nf, d⟩ := I.pin p hp
      refine ⟨(hs.2 p.1 ?_).trans e, n, ne, nf, d⟩
      intro q
      rw [q, hoc] at e
      have q' : oc = p.2 := Option.some.inj e
      exact d w' (by rw [<- q']; exact hocd)
theorem store_ok {M : Model} {A : Around} {E : Value -> Shared -> Prop} {i : Nat} {x : Str} {v : V} {u : Value} {Q : Unit -> Shared -> Prop} (I : Inv X pins σ H s) (hN : X.N.Nodup) (hi : X.N[i]? = some x) (hx : Loc X.env.scope x) (r : RelV v u)
    (h : ∀ s', Inv X pins (σ.set i (some v)) H s' -> Q () s') (hf : X.fn x = true \/ X.env.scope.names.lookup x = some .local := by first | exact .inl rfl | exact .inr rfl | assumption) : wpAny M A (storeName X.env x u) Q E s :=
  store_ok2 I hN hi hx r (fun s' I' _ => h s' I') hf
theorem Inv.call' {s' : Shared} {ch : List Addr} (I : Inv X pins σ H s) (ho : s'.os = s.os) (u : Un (frs X.stack) ch H H' s.heap s'.heap) (hok : HOk X.prog X.w H' s'.heap) (hg : AllBare s'.gens)
    (hch : ∀ b ∈ ch, (b ∈ X.ex \/ X.s₀.heap.objs.size <= b) /\ b ≠ X.env.locals /\ (∀ x c, X.env.cells.lookup x = some c -> c ≠ b) /\ ∀ p ∈ X.pn ++ pins, p.1 ≠ b) : Inv X pins σ H' s' := by
  obtain ⟨h', g', d', t', o'⟩ := s'
  have e : o' = s.os := ho
  subst e
  exact I.call (g' := g') (t' := t') (d' := d') u hok hg hch
end
abbrev XK := Value -> Option Addr -> Hp -> Prop
abbrev St := List (Option V)
abbrev VK := V -> Hp -> Prop
abbrev TE := St -> Hp -> VK -> Prop
abbrev TT := St -> Hp -> (Bool -> Hp -> Prop) -> Prop
abbrev TA := St -> Hp -> (List V -> Hp -> Prop) -> Prop
structure Ends where
  nx : St -> Hp -> Prop
  rt : VK
  bk : St -> Hp -> Prop := fun _ _ => False
  ct : St -> Hp -> Prop := fun _ _ => False
abbrev TS := Ends -> St -> Hp -> Prop
def EP (X : Cx) (pins : List (Addr × Obj)) (σ : St) (Q : VK) (u : Value) (s' : Shared) : Prop := ∃ v H', Inv X pins σ H' s' /\ RelV v u /\ Q v H'
def TP (X : Cx) (pins : List (Addr × Obj)) (σ : St) (Q : Bool -> Hp -> Prop) (b : Bool) (s' : Shared) : Prop := ∃ H', Inv X pins σ H' s' /\ Q b H'
def AP (X : Cx) (pins : List (Addr × Obj)) (σ : St) (Q : List V -> Hp -> Prop) (us : List Value) (s' : Shared) : Prop := ∃ vs H', Inv X pins σ H' s' /\ Vals vs us /\ Q vs H'
def SP (X : Cx) (pins : List (Addr × Obj)) (D : Ends) (f : Flow) (s' : Shared) : Prop :=
  match f with
  | .next => ∃ σ' H', Inv X pins σ' H' s' /\ D.nx σ' H'
  | .brk => ∃ σ' H', Inv X pins σ' H' s' /\ D.bk σ' H'
  | .cont => ∃ σ' H', Inv X pins σ' H' s' /\ D.ct σ' H'
  | .ret u => ∃ v σ' H', Inv X pins σ' H' s' /\ RelV v u /\ D.rt v H'
def PE (X : Cx) (e : Expr) (t : TE) : Prop :=
  ∀ (pins : List (Addr × Obj)) (s : Shared) (σ : St) (H : Hp) (Q : VK), Inv X pins σ H s -> t σ H Q -> wpAny (model X.prog X.w) X.A (eval e X.env) (EP X pins σ Q) X.xe s
def PT (X : Cx) (e : Expr) (t : TT) : Prop :=
  ∀ (pins : List (Addr × Obj)) (s : Shared) (σ : St) (H : Hp) (Q : Bool -> Hp -> Prop), Inv X pins σ H s -> t σ H Q -> wpAny (model X.prog X.w) X.A (isTrue e X.env (eval e X.env)) (TP X pins σ Q) X.xe s
def PW (X : Cx) (e : Expr) (t : TT) : Prop :=
  ∀ (whole : Sem Value) (pins : List (Addr × Obj)) (s : Shared) (σ : St) (H : Hp) (Q : Bool -> Hp -> Prop), Inv X pins σ H s -> t σ H Q -> wpAny (model X.prog X.w) X.A (isTrue e X.env whole) (TP X pins σ Q) X.xe s
theorem PW.pt {X : Cx} {e : Expr} {t : TT} (h : PW X e t) : PT X e t := h _
def PA (X : Cx) (es : List Expr) (t : TA) : Prop :=
  ∀ (pos : Pos) (pins : List (Addr × Obj)) (s : Shared) (σ : St) (H : Hp) (Q : List V -> Hp -> Prop), Inv X pins σ H s -> t σ H Q -> wpAny (model X.prog X.w) X.A (spliced (backTo pos (starEach es X.env))) (AP X pins σ Q) X.xe s
def PS (X : Cx) (st : Stmt) (t : TS) : Prop :=
  ∀ (pins : List (Addr × Obj)) (s : Shared) (σ : St) (H : Hp) (D : Ends), Inv X pins σ H s -> t D σ H -> wpAny (model X.prog X.w) X.A (exec st X.env) (SP X pins D) X.xe s
def PSs (X : Cx) (st : List Stmt) (t : TS) : Prop :=
  ∀ (pins : List (Addr × Obj)) (s : Shared) (σ : St) (H : Hp) (D : Ends), Inv X pins σ H s -> t D σ H -> wpAny (model X.prog X.w) X.A (execs st X.env) (SP X pins D) X.xe s
theorem thn {α : Type} {t : Sem α} {Q Q' : α -> Shared -> Prop} {M : Model} {A : Around} {E : Value -> Shared -> Prop} {s : Shared} (h : wpAny M A t Q E s) (hQ : ∀ a s, Q a s -> Q' a s) : wpAny M A t Q' E s := wpAny_mono h hQ fun _ _ x => x
section
variable {X : Cx}
def tVar (i : Nat) : TE := fun σ H Q => ∃ v, σ[i]? = some (some v) /\ Q v H
def tC (v : V) : TE := fun _ H Q => Q v H
theorem pe_var {i : Nat} {x : Str} {pos : Pos} (hN : X.N[i]? = some x) (hv : Vis X.env.scope x) (hd : (x == ("__debug__" : Str)) = false := by decide) (hcd : (x == ("__classdict__" : Str)) = false := by decide) : PE X (.Name x pos) (tVar i) := by
  intro pins s σ H Q I h
  obtain ⟨v, e, h⟩ := h
  obtain ⟨m, hn, hl⟩ := I.loc
  obtain ⟨u, r, l⟩ := hl i x v hN e hv
  have fin : EP X pins σ Q u s := ⟨v, H, I, r, h⟩
  rcases l with ⟨hk, hm⟩ | ⟨hk, c, hc, hcell⟩
  . exact wpAny_Name (wpAny_loadName_local I.ok.kind hk hn hm fin) hd
  . rcases hk with hk | hk
    . exact wpAny_Name (wpAny_loadName_cell I.ok.kind hk hc hcell fin) hd
    . exact wpAny_Name (wpAny_loadName_free I.ok.kind hk hc hcell fin hcd) hd
theorem pe_int {i j pos} : PE X (.Constant (.int i) j pos) (tC (.int i)) := fun _ _ _ H _ I h => wpAny_Constant_int ⟨.int i, H, I.tok _, ⟨_, rfl⟩, h⟩
theorem pe_bl {b j pos} : PE X (.Constant (.bool b) j pos) (tC (.bl b)) := fun _ _ _ H _ I h => Constant_bool ⟨.bl b, H, I, rfl, h⟩
theorem pe_str {x j pos} : PE X (.Constant (.str x) j pos) (tC (.str x)) := fun _ _ _ H _ I h => Calls.Constant_str ⟨.str x, H, I.tok _, ⟨_, rfl⟩, h⟩
def Gl (X : Cx) (x : Str) : Prop := X.env.kindOf x = some .globalImplicit
theorem ld_glob {E : Value -> Shared -> Prop} {pins : List (Addr × Obj)} {s : Shared} {σ : St} {H : Hp} {x : Str} {u : Value} {pos : Pos} {Q : Value -> Shared -> Prop} (I : Inv X pins σ H s) (hg : Gl X x) (hm : X.mg x = some u) (h : Q u s)
    (hd : (x == ("__debug__" : Str)) = false := by decide) : wpAny (model X.prog X.w) X.A (eval (.Name x pos) X.env) Q E s :=
  Calls.Name_function_global I.ok.kind hg (Calls.loadGlobal_global (by rw [I.ok.glob]; exact I.mod.glob.keeps I.bk) hm h) hd
theorem ld_blt {E : Value -> Shared -> Prop} {pins : List (Addr × Obj)} {s : Shared} {σ : St} {H : Hp} {x : Str} {u : Value} {pos : Pos} {Q : Value -> Shared -> Prop} (I : Inv X pins σ H s) (hg : Gl X x) (hm : X.mg x = none) (hv : bootBuiltins x = some u) (h : Q u s)
    (hn : x ≠ "__name__" := by decide) (hd : (x == ("__debug__" : Str)) = false := by decide) : wpAny (model X.prog X.w) X.A (eval (.Name x pos) X.env) Q E s := by
  obtain ⟨mb, h1, h2⟩ := I.mod.blt
  exact Calls.Name_function_global I.ok.kind hg (Calls.loadGlobal_builtin (by rw [I.ok.glob]; exact I.mod.glob.keeps I.bk) hm (by rw [I.ok.blt]; exact h1.keeps I.bk) ((h2 x hn).trans hv) h) hd
theorem pe_glob {x : Str} {v : V} {u : Value} {pos : Pos} (hg : Gl X x) (hm : X.mg x = some u) (r : RelV v u) (hd : (x == ("__debug__" : Str)) = false := by decide) : PE X (.Name x pos) (tC v) :=
  fun _ _ _ H _ I h => ld_glob I hg hm ⟨v, H, I, r, h⟩ hd
theorem pe_bltn {x : Str} {v : V} {u : Value} {pos : Pos} (hg : Gl X x) (hm : X.mg x = none) (hv : bootBuiltins x = some u) (r : RelV v u) (hn : x ≠ "__name__" := by decide) (hd : (x == ("__debug__" : Str)) = false := by decide) : PE X (.Name x pos) (tC v) :=
  fun _ _ _ H _ I h => ld_blt I hg hm hv ⟨v, H, I, r, h⟩ hn hd
variable {a b : Expr} {ta tb : TE} {pos : Pos}
def tB (t : TE) : TT := fun σ H Q => t σ H fun x H1 => ∃ c, x = .bl c /\ Q c H1
theorem pt_val {e : Expr} {t : TE} (h : PE X e t) (he : ∀ whole, isTrue e X.env whole = (do let v <- whole; standAt e.pos; holding [v] (truthy v)) := by intro _; rfl) : PT X e (tB t) := by
  intro pins s σ H Q I hw
  refine isTrue_plain (thn (h pins s σ H _ I hw) fun v s1 ⟨x, H1, I1, r1, q1⟩ => ?_) (he _)
  obtain ⟨d, rfl, q⟩ := q1
  cases r1
  exact wpAny_truthy_bool ⟨H1, I1, q⟩
variable {tA tB' : TT} {rest : List Expr}
def tAnd (t u : TT) : TT := fun σ H Q => t σ H fun c H1 => if c = true then u σ H1 Q else Q false H1
def tOr (t u : TT) : TT := fun σ H Q => t σ H fun c H1 => if c = true then Q true H1 else u σ H1 Q
def tNot (t : TT) : TT := fun σ H Q => t σ H fun c H1 => Q (!c) H1
theorem pw_and1 (ha : PT X a tA) : PW X (.BoolOp .And [a] pos) tA := by
  intro wh pins s σ H Q I h
  refine isTrue_and (thn (ha pins s σ H Q I h) fun c s1 e => ?_)
  cases c with
  | true => exact isTrue_and_nil e
  | false => exact e
theorem pw_or1 (ha : PT X a tA) : PW X (.BoolOp .Or [a] pos) tA := by
  intro wh pins s σ H Q I h
  refine isTrue_or (thn (ha pins s σ H Q I h) fun c s1 e => ?_)
  cases c with
  | false => exact isTrue_or_nil e
  | true => exact e
theorem pw_and (ha : PT X a tA) (hb : PW X (.BoolOp .And (b :: rest) pos) tB') : PW X (.BoolOp .And (a :: b :: rest) pos) (tAnd tA tB') := by
  intro wh pins s σ H Q I h
  refine isTrue_and (thn (ha pins s σ H _ I h) fun c s1 ⟨H1, I1, q1⟩ => ?_)
  cases c with
  | true => exact hb wh pins s1 σ H1 Q I1 q1
  | false => exact ⟨H1, I1, q1⟩
theorem pw_or (ha : PT X a tA) (hb : PW X (.BoolOp .Or (b :: rest) pos) tB') : PW X (.BoolOp .Or (a :: b :: rest) pos) (tOr tA tB') := by
  intro wh pins s σ H Q I h
  refine isTrue_or (thn (ha pins s σ H _ I h) fun c s1 ⟨H1, I1, q1⟩ => ?_)
  cases c with
  | true => exact ⟨H1, I1, q1⟩
  | false => exact hb wh pins s1 σ H1 Q I1 q1
theorem pt_not (ha : PT X a tA) : PT X (.UnaryOp .Not a pos) (tNot tA) := by
  intro pins s σ H Q I h
  exact isTrue_not (ha pins s σ H (fun c H1 => Q (!c) H1) I h)
def tAndV (ta tb : TE) : TE := fun σ H Q => ta σ H fun x H1 => ∃ c, x = .bl c /\ if c = true then tb σ H1 Q else Q (.bl false) H1
def tNotV (ta : TE) : TE := fun σ H Q => ta σ H fun x H1 => ∃ c, x = .bl c /\ Q (.bl (!c)) H1
theorem pe_one {op} {t : TE} (h : PE X a t) : PE X (.BoolOp op [a] pos) t := fun pins s σ H Q I hw => BoolOp_one (h pins s σ H Q I hw)
theorem pe_and (ha : PE X a ta) (hb : PE X (.BoolOp .And (b :: rest) pos) tb) : PE X (.BoolOp .And (a :: b :: rest) pos) (tAndV ta tb) := by
  intro pins s σ H Q I h
  refine BoolOp_and (thn (ha pins s σ H _ I h) fun v s1 ⟨x, H1, I1, r1, q1⟩ => ?_)
  obtain ⟨c, rfl, q1⟩ := q1
  cases r1
  refine wpAny_truthy_bool ?_
  cases c with
  | true => exact hb pins s1 σ H1 Q I1 q1
  | false => exact ⟨.bl false, H1, I1, rfl, q1⟩
theorem pe_not (ha : PE X a ta) : PE X (.UnaryOp .Not a pos) (tNotV ta) := by
  intro pins s σ H Q I h
  refine UnaryOp_ (thn (ha pins s σ H _ I h) fun v s1 ⟨x, H1, I1, r1, q1⟩ => ?_)
  obtain ⟨c, rfl, q1⟩ := q1
  cases r1
  exact not_of (wpAny_truthy_bool ⟨.bl (!c), H1, I1, rfl, q1⟩)
def tIf (t : TT) (ta tb : TE) : TE := fun σ H Q => t σ H fun c H1 => if c = true then ta σ H1 Q else tb σ H1 Q
theorem pe_ifExp {c : Expr} (hc : PT X c tA) (ha : PE X a ta) (hb : PE X b tb) : PE X (.IfExp c a b pos) (tIf tA ta tb) := by
  intro pins s σ H Q I h
  refine wpAny_IfExp (thn (hc pins s σ H _ I h) fun d s1 ⟨H1, I1, q1⟩ => ?_)
  cases d with
  | true => exact ha pins s1 σ H1 Q I1 q1
  | false => exact hb pins s1 σ H1 Q I1 q1
end
def SqL (K : PySem.W.Frag) (H : Hp) (a : Addr) (xs : List V) : Prop :=
  Rd H a (.lst xs) \/
    ∃ (o : Obj) (its : Array Value) (n : Nat), K.lookup a = some o /\ o.cls = .type "list" /\ o.dict = none /\ o.data = .seq its n /\ its.size <= sizeLine /\ Vals xs its.toList
def SqT (K : PySem.W.Frag) (H : Hp) (a : Addr) (xs : List V) : Prop :=
  Rd H a (.tup xs) \/
    ∃ (o : Obj) (its : Array Value) (n : Nat), K.lookup a = some o /\ o.cls = .type "tuple" /\ o.data = .seq its n /\ its.size <= sizeLine /\ Vals xs its.toList
def absV : Value -> Option V
  | .none => some .non
  | .bool b => some (.bl b)
  | .int i _ => some (.int i)
  | .str x _ => some (.str x)
  | .bytes b _ => some (.byt b)
  | .float b _ => some (.flt b)
  | .ref a => some (.ref a)
  | .type n => some (.ty n)
  | _ => none
theorem RelV.abs {x : V} {u : Value} (r : RelV x u) : absV u = some x := by
  cases x with
  | non => cases r; rfl
  | bl _ => cases r; rfl
  | int _ => obtain ⟨t, rfl⟩ := r; rfl
  | str _ => obtain ⟨t, rfl⟩ := r; rfl
  | byt _ => obtain ⟨t, rfl⟩ := r; rfl
  | flt _ => obtain ⟨t, rfl⟩ := r; rfl
  | ref _ => cases r; rfl
  | ty _ => cases r; rfl
theorem RelV.inj {x y : V} {u : Value} (r : RelV x u) (q : RelV y u) : x = y := Option.some.inj (r.abs.symm.trans q.abs)
theorem Vals.inj : ∀ {xs ys : List V} {us : List Value}, Vals xs us -> Vals ys us -> xs = ys
  | _, _, _, .nil, .nil => rfl
  | _, _, _, .cons r t, .cons r' t' => by rw [r.inj r', Vals.inj t t']
section
variable {X : Cx} {pins : List (Addr × Obj)} {σ : St} {H : Hp} {s : Shared} {a : Addr} {xs ys : List V}
theorem SqL.of {K : PySem.W.Frag} (h : H a = some (.lst xs)) : SqL K H a xs := .inl (.inl h)
theorem SqT.of {K : PySem.W.Frag} (h : H a = some (.tup xs)) : SqT K H a xs := .inl (.inl h)
theorem Inv.list (I : Inv X pins σ H s) (h : SqL X.K H a xs) : ∃ its : List Value, Vals xs its /\ PlainL s.heap a its.toArray /\ xs.length <= sizeLine := by
  rcases h with h | ⟨o, its, n, hk, hc, hd, hs, hz, r⟩
  . obtain ⟨z, its, n, r, e⟩ := h.ok I.hok
    exact ⟨its, r, ⟨_, n, e, rfl, rfl, rfl⟩, z⟩
  . refine ⟨its.toList, r, ⟨o, n, I.kIn a o hk, hc, hd, by simpa using hs⟩, ?_⟩
    have e := r.length
    simp only [Array.length_toList] at e
    omega
theorem Inv.tuple (I : Inv X pins σ H s) (h : SqT X.K H a xs) : ∃ its : List Value, Vals xs its /\ IsTup s.heap a its.toArray /\ xs.length <= sizeLine := by
  rcases h with h | ⟨o, its, n, hk, hc, hs, hz, r⟩
  . obtain ⟨z, its, r, p⟩ := h.ok I.hok
    exact ⟨its, r, p, z⟩
  . refine ⟨its.toList, r, ⟨o, I.kIn a o hk, hc, n, by simpa using hs⟩, ?_⟩
    have e := r.length
    simp only [Array.length_toList] at e
    omega
theorem Inv.list_inj (I : Inv X pins σ H s) (h : SqL X.K H a xs) (h' : SqL X.K H a ys) : xs = ys := by
  obtain ⟨its, r, ⟨o, n, e, _, _, d⟩, _⟩ := I.list h
  obtain ⟨its', r', ⟨o', n', e', _, _, d'⟩, _⟩ := I.list h'
  rw [e] at e'; cases e'
  rw [d] at d'
  injection d' with d1 _
  have : its = its' := by simpa using congrArg Array.toList d1
  subst this
  exact r.inj r'
end
abbrev Cx.wish (X : Cx) (E : Value -> Shared -> Prop) : Cx := { X with xe := E }
abbrev Cx.nox (X : Cx) : Cx := X.wish fun _ _ => False
theorem Cx.Ok.wish {X : Cx} (ok : X.Ok) (E : Value -> Shared -> Prop) : (X.wish E).Ok :=
  ⟨ok.mod, ok.kind, ok.glob, ok.blt, ok.above, ok.inj, ok.has, ok.cab, ok.hd, ok.frames, ok.stk, ok.exf, ok.bs, ok.bsz, ok.noex, ok.exfs, ok.funs, ok.frf⟩
theorem Cx.Ok.unwish {X : Cx} {E : Value -> Shared -> Prop} (ok : (X.wish E).Ok) : X.Ok :=
  ⟨ok.mod, ok.kind, ok.glob, ok.blt, ok.above, ok.inj, ok.has, ok.cab, ok.hd, ok.frames, ok.stk, ok.exf, ok.bs, ok.bsz, ok.noex, ok.exfs, ok.funs, ok.frf⟩
section
variable {X : Cx} {pins : List (Addr × Obj)} {σ : St} {H : Hp} {s : Shared} {E : Value -> Shared -> Prop}
theorem Inv.wish (I : Inv X pins σ H s) (E : Value -> Shared -> Prop) : Inv (X.wish E) pins σ H s := ⟨I.ok.wish E, I.os, I.bare, I.base, I.loc, I.cell, I.free, I.freeC, I.pin, I.hok, I.len⟩
theorem Inv.unwish (I : Inv (X.wish E) pins σ H s) : Inv X pins σ H s := ⟨I.ok.unwish, I.os, I.bare, I.base, I.loc, I.cell, I.free, I.freeC, I.pin, I.hok, I.len⟩
theorem SP.unwish {D : Ends} {f : Flow} {s' : Shared} (h : SP (X.wish E) pins D f s') : SP X pins D f s' := by
  cases f with
  | next => obtain ⟨σ', H', I, q⟩ := h; exact ⟨σ', H', I.unwish, q⟩
  | brk => obtain ⟨σ', H', I, q⟩ := h; exact ⟨σ', H', I.unwish, q⟩
  | cont => obtain ⟨σ', H', I, q⟩ := h; exact ⟨σ', H', I.unwish, q⟩
  | ret u => obtain ⟨v, σ', H', I, r, q⟩ := h; exact ⟨v, σ', H', I.unwish, r, q⟩
theorem PSs.nox {st : List Stmt} {t : TS} (h : PSs X.nox st t) : PSs X st t := fun pins s σ H D I hw =>
  wpAny_mono (h pins s σ H D (I.wish _) hw) (fun _ _ q => q.unwish) fun _ _ z => False.elim z
end
section
variable {X : Cx} {st : Stmt} {rest : List Stmt} {t u : TS} {e : Expr} {te : TE} {pos : Pos}
def tNext : TS := fun D σ H => D.nx σ H
def tSeq (t u : TS) : TS := fun D σ H => t { D with nx := u D } σ H
theorem pss_nil : PSs X [] tNext := fun _ _ σ H _ I h => wpAny_execs_nil ⟨σ, H, I, h⟩
theorem pss_cons (h1 : PS X st t) (h2 : PSs X rest u) : PSs X (st :: rest) (tSeq t u) := by
  intro pins s σ H D I h
  refine wpAny_execs_cons (thn (h1 pins s σ H { D with nx := u D } I h) fun f s1 q => ?_)
  cases f with
  | next =>
    obtain ⟨σ', H', I', q⟩ := q
    exact h2 pins s1 σ' H' D I' q
  | ret v => exact q
  | brk => exact q
  | cont => exact q
theorem pss_one (h1 : PS X st t) : PSs X [st] t := by
  intro pins s σ H D I h
  refine wpAny_execs_cons (thn (h1 pins s σ H D I h) fun f s1 q => ?_)
  cases f with
  | next => exact wpAny_execs_nil q
  | ret v => exact q
  | brk => exact q
  | cont => exact q
theorem Inv.quiet {pins : List (Addr × Obj)} {σ : St} {H : Hp} {s : Shared} (I : Inv X pins σ H s) : interactive X.env = false := by simp [interactive, I.ok.kind]
def tDrop (te : TE) : TS := fun D σ H => te σ H fun _ H1 => D.nx σ H1
theorem ps_expr (he : PE X e te) (hs : swapsWith e none pos.line X.env = pure false := by rfl) : PS X (.Expr e pos) (tDrop te) := by
  intro pins s σ H D I h
  exact wpAny_Expr_any (thn (he pins s σ H _ I h) fun v s1 ⟨x, H1, I1, r1, q1⟩ => ⟨σ, H1, I1, q1⟩) I.quiet hs
def tRet (te : TE) : TS := fun D σ H => te σ H D.rt
theorem ps_ret (he : PE X e te) : PS X (.Return (some e) pos) (tRet te) := by
  intro pins s σ H D I h
  exact wpAny_Return_some (thn (he pins s σ H _ I h) fun v s1 ⟨x, H1, I1, r1, q1⟩ => ⟨x, σ, H1, I1, r1, q1⟩)
def tIfS (c : TT) (t u : TS) : TS := fun D σ H => c σ H fun b H1 => if b = true then t D σ H1 else u D σ H1
theorem ps_if {c : Expr} {a b : List Stmt} {tc : TT} (hc : PT X c tc) (ha : PSs X a t) (hb : PSs X b u) : PS X (.If c a b pos) (tIfS tc t u) := by
  intro pins s σ H D I h
  refine wpAny_If (thn (hc pins s σ H _ I h) fun d s1 ⟨H1, I1, q1⟩ => ?_)
  cases d with
  | true => exact ha pins s1 σ H1 D I1 q1
  | false => exact hb pins s1 σ H1 D I1 q1
def tNever : TS := fun _ _ _ => False
theorem ps_never : PS X st tNever := fun _ _ _ _ _ _ h => h.elim
end
abbrev TG := V -> St -> Hp -> (St -> Hp -> Prop) -> Prop
abbrev TGs := List V -> St -> Hp -> (St -> Hp -> Prop) -> Prop
def PG (X : Cx) (target : Expr) (t : TG) : Prop :=
  ∀ (pins : List (Addr × Obj)) (s : Shared) (σ : St) (H : Hp) (v : V) (u : Value) (Q : St -> Hp -> Prop), Inv X pins σ H s -> RelV v u -> t v σ H Q ->
    wpAny (model X.prog X.w) X.A (assign target X.env u) (fun _ s' => ∃ σ' H', Inv X pins σ' H' s' /\ Q σ' H') X.xe s
def PGs (X : Cx) (ts : List Expr) (t : TGs) : Prop :=
  ∀ (pins : List (Addr × Obj)) (s : Shared) (σ : St) (H : Hp) (vs : List V) (us : List Value) (Q : St -> Hp -> Prop), Inv X pins σ H s -> Vals vs us -> t vs σ H Q ->
    wpAny (model X.prog X.w) X.A (assignInOrder ((assignEach ts X.env).map (·.2)) us) (fun _ s' => ∃ σ' H', Inv X pins σ' H' s' /\ Q σ' H') X.xe s
abbrev TSet := V -> V -> V -> Hp -> (Hp -> Prop) -> Prop
def PSet (X : Cx) (t : TSet) : Prop :=
  ∀ (pins : List (Addr × Obj)) (s : Shared) (σ : St) (H : Hp) (o i v : V) (ov iv u : Value) (Q : Hp -> Prop), Inv X pins σ H s -> RelV o ov -> RelV i iv -> RelV v u -> t o i v H Q ->
    wpAny (model X.prog X.w) X.A (setItem ov iv u) (fun _ s' => ∃ H', Inv X pins σ H' s' /\ Q H') X.xe s
abbrev TIp := V -> V -> Hp -> VK -> Prop
def PIp (X : Cx) (op : Operator) (t : TIp) : Prop :=
  ∀ (pins : List (Addr × Obj)) (s : Shared) (σ : St) (H : Hp) (x y : V) (v u : Value) (Q : VK), Inv X pins σ H s -> RelV x v -> RelV y u -> t x y H Q ->
    wpAny (model X.prog X.w) X.A (inplaceOp op v u) (EP X pins σ Q) X.xe s
section
variable {X : Cx} {pos : Pos}
def gName (i : Nat) : TG := fun v σ H Q => Q (σ.set i (some v)) H
theorem pg_name {i : Nat} {x : Str} (hN : X.N.Nodup) (hi : X.N[i]? = some x) (hx : Loc X.env.scope x) (hf : X.fn x = true \/ X.env.scope.names.lookup x = some .local := by first | exact .inl rfl | exact .inr rfl | assumption) : PG X (.Name x pos) (gName i) := by
  intro pins s σ H v u Q I r h
  exact wpAny_assign_Name (store_ok I hN hi hx r (fun s' I' => ⟨_, H, I', h⟩) hf)
def gNil : TGs := fun vs σ H Q => vs = [] /\ Q σ H
def gCons (t : TG) (u : TGs) : TGs := fun vs σ H Q => ∃ v r, vs = v :: r /\ t v σ H fun σ' H' => u r σ' H' Q
theorem pgs_nil : PGs X [] gNil := by
  intro pins s σ H vs us Q I r h
  obtain ⟨e, h⟩ := h
  subst e
  cases r
  exact assignInOrder_nil ⟨σ, H, I, h⟩
theorem pgs_cons {e : Expr} {es : List Expr} {t : TG} {u : TGs} (h1 : PG X e t) (h2 : PGs X es u)
    (hs : (assignEach (e :: es) X.env).map (·.2) = assign e X.env :: (assignEach es X.env).map (·.2) := by rfl) : PGs X (e :: es) (gCons t u) := by
  intro pins s σ H vs us Q I r h
  obtain ⟨v, vr, e1, h⟩ := h
  subst e1
  cases r with
  | cons r rr =>
    rw [hs]
    refine assignInOrder_cons (thn (h1 pins s σ H _ _ _ I r h) fun _ s1 ⟨σ1, H1, I1, q1⟩ => ?_)
    exact h2 pins s1 σ1 H1 _ _ Q I1 rr q1
def gTup (K : PySem.W.Frag) (n : Nat) (t : TGs) : TG := fun v σ H Q => ∃ a xs, v = .ref a /\ SqT K H a xs /\ xs.length = n /\ t xs σ H Q
theorem pg_tup {es : List Expr} {k : Nat} {t : TGs} {n : Nat} (hc : X.calm = true) (h : PGs X es t)
    (hn : (assignEach es X.env).length = n := by rfl) (hst : (assignEach es X.env).findIdx? (·.1) = none := by rfl) : PG X (.Tuple es k pos) (gTup X.K n t) := by
  intro pins s σ H v u Q I r hw
  obtain ⟨a, xs, e1, hq, hl, hw⟩ := hw
  subst e1
  cases r
  obtain ⟨its, rv, ht, hz⟩ := I.tuple hq
  refine assign_Tuple_tuple (I.ok.hd hc) ht (by simp [hn, <- hl, rv.length]) hst fun h' hx => ?_
  have I1 : Inv X pins σ H { s with heap := h' } := I.kept (t' := s.toks) fun b o e => hx b o (Nat.ne_of_lt (Heap.lt_size e)) e
  exact h pins _ σ H xs _ Q I1 (by simpa using rv) hw
def gSub (to ti : TE) (t : TSet) : TG := fun v σ H Q => to σ H fun o H1 => ti σ H1 fun i H2 => t o i v H2 fun H3 => Q σ H3
theorem pg_sub {o i : Expr} {to ti : TE} {t : TSet} (ho : PE X o to) (hi : PE X i ti) (hs : PSet X t)
    (ha : ∀ v, assign (.Subscript o i pos) X.env v = (do
      let ov <- holding [v] (eval o X.env)
      let iv <- holding [v, ov] (eval i X.env)
      standAt pos
      holding [v, ov, iv] (setItem ov iv v)
      release [v, ov, iv] []) := by intro _; rfl) : PG X (.Subscript o i pos) (gSub to ti t) := by
  intro pins s σ H v u Q I r h
  rw [ha]
  refine wpAny_bind (wpAny_holding (thn (ho pins s σ H _ I h) fun ov s1 ⟨x, H1, I1, r1, q1⟩ => ?_))
  refine wpAny_bind (wpAny_holding (thn (hi pins s1 σ H1 _ I1 q1) fun iv s2 ⟨y, H2, I2, r2, q2⟩ => ?_))
  refine wpAny_bind (wpAny_standAt (wpAny_bind (wpAny_holding (thn (hs pins s2 σ H2 x y v ov iv u _ I2 r1 r2 r q2) fun _ s3 ⟨H3, I3, q3⟩ => ?_))))
  exact wpAny_release ⟨σ, H3, I3, q3⟩
def tAsg (te : TE) (g : TG) : TS := fun D σ H => te σ H fun x H1 => g x σ H1 D.nx
theorem ps_asg {tg e : Expr} {te : TE} {g : TG} (he : PE X e te) (hg : PG X tg g) (hs : swapsWithSole [tg] e pos.line X.env = pure false := by rfl) (hw : swappedStores [tg] e X.env = pure none := by rfl)
    (h1 : (assignEach [tg] X.env).map (·.2) = [assign tg X.env] := by rfl) : PS X (.Assign [tg] e pos) (tAsg te g) := by
  intro pins s σ H D I h
  refine wpAny_Assign_stores (thn (he pins s σ H _ I h) fun v s1 ⟨x, H1, I1, r1, q1⟩ => ?_) hs hw
  rw [h1]
  exact thn (hg pins s1 σ H1 x v _ I1 r1 q1) fun _ s2 q => q
theorem ps_set {i : Nat} {x : Str} {e : Expr} {te : TE} {pos' : Pos} (hN : X.N.Nodup) (hi : X.N[i]? = some x) (hx : Loc X.env.scope x) (he : PE X e te) (hs : swapsWith e (some (.Name x pos')) pos.line X.env = pure false := by rfl) (hf : X.fn x = true \/ X.env.scope.names.lookup x = some .local := by first | exact .inl rfl | exact .inr rfl | assumption) :
    PS X (.Assign [.Name x pos'] e pos) (tAsg te (gName i)) := by
  intro pins s σ H D I h
  refine wpAny_Assign_Name (thn (he pins s σ H _ I h) fun v s1 ⟨y, H1, I1, r1, q1⟩ => ?_) hs
  exact store_ok I1 hN hi hx r1 (fun s2 I2 => ⟨_, H1, I2, q1⟩) hf
def tAug (i : Nat) (te : TE) (ti : TIp) : TS := fun D σ H => ∃ x, σ[i]? = some (some x) /\ te σ H fun y H1 => ti x y H1 fun z H2 => D.nx (σ.set i (some z)) H2
theorem ps_aug {i : Nat} {x : Str} {e : Expr} {te : TE} {op : Operator} {ti : TIp} {pos' : Pos} (hN : X.N.Nodup) (hi : X.N[i]? = some x) (hx : Loc X.env.scope x) (he : PE X e te) (ho : PIp X op ti) (hf : X.fn x = true \/ X.env.scope.names.lookup x = some .local := by first | exact .inl rfl | exact .inr rfl | assumption) :
    PS X (.AugAssign (.Name x pos') op e pos) (tAug i te ti) := by
  intro pins s σ H D I h
  obtain ⟨v, e1, h⟩ := h
  obtain ⟨m, hn, hl⟩ := I.loc
  have vis : Vis X.env.scope x := by rcases hx with k | k; exact .inl k; exact .inr (.inl k)
  obtain ⟨u, r, l⟩ := hl i x v hi e1 vis
  refine wpAny_AugAssign_Name ?_
  have go : wpAny (model X.prog X.w) X.A (eval e X.env) (fun w s₂ => wpAny (model X.prog X.w) X.A (inplaceOp op u w) (fun r s₃ => wpAny (model X.prog X.w) X.A (storeName X.env x r) (fun _ => SP X pins D .next) X.xe s₃) X.xe s₂) X.xe s := by
    refine thn (he pins s σ H _ I h) fun w s1 ⟨y, H1, I1, r1, q1⟩ => ?_
    refine thn (ho pins s1 σ H1 v y u w _ I1 r r1 q1) fun z s2 ⟨zv, H2, I2, r2, q2⟩ => ?_
    exact store_ok I2 hN hi hx r2 (fun s3 I3 => ⟨_, H2, I3, q2⟩) hf
  rcases l with ⟨hk, hm⟩ | ⟨hk, c, hc, hcell⟩
  . exact wpAny_loadName_local I.ok.kind hk hn hm go
  . rcases hk with hk | hk
    . exact wpAny_loadName_cell I.ok.kind hk hc hcell go
    . rcases hx with k | k
      . have : X.env.scope.names.lookup x = some .free := hk
        rw [k] at this; cases this
      . have : X.env.scope.names.lookup x = some .free := hk
        rw [k] at this; cases this
def tAugS (to ti te : TE) (tget : V -> V -> Hp -> VK -> Prop) (tip : TIp) (tset : TSet) : TS := fun D σ H => to σ H fun o H1 => ti σ H1 fun i H2 => tget o i H2 fun x H3 => te σ H3 fun y H4 => tip x y H4 fun z H5 => tset o i z H5 fun H6 => D.nx σ H6
def PGet (X : Cx) (t : V -> V -> Hp -> VK -> Prop) : Prop :=
  ∀ (pins : List (Addr × Obj)) (s : Shared) (σ : St) (H : Hp) (o i : V) (ov iv : Value) (Q : VK), Inv X pins σ H s -> RelV o ov -> RelV i iv -> t o i H Q ->
    wpAny (model X.prog X.w) X.A (getItem ov iv) (EP X pins σ Q) X.xe s
theorem ps_augS {o i e : Expr} {to ti te : TE} {tget : V -> V -> Hp -> VK -> Prop} {tip : TIp} {tset : TSet} {op : Operator} {tpos : Pos} (ho : PE X o to) (hi : PE X i ti) (hg : PGet X tget) (he : PE X e te) (hp : PIp X op tip) (hs : PSet X tset)
    (ha : ∀ ov iv new, augStore i ov iv new = (do holding [new, ov, iv] (setItem ov iv new); release [new, ov, iv] []; pure .next) := by intros; rfl) : PS X (.AugAssign (.Subscript o i tpos) op e pos) (tAugS to ti te tget tip tset) := by
  intro pins s σ H D I h
  refine wpAny_AugAssign_SubscriptAny (thn (ho pins s σ H _ I h) fun ov s1 ⟨x1, H1, I1, r1, q1⟩ => ?_) ha
  refine thn (hi pins s1 σ H1 _ I1 q1) fun iv s2 ⟨x2, H2, I2, r2, q2⟩ => ?_
  refine thn (hg pins s2 σ H2 x1 x2 ov iv _ I2 r1 r2 q2) fun old s3 ⟨x3, H3, I3, r3, q3⟩ => ?_
  refine thn (he pins s3 σ H3 _ I3 q3) fun v s4 ⟨x4, H4, I4, r4, q4⟩ => ?_
  refine thn (hp pins s4 σ H4 x3 x4 old v _ I4 r3 r4 q4) fun new s5 ⟨x5, H5, I5, r5, q5⟩ => ?_
  exact thn (hs pins s5 σ H5 x1 x2 x5 ov iv new _ I5 r1 r2 r5 q5) fun _ s6 ⟨H6, I6, q6⟩ => ⟨σ, H6, I6, q6⟩
end
section
variable {X : Cx} {pos : Pos}
def tWhile (c : TT) (tb : TS) : TS := fun D σ H => ∃ W : Nat -> St -> Hp -> Prop, (∃ m, W m σ H) /\ ∀ m σ H, W m σ H ->
  c σ H fun b H1 => if b = true then ∃ N : St -> Hp -> Prop, (∀ σ' H', N σ' H' -> ∃ m', m' < m /\ W m' σ' H') /\ tb { D with nx := N, ct := N, bk := D.nx } σ H1 else D.nx σ H1
theorem ps_while {c : Expr} {body : List Stmt} {tc : TT} {tb : TS} (hp : PassesOwn (model X.prog X.w) X.A X.env X.xe) (hc : PT X c tc) (hb : PSs X body tb) : PS X (.While c body [] pos) (tWhile tc tb) := by
  intro pins s σ H D I h
  obtain ⟨W, ⟨m0, w0⟩, turn⟩ := h
  refine wpAny_While (codeAny_whileLoop (fun n s' => ∃ σ' H', Inv X pins σ' H' s' /\ W n σ' H') ?_ m0 ⟨σ, H, I, w0⟩)
  rintro n s1 ⟨σ1, H1, I1, w1⟩
  refine wpAny_passesOwn hp (thn (hc pins s1 σ1 H1 _ I1 (turn n σ1 H1 w1)) fun b s2 ⟨H2, I2, q2⟩ => ?_)
  cases b with
  | true =>
    obtain ⟨N, hN, q2⟩ := q2
    rw [if_pos rfl]
    refine wpAny_passesOwn hp (thn (hb pins s2 σ1 H2 _ I2 q2) fun f s3 q3 => ?_)
    cases f with
    | next =>
      obtain ⟨σ3, H3, I3, n3⟩ := q3
      obtain ⟨m', hm, w3⟩ := hN σ3 H3 n3
      exact ⟨m', hm, σ3, H3, I3, w3⟩
    | cont =>
      obtain ⟨σ3, H3, I3, n3⟩ := q3
      obtain ⟨m', hm, w3⟩ := hN σ3 H3 n3
      exact ⟨m', hm, σ3, H3, I3, w3⟩
    | brk => exact q3
    | ret v => exact q3
  | false =>
    rw [if_neg Bool.false_ne_true]
    exact wpAny_execs_nil ⟨σ1, H2, I2, q2⟩
end
structure It where
  go : Nat -> Hp -> Prop
  yld : Nat -> Hp -> V -> Hp -> Prop
  stop : Nat -> Hp -> Prop
def FpOk (X : Cx) (pins : List (Addr × Obj)) (H : Hp) (b : Addr) : Prop :=
  H b = none /\ b ≠ X.env.locals /\ b ∉ X.fs /\ (b ∈ X.ex \/ X.s₀.heap.objs.size <= b) /\ (∀ x c, X.env.cells.lookup x = some c -> c ≠ b) /\ ∀ p ∈ X.pn ++ pins, p.1 ≠ b
theorem Inv.fpOk {X : Cx} {pins : List (Addr × Obj)} {σ : St} {H H' : Hp} {s : Shared} {b : Addr} (I : Inv X pins σ H s) (hb : s.heap.objs.size <= b) (hn : H' b = none) : FpOk X pins H' b := by
  refine ⟨hn, Nat.ne_of_gt (Nat.lt_of_lt_of_le I.lt hb), I.nofs hb, .inr (Nat.le_trans I.sz hb), fun x c e z => ?_, fun p hp z => ?_⟩
  . obtain ⟨v, q⟩ := I.cell x c e
    exact absurd (Nat.lt_of_lt_of_le q.lt (by rw [z]; exact hb)) (Nat.lt_irrefl _)
  . exact absurd (Nat.lt_of_lt_of_le (Heap.lt_size (I.pin p hp).1) (by rw [z]; exact hb)) (Nat.lt_irrefl _)
structure Turn (P : Program) (w : World) (K : PySem.W.Frag) (tg : Expr) (J : It) (fp : List Addr) (it : Addr) (tn : Nat -> Heap -> Prop) : Prop where
  mem : it ∈ fp
  obj : ∀ i h, tn i h -> ∀ b ∈ fp, ∃ o, h.get? b = some o /\ ∀ v, o.data ≠ .cell v
  keep : ∀ i h h', tn i h -> (∀ b ∈ fp, ∀ o, h.get? b = some o -> h'.get? b = some o) -> tn i h'
  item : ∀ (X : Cx), X.prog = P -> X.w = w -> X.K = K -> X.calm = true -> ∀ (i : Nat) (pins : List (Addr × Obj)) (s : Shared) (σ : St) (H : Hp) (E : Value -> Shared -> Prop), Inv X pins σ H s -> (∀ b ∈ fp, FpOk X pins H b) -> tn i s.heap -> J.go i H ->
    wpAny (model P w) X.A (pyNext (.ref it)) (fun r s1 => ∃ u, r = some u /\
      wpAny (model P w) X.A (letOwnedTupleGo tg (.ref it) u) (fun _ s2 => ∃ x H', Inv X pins σ H' s2 /\ RelV x u /\ J.yld i H x H' /\ tn (i + 1) s2.heap /\ ∀ b ∈ fp, H' b = none) E s1) E s
  done : ∀ (X : Cx), X.prog = P -> X.w = w -> X.K = K -> X.calm = true -> ∀ (i : Nat) (pins : List (Addr × Obj)) (s : Shared) (σ : St) (H : Hp) (E : Value -> Shared -> Prop), Inv X pins σ H s -> (∀ b ∈ fp, FpOk X pins H b) -> tn i s.heap -> J.stop i H ->
    wpAny (model P w) X.A (pyNext (.ref it)) (fun r s1 => r = none /\ Inv X pins σ H s1) E s
  self : ∀ (A : Around) (i : Nat) (s : Shared) (Q : Value -> Shared -> Prop) (E : Value -> Shared -> Prop), tn i s.heap -> Q (.ref it) s -> wpAny (model P w) A (pyIter (.ref it)) Q E s
abbrev TI := St -> Hp -> (It -> Hp -> Prop) -> Prop
def PIE (X : Cx) (pins : List (Addr × Obj)) (σ : St) (tg : Expr) (R : It -> Hp -> Prop) (itv : Value) (s2 : Shared) : Prop :=
  ∃ (it : Addr) (fp : List Addr) (tn : Nat -> Heap -> Prop) (J : It) (H' : Hp), itv = .ref it /\ Inv X pins σ H' s2 /\ Turn X.prog X.w X.K tg J fp it tn /\ tn 0 s2.heap /\ (∀ b ∈ fp, FpOk X pins H' b) /\ R J H'
def PI (X : Cx) (tg iter : Expr) (wi : TI) : Prop :=
  ∀ (pins : List (Addr × Obj)) (s : Shared) (σ : St) (H : Hp) (R : It -> Hp -> Prop), Inv X pins σ H s -> wi σ H R ->
    wpAny (model X.prog X.w) X.A (eval iter X.env) (fun v s1 => wpAny (model X.prog X.w) X.A (pyIter v) (PIE X pins σ tg R) X.xe s1) X.xe s
theorem go_of {M : Model} {A : Around} {E : Value -> Shared -> Prop} {s : Shared} {tg : Expr} {it : Addr} {u : Value} {o : Obj} {n : String} {vs : Array Value} {Q : Unit -> Shared -> Prop} (ho : s.heap.get? it = some o) (hc : o.cls = .type n) (hd : o.data = .fields vs)
    (hn : ["enumerate", "zip", "dict_itemiterator", "dict_reverseitemiterator", "odict_iterator", "itertools.zip_longest", "itertools.pairwise"].contains n = false) (hQ : Q () s) : wpAny M A (letOwnedTupleGo tg (.ref it) u) Q E s := by
  unfold letOwnedTupleGo
  cases tg <;> first
    | exact wpAny_pure hQ
    | (cases u <;> first
        | exact wpAny_pure hQ
        | (refine wpAny_bind (wpAny_load ho ?_)
           rw [hc, hd]
           show wpAny M A (if (["enumerate", "zip", "dict_itemiterator", "dict_reverseitemiterator", "odict_iterator", "itertools.zip_longest", "itertools.pairwise"].contains n && vs[0]? == some (rawInt _)) = true then _ else _) Q E s
           rw [if_neg (by intro h; rw [hn, Bool.false_and] at h; cases h)]
           exact wpAny_pure hQ))
def Itl (K : PySem.W.Frag) (a : Addr) : It :=
  ⟨fun i H => ∃ xs x, SqL K H a xs /\ xs[i]? = some x, fun i H x H' => H' = H /\ ∀ xs, SqL K H a xs -> xs[i]? = some x, fun i H => ∃ xs, SqL K H a xs /\ xs.length <= i⟩
def Itr (lo : Int) (n : Nat) : It := ⟨fun i _ => i < n, fun i H x H' => H' = H /\ x = .int (lo + i), fun i _ => n <= i⟩
theorem turn_list {P : Program} {w : World} {K : PySem.W.Frag} {tg : Expr} (a it : Addr) : Turn P w K tg (Itl K a) [it] it (fun i h => h.IsListIter it a i) where
  mem := by simp
  obj := fun i h st b hb => by
    have e : b = it := by simpa using hb
    subst e
    obtain ⟨o, e, c, d⟩ := st
    exact ⟨o, e, fun v z => by rw [d] at z; cases z⟩
  keep := fun i h h' st k => st.at fun o e => k it (by simp) o e
  item := by
    intro X hP hw hK hc i pins s σ H E I hf st hg
    subst hP hw hK
    obtain ⟨xs, x, hq, hx⟩ := hg
    obtain ⟨its, rv, p, hz⟩ := I.list hq
    obtain ⟨u, hu, ru⟩ := rv.get hx
    obtain ⟨f0, f1, f2, f3, f4, f5⟩ := hf it (by simp)
    refine wpAny_pyNext_list_item st p.isList (x := u) (by simpa using hu) fun h' st' sb => ?_
    have I1 : Inv X pins σ H { s with heap := h' } := I.turned (t' := s.toks) (fun b o hb e => (sb.2 b hb).trans e) f0 f1 f3 f4 f5
    obtain ⟨o, e, c, d⟩ := id st'
    exact ⟨u, rfl, go_of (s := { s with heap := h' }) e c d (by decide) ⟨x, H, I1, ru, ⟨rfl, fun ys hy => by rw [I.list_inj hy hq]; exact hx⟩, st', fun b hb => (hf b hb).1⟩⟩
  done := by
    intro X hP hw hK hc i pins s σ H E I hf st hg
    subst hP hw hK
    obtain ⟨xs, hq, hx⟩ := hg
    obtain ⟨its, rv, p, hz⟩ := I.list hq
    obtain ⟨f0, f1, f2, f3, f4, f5⟩ := hf it (by simp)
    have hl := rv.length
    exact wpAny_pyNext_list_end (I.ok.hd hc) st p.isList (by simp; omega) fun h' eb => ⟨rfl, I.turned (t' := s.toks) (fun b o hb e => eb b o hb e) f0 f1 f3 f4 f5⟩
  self := fun _ _ _ _ _ st h => wpAny_pyIter_listiter st h
theorem turn_range {P : Program} {w : World} {K : PySem.W.Frag} {tg : Expr} (it : Addr) (lo : Int) (n : Nat) : Turn P w K tg (Itr lo n) [it] it (fun i h => IsRangeIter h it (lo + (i : Nat) * 1) ((n : Int) - (i : Nat)) 1) where
  mem := by simp
  obj := fun i h st b hb => by
    have e : b = it := by simpa using hb
    subst e
    exact ⟨_, st, fun v z => by
      have z' : Data.fields _ = Data.cell v := z
      cases z'⟩
  keep := fun i h h' st k => k it (by simp) _ st
  item := by
    intro X hP hw hK hc i pins s σ H E I hf st hg
    subst hP hw hK
    obtain ⟨f0, f1, f2, f3, f4, f5⟩ := hf it (by simp)
    have W := Walks.range (prog := X.prog) (w := X.w) (I.ok.hd hc) it lo 1 n
    refine W.item i s _ _ hg st fun v h' tk hv st' kk => ?_
    obtain ⟨t, rfl⟩ := hv
    have I1 : Inv X pins σ H { s with heap := h', toks := tk } := I.turned (fun b o hb e => kk b o (by simpa using hb) e) f0 f1 f3 f4 f5
    refine ⟨_, rfl, go_of (s := { s with heap := h', toks := tk }) (n := "range_iterator") st' rfl rfl (by decide) ⟨.int (lo + i), H, I1, ⟨t, ?_⟩, ⟨rfl, rfl⟩, st', fun b hb => (hf b hb).1⟩⟩
    rw [Int.mul_one]
  done := by
    intro X hP hw hK hc i pins s σ H E I hf st hg
    subst hP hw hK
    obtain ⟨f0, f1, f2, f3, f4, f5⟩ := hf it (by simp)
    exact wpAny_pyNext_range_end (I.ok.hd hc) st (by have : n <= i := hg; omega) fun h' eb => ⟨rfl, I.turned (t' := s.toks) (fun b o hb e => eb b o hb e) f0 f1 f3 f4 f5⟩
  self := fun _ _ _ _ _ st h => wpAny_pyIter_rangeiter st h
section
variable {X : Cx} {tg : Expr}
def iList (K : PySem.W.Frag) (tl : TE) : TI := fun σ H R => tl σ H fun x H1 => ∃ a, x = .ref a /\ (∃ xs, SqL K H1 a xs) /\ R (Itl K a) H1
theorem pi_list {l : Expr} {tl : TE} (hl : PE X l tl) : PI X tg l (iList X.K tl) := by
  intro pins s σ H R I h
  refine thn (hl pins s σ H _ I h) fun v s1 ⟨x, H1, I1, r1, q1⟩ => ?_
  obtain ⟨a, e, ⟨xs, hq⟩, q⟩ := q1
  subst e
  cases r1
  obtain ⟨its, rv, p, hz⟩ := I1.list hq
  refine wpAny_pyIter_list p.isList ?_
  refine ⟨s1.heap.objs.size, [s1.heap.objs.size], _, _, H1, rfl, I1.kept (t' := s1.toks) fun b o e => Heap.get?_push_of_some _ e, turn_list a _, ⟨_, Heap.get?_push_size _ rfl, rfl, rfl⟩, fun b hb => ?_, q⟩
  have e : b = s1.heap.objs.size := by simpa using hb
  subst e
  exact I1.fpOk (Nat.le_refl _) (I1.hok.fresh (Nat.le_refl _))
theorem range_it {pins : List (Addr × Obj)} {σ : St} {H : Hp} {s : Shared} {R : It -> Hp -> Prop} {E : Value -> Shared -> Prop} {lo hi : Int} {t u v : Tok} {tk : Nat} (I : Inv X pins σ H s) (h1 : -(2 ^ 62) <= lo) (h2 : lo < 2 ^ 62) (h3 : -(2 ^ 62) <= hi) (h4 : hi < 2 ^ 62)
    (q : R (Itr lo (hi - lo).toNat) H) : wpAny (model X.prog X.w) X.A (pyIter (.ref s.heap.objs.size)) (PIE X pins σ tg R) E { s with heap := s.heap.push { cls := .type "range", data := .fields #[.int lo t, .int hi u, .int 1 v] }, toks := tk } := by
  refine wpAny_pyIter_range (IsRange.new ..) (small_one h1 h2 h3 h4) ?_
  have I1 : Inv X pins σ H { s with heap := s.heap.push { cls := .type "range", data := .fields #[.int lo t, .int hi u, .int 1 v] }, toks := tk } := I.kept fun b o e => Heap.get?_push_of_some _ e
  refine ⟨(s.heap.push { cls := .type "range", data := .fields #[.int lo t, .int hi u, .int 1 v] }).objs.size, [(s.heap.push { cls := .type "range", data := .fields #[.int lo t, .int hi u, .int 1 v] }).objs.size], _, _, H, rfl,
    I1.kept (t' := tk) fun b o e => Heap.get?_push_of_some _ e, turn_range _ lo (hi - lo).toNat, ?_, fun b hb => ?_, q⟩
  . have e1 : lo + ((0 : Nat) : Int) * 1 = lo := by simp
    have e2 : (((hi - lo).toNat : Nat) : Int) - ((0 : Nat) : Int) = Builtin.Range.rangeSize lo hi 1 := by rw [rangeSize_one]; split <;> omega
    show IsRangeIter _ _ (lo + ((0 : Nat) : Int) * 1) ((((hi - lo).toNat : Nat) : Int) - ((0 : Nat) : Int)) 1
    rw [e1, e2]
    exact Heap.get?_push_size _ rfl
  . have e : b = (s.heap.push { cls := .type "range", data := .fields #[.int lo t, .int hi u, .int 1 v] }).objs.size := by simpa using hb
    subst e
    exact I1.fpOk (Nat.le_refl _) (I1.hok.fresh (Nat.le_refl _))
def iRng1 (ta : TA) : TI := fun σ H R => ta σ H fun vs H1 => ∃ j : Int, vs = [.int j] /\ -(2 ^ 62) <= j /\ j < 2 ^ 62 /\ R (Itr 0 j.toNat) H1
def iRng2 (ta : TA) : TI := fun σ H R => ta σ H fun vs H1 => ∃ i j : Int, vs = [.int i, .int j] /\ (-(2 ^ 62) <= i /\ i < 2 ^ 62 /\ -(2 ^ 62) <= j /\ j < 2 ^ 62) /\ R (Itr i (j - i).toNat) H1
theorem pi_range1 {a : Expr} {ta : TA} {p pos : Pos} (hg : Gl X "range") (hm : X.mg "range" = none) (ha : PA X [a] ta) (hs : starEach [a] X.env = [(false, eval a X.env)] := by rfl) : PI X tg (.Call (.Name "range" p) [a] [] pos) (iRng1 ta) := by
  intro pins s σ H R I h
  refine Call_ (ld_blt I hg hm boot_range (PyProof.Rows.callWith_type1 (thn (ha pos pins s σ H _ I h) fun us s1 ⟨vs, H1, I1, r1, q1⟩ => ?_) hs rfl))
  obtain ⟨j, e, q1, q2, q⟩ := q1
  subst e
  cases r1 with
  | cons r rr =>
    cases rr
    obtain ⟨t, rfl⟩ := r
    exact call_range_1 (range_it I1 (by omega) (by omega) q1 q2 (by simpa using q))
theorem pi_range2 {a b : Expr} {ta : TA} {p pos : Pos} (hg : Gl X "range") (hm : X.mg "range" = none) (ha : PA X [a, b] ta) (hs : starEach [a, b] X.env = [(false, eval a X.env), (false, eval b X.env)] := by rfl) (hs2 : starEach [b] X.env = [(false, eval b X.env)] := by rfl) :
    PI X tg (.Call (.Name "range" p) [a, b] [] pos) (iRng2 ta) := by
  intro pins s σ H R I h
  refine Call_ (ld_blt I hg hm boot_range (PyProof.Rows.callWith_type1 (thn (ha pos pins s σ H _ I h) fun us s1 ⟨vs, H1, I1, r1, q1⟩ => ?_) (by rw [hs, hs2]) (by rw [hs2]; rfl)))
  obtain ⟨i, j, e, ⟨q1, q2, q3, q4⟩, q⟩ := q1
  subst e
  cases r1 with
  | cons r rr =>
    cases rr with
    | cons r' rr =>
      cases rr
      obtain ⟨t, rfl⟩ := r
      obtain ⟨t', rfl⟩ := r'
      exact call_range_2 (range_it I1 q1 q2 q3 q4 q)
def tFor (wi : TI) (g : TG) (tb : TS) : TS := fun D σ H => wi σ H fun J H1 => ∃ W : Nat -> Nat -> St -> Hp -> Prop, (∃ m, W 0 m σ H1) /\ ∀ i m σ H, W i m σ H ->
  (J.stop i H /\ D.nx σ H) \/ (J.go i H /\ ∃ N : St -> Hp -> Prop, (∀ σ' H', N σ' H' -> ∃ m', m' < m /\ W (i + 1) m' σ' H') /\ ∀ x H', J.yld i H x H' -> g x σ H' fun σ2 H2 => tb { D with nx := N, ct := N, bk := D.nx } σ2 H2)
def pinsAt (fp : List Addr) (h : Heap) : List (Addr × Obj) := fp.filterMap fun b => (h.get? b).map fun o => (b, o)
theorem mem_pinsAt {fp : List Addr} {h : Heap} {b : Addr} {o : Obj} (hb : b ∈ fp) (e : h.get? b = some o) : (b, o) ∈ pinsAt fp h := List.mem_filterMap.mpr ⟨b, hb, by rw [e]; rfl⟩
theorem of_pinsAt {fp : List Addr} {h : Heap} {p : Addr × Obj} (hp : p ∈ pinsAt fp h) : p.1 ∈ fp /\ h.get? p.1 = some p.2 := by
  obtain ⟨b, hb, e⟩ := List.mem_filterMap.mp hp
  cases q : h.get? b with
  | none => rw [q] at e; cases e
  | some o =>
    rw [q] at e
    have e' : (b, o) = p := Option.some.inj e
    subst e'
    exact ⟨hb, q⟩
theorem Inv.pinned {pins : List (Addr × Obj)} {σ : St} {H : Hp} {s : Shared} {fp : List Addr} (I : Inv X pins σ H s) (hf : ∀ b ∈ fp, FpOk X pins H b) (ho : ∀ b ∈ fp, ∃ o, s.heap.get? b = some o /\ ∀ v, o.data ≠ .cell v) : Inv X (pins ++ pinsAt fp s.heap) σ H s :=
  I.pins_of fun p hp => (List.mem_append.mp hp).elim (fun z => I.pin p (List.mem_append_right _ z)) fun z => by
    obtain ⟨hb, e⟩ := of_pinsAt z
    obtain ⟨f0, f1, f2, _⟩ := hf p.1 hb
    obtain ⟨o, e', d⟩ := ho p.1 hb
    rw [e] at e'; cases e'
    exact ⟨e, f0, f1, f2, d⟩
theorem Inv.unpinned {pins pl : List (Addr × Obj)} {σ : St} {H : Hp} {s : Shared} (I : Inv X (pins ++ pl) σ H s) : Inv X pins σ H s := I.pins_of fun p hp => I.pin p (List.mem_append_right _ (List.mem_append_left _ hp))
theorem ps_for {iter : Expr} {body : List Stmt} {wi : TI} {g : TG} {tb : TS} {pos : Pos} (hp : PassesOwn (model X.prog X.w) X.A X.env X.xe) (hc : X.calm = true) (hi : PI X tg iter wi) (hg : PG X tg g) (hb : PSs X body tb)
    (hs : ∀ x, foldedSetIterable iter X.env x = pure x := by intro _; rfl) : PS X (.For tg iter body [] pos) (tFor wi g tb) := by
  intro pins s σ H D I h
  refine wpAny_For (thn (hi pins s σ H _ I h) fun v s1 h1 => thn h1 fun itv s2 h2 => ?_) hs
  obtain ⟨it, fp, tn, J, H2, e, I2, T, st2, f2, W, ⟨m0, w0⟩, turn⟩ := h2
  subst e
  have stat : ∀ {H' : Hp}, (∀ b ∈ fp, H' b = none) -> ∀ b ∈ fp, FpOk X pins H' b := fun hn b hb => ⟨hn b hb, (f2 b hb).2⟩
  refine codeAny_forLoop_any (fun n s' => ∃ i σ' H', Inv X pins σ' H' s' /\ tn i s'.heap /\ (∀ b ∈ fp, H' b = none) /\ W i n σ' H') ?_ m0 ⟨0, σ, H2, I2, st2, fun b hb => (f2 b hb).1, w0⟩
  rintro n s3 ⟨i, σ3, H3, I3, st3, fr3, w3⟩
  rcases turn i n σ3 H3 w3 with ⟨stop, qn⟩ | ⟨go, N, hN, step⟩
  . refine wpAny_passesOwn hp (thn (T.done X rfl rfl rfl hc i pins s3 σ3 H3 X.xe I3 (stat fr3) st3 stop) fun r s4 ⟨hr, I4⟩ => ?_)
    subst hr
    exact wpAny_execs_nil ⟨σ3, H3, I4, qn⟩
  . refine wpAny_passesOwn hp (thn (T.item X rfl rfl rfl hc i pins s3 σ3 H3 X.xe I3 (stat fr3) st3 go) fun r s4 ⟨u, hr, h4⟩ => ?_)
    subst hr
    refine wpAny_passesOwn hp (thn h4 fun _ s5 ⟨x, H5, I5, r5, y5, st5, fr5⟩ => ?_)
    have I5' := I5.pinned (stat fr5) (T.obj _ _ st5)
    refine wpAny_passesOwn hp (thn (hg _ s5 σ3 H5 x u _ I5' r5 (step x H5 y5)) fun _ s6 ⟨σ6, H6, I6, q6⟩ => ?_)
    refine wpAny_passesOwn hp (thn (hb _ s6 σ6 H6 _ I6 q6) fun f s7 q7 => ?_)
    have again : ∀ {σ7 : St} {H7 : Hp}, Inv X (pins ++ pinsAt fp s5.heap) σ7 H7 s7 -> N σ7 H7 -> ∃ m, m < n /\ ∃ i σ' H', Inv X pins σ' H' s7 /\ tn i s7.heap /\ (∀ b ∈ fp, H' b = none) /\ W i m σ' H' := fun {σ7 H7} I7 n7 => by
      obtain ⟨m', hm, w7⟩ := hN σ7 H7 n7
      refine ⟨m', hm, i + 1, σ7, H7, I7.unpinned, T.keep _ _ _ st5 fun b hb o e => (I7.pin (b, o) (List.mem_append_right _ (List.mem_append_right _ (mem_pinsAt hb e)))).1, fun b hb => ?_, w7⟩
      obtain ⟨o, e, d⟩ := T.obj _ _ st5 b hb
      exact (I7.pin (b, o) (List.mem_append_right _ (List.mem_append_right _ (mem_pinsAt hb e)))).2.1
    cases f with
    | next => obtain ⟨σ7, H7, I7, n7⟩ := q7; exact again I7 n7
    | cont => obtain ⟨σ7, H7, I7, n7⟩ := q7; exact again I7 n7
    | brk => obtain ⟨σ7, H7, I7, q7⟩ := q7; exact ⟨σ7, H7, I7.unpinned, q7⟩
    | ret v => obtain ⟨x7, σ7, H7, I7, r7, q7⟩ := q7; exact ⟨x7, σ7, H7, I7.unpinned, r7, q7⟩
end
theorem for_list {K : PySem.W.Frag} {a : Addr} {xs : List V} {g : TG} {tb : TS} {D : Ends} {σ : St} {H : Hp} (Pv : Nat -> St -> Hp -> Prop) (h0 : Pv 0 σ H) (hl : ∀ i σ H, i <= xs.length -> Pv i σ H -> SqL K H a xs)
    (hs : ∀ i x σ H, xs[i]? = some x -> Pv i σ H -> g x σ H fun σ2 H2 => tb { D with nx := Pv (i + 1), ct := Pv (i + 1), bk := D.nx } σ2 H2) (hd : ∀ σ H, Pv xs.length σ H -> D.nx σ H) :
    ∃ W : Nat -> Nat -> St -> Hp -> Prop, (∃ m, W 0 m σ H) /\ ∀ i m σ H, W i m σ H ->
      ((Itl K a).stop i H /\ D.nx σ H) \/ ((Itl K a).go i H /\ ∃ N : St -> Hp -> Prop, (∀ σ' H', N σ' H' -> ∃ m', m' < m /\ W (i + 1) m' σ' H') /\ ∀ x H', (Itl K a).yld i H x H' -> g x σ H' fun σ2 H2 => tb { D with nx := N, ct := N, bk := D.nx } σ2 H2) := by
  refine ⟨fun i m σ H => m = xs.length - i /\ i <= xs.length /\ Pv i σ H, ⟨xs.length, by simp, Nat.zero_le _, h0⟩, ?_⟩
  rintro i m σ H ⟨rfl, hi, p⟩
  have q := hl i σ H hi p
  by_cases hlt : i < xs.length
  . refine .inr ⟨⟨xs, xs[i], q, by simp [hlt]⟩, Pv (i + 1), fun σ' H' p' => ⟨xs.length - (i + 1), by omega, rfl, hlt, p'⟩, fun x H' y => ?_⟩
    obtain ⟨e, y⟩ := y
    subst e
    exact hs i x σ _ (y xs q) p
  . have e : i = xs.length := by omega
    subst e
    exact .inl ⟨⟨xs, q, Nat.le_refl _⟩, hd σ H p⟩
theorem for_range {lo : Int} {n : Nat} {g : TG} {tb : TS} {D : Ends} {σ : St} {H : Hp} (Pv : Nat -> St -> Hp -> Prop) (h0 : Pv 0 σ H)
    (hs : ∀ i σ H, i < n -> Pv i σ H -> g (.int (lo + i)) σ H fun σ2 H2 => tb { D with nx := Pv (i + 1), ct := Pv (i + 1), bk := D.nx } σ2 H2) (hd : ∀ σ H, Pv n σ H -> D.nx σ H) :
    ∃ W : Nat -> Nat -> St -> Hp -> Prop, (∃ m, W 0 m σ H) /\ ∀ i m σ H, W i m σ H ->
      ((Itr lo n).stop i H /\ D.nx σ H) \/ ((Itr lo n).go i H /\ ∃ N : St -> Hp -> Prop, (∀ σ' H', N σ' H' -> ∃ m', m' < m /\ W (i + 1) m' σ' H') /\ ∀ x H', (Itr lo n).yld i H x H' -> g x σ H' fun σ2 H2 => tb { D with nx := N, ct := N, bk := D.nx } σ2 H2) := by
  refine ⟨fun i m σ H => m = n - i /\ i <= n /\ Pv i σ H, ⟨n, by simp, Nat.zero_le _, h0⟩, ?_⟩
  rintro i m σ H ⟨rfl, hi, p⟩
  by_cases hlt : i < n
  . refine .inr ⟨hlt, Pv (i + 1), fun σ' H' p' => ⟨n - (i + 1), by omega, rfl, hlt, p'⟩, fun x H' y => ?_⟩
    obtain ⟨e, y⟩ := y
    subst e y
    exact hs i σ _ hlt p
  . have e : i = n := by omega
    subst e
    exact .inl ⟨Nat.le_refl _, hd σ H p⟩
theorem while_by {c : TT} {tb : TS} {D : Ends} {σ : St} {H : Hp} (Pv : St -> Hp -> Prop) (μ : St -> Hp -> Nat) (h0 : Pv σ H)
    (hs : ∀ σ H, Pv σ H -> c σ H fun b H1 => if b = true then tb { D with nx := fun σ' H' => Pv σ' H' /\ μ σ' H' < μ σ H, ct := fun σ' H' => Pv σ' H' /\ μ σ' H' < μ σ H, bk := D.nx } σ H1 else D.nx σ H1)
    (mono : ∀ σ H Q Q', (∀ b H1, Q b H1 -> Q' b H1) -> c σ H Q -> c σ H Q') : tWhile c tb D σ H := by
  refine ⟨fun m σ H => m = μ σ H /\ Pv σ H, ⟨_, rfl, h0⟩, ?_⟩
  rintro m σ H ⟨rfl, p⟩
  refine mono σ H _ _ (fun b H1 q => ?_) (hs σ H p)
  cases b with
  | true => exact ⟨_, fun σ' H' ⟨p', l⟩ => ⟨_, l, rfl, p'⟩, q⟩
  | false => exact q
abbrev R2 := V -> V -> Hp -> VK -> Prop
def OpR (X : Cx) (f : Value -> Value -> Sem Value) (r : R2) : Prop :=
  ∀ (pins : List (Addr × Obj)) (s : Shared) (σ : St) (H : Hp) (x y : V) (v u : Value) (Q : VK), Inv X pins σ H s -> RelV x v -> RelV y u -> r x y H Q ->
    wpAny (model X.prog X.w) X.A (f v u) (EP X pins σ Q) X.xe s
def UnR (X : Cx) (f : Value -> Sem Value) (r : V -> Hp -> VK -> Prop) : Prop :=
  ∀ (pins : List (Addr × Obj)) (s : Shared) (σ : St) (H : Hp) (x : V) (v : Value) (Q : VK), Inv X pins σ H s -> RelV x v -> r x H Q ->
    wpAny (model X.prog X.w) X.A (f v) (EP X pins σ Q) X.xe s
def CallR (X : Cx) (f : Value) (r : List V -> Hp -> VK -> Prop) : Prop :=
  ∀ (pins : List (Addr × Obj)) (s : Shared) (σ : St) (H : Hp) (xs : List V) (us : List Value) (Q : VK), Inv X pins σ H s -> Vals xs us -> r xs H Q ->
    wpAny (model X.prog X.w) X.A (call f us) (EP X pins σ Q) X.xe s
def TruR (X : Cx) (r : V -> Hp -> (Bool -> Hp -> Prop) -> Prop) : Prop :=
  ∀ (pins : List (Addr × Obj)) (s : Shared) (σ : St) (H : Hp) (x : V) (v : Value) (Q : Bool -> Hp -> Prop), Inv X pins σ H s -> RelV x v -> r x H Q ->
    wpAny (model X.prog X.w) X.A (truthy v) (TP X pins σ Q) X.xe s
def tOp (r : R2) (ta tb : TE) : TE := fun σ H Q => ta σ H fun x H1 => tb σ H1 fun y H2 => r x y H2 Q
def tUn (r : V -> Hp -> VK -> Prop) (ta : TE) : TE := fun σ H Q => ta σ H fun x H1 => r x H1 Q
def rI (C : Int -> Int -> Prop) (g : Int -> Int -> V) : R2 := fun x y H Q => ∃ i j, x = .int i /\ y = .int j /\ C i j /\ Q (g i j) H
def rI0 (g : Int -> Int -> V) : R2 := fun x y H Q => ∃ i j, x = .int i /\ y = .int j /\ Q (g i j) H
def rU (g : Int -> V) : V -> Hp -> VK -> Prop := fun x H Q => ∃ i, x = .int i /\ Q (g i) H
section
variable {X : Cx} {a b c : Expr} {ta tb tc : TE} {pos : Pos}
theorem binT (ha : PE X a ta) (hb : PE X b tb) {pins : List (Addr × Obj)} {s : Shared} {σ : St} {H : Hp} {R : V -> V -> Hp -> Prop} (I : Inv X pins σ H s)
    (h : ta σ H fun x H1 => tb σ H1 fun y H2 => R x y H2) {Q : Value -> Shared -> Prop} {f : Value -> Value -> Sem Value}
    (hf : ∀ v u s2 x y H2, Inv X pins σ H2 s2 -> RelV x v -> RelV y u -> R x y H2 -> wpAny (model X.prog X.w) X.A (f v u) Q X.xe s2) :
    wpAny (model X.prog X.w) X.A (eval a X.env) (fun v s₁ => wpAny (model X.prog X.w) X.A (eval b X.env) (fun u s₂ => wpAny (model X.prog X.w) X.A (f v u) Q X.xe s₂) X.xe s₁) X.xe s := by
  refine thn (ha pins s σ H _ I h) fun v s1 ⟨x, H1, I1, r1, q1⟩ => ?_
  refine thn (hb pins s1 σ H1 _ I1 q1) fun u s2 ⟨y, H2, I2, r2, q2⟩ => ?_
  exact hf v u s2 x y H2 I2 r1 r2 q2
theorem pe_op {op : Operator} {r : R2} (ho : OpR X (binaryOp op) r) (ha : PE X a ta) (hb : PE X b tb) : PE X (.BinOp a op b pos) (tOp r ta tb) := by
  intro pins s σ H Q I h
  exact wpAny_BinOp (binT ha hb I h fun v u s2 x y H2 I2 rx ry q => ho pins s2 σ H2 x y v u Q I2 rx ry q)
theorem pe_un {op : UnaryOp} {r : V -> Hp -> VK -> Prop} (ho : UnR X (unaryOp op) r) (ha : PE X a ta) : PE X (.UnaryOp op a pos) (tUn r ta) := by
  intro pins s σ H Q I h
  exact UnaryOp_ (thn (ha pins s σ H _ I h) fun v s1 ⟨x, H1, I1, r1, q1⟩ => ho pins s1 σ H1 x v Q I1 r1 q1)
theorem opI {f : Value -> Value -> Sem Value} {C : Int -> Int -> Prop} {g : Int -> Int -> Int}
    (rule : ∀ (i j : Int) (t u : Tok) (s : Shared) (Q : Value -> Shared -> Prop) (E : Value -> Shared -> Prop), C i j -> Q (.int (g i j) s.toks) { s with toks := s.toks + 1 } -> wpAny (model X.prog X.w) X.A (f (.int i t) (.int j u)) Q E s) :
    OpR X f (rI C fun i j => .int (g i j)) := by
  intro pins s σ H x y v u Q I rx ry h
  obtain ⟨i, j, rfl, rfl, hc, q⟩ := h
  obtain ⟨t, rfl⟩ := rx
  obtain ⟨t', rfl⟩ := ry
  exact rule i j t t' s _ _ hc ⟨.int (g i j), H, I.tok _, ⟨_, rfl⟩, q⟩
theorem opI0 {f : Value -> Value -> Sem Value} {g : Int -> Int -> Int}
    (rule : ∀ (i j : Int) (t u : Tok) (s : Shared) (Q : Value -> Shared -> Prop) (E : Value -> Shared -> Prop), Q (.int (g i j) s.toks) { s with toks := s.toks + 1 } -> wpAny (model X.prog X.w) X.A (f (.int i t) (.int j u)) Q E s) :
    OpR X f (rI0 fun i j => .int (g i j)) := by
  intro pins s σ H x y v u Q I rx ry h
  obtain ⟨i, j, rfl, rfl, q⟩ := h
  obtain ⟨t, rfl⟩ := rx
  obtain ⟨t', rfl⟩ := ry
  exact rule i j t t' s _ _ ⟨.int (g i j), H, I.tok _, ⟨_, rfl⟩, q⟩
theorem opB0 {f : Value -> Value -> Sem Value} {g : Int -> Int -> Bool}
    (rule : ∀ (i j : Int) (t u : Tok) (s : Shared) (Q : Value -> Shared -> Prop) (E : Value -> Shared -> Prop), Q (.bool (g i j)) s -> wpAny (model X.prog X.w) X.A (f (.int i t) (.int j u)) Q E s) :
    OpR X f (rI0 fun i j => .bl (g i j)) := by
  intro pins s σ H x y v u Q I rx ry h
  obtain ⟨i, j, rfl, rfl, q⟩ := h
  obtain ⟨t, rfl⟩ := rx
  obtain ⟨t', rfl⟩ := ry
  exact rule i j t t' s _ _ ⟨.bl (g i j), H, I, rfl, q⟩
def CMul (i j : Int) : Prop := (-(2 ^ 64) < i /\ i < 2 ^ 64) \/ (-(2 ^ 64) < j /\ j < 2 ^ 64)
theorem op_add : OpR X (binaryOp .Add) (rI0 fun i j => .int (i + j)) := opI0 fun _ _ _ _ _ _ _ q => add_int q
theorem op_sub : OpR X (binaryOp .Sub) (rI0 fun i j => .int (i - j)) := opI0 fun _ _ _ _ _ _ _ q => sub_int q
theorem op_mod : OpR X (binaryOp .Mod) (rI (fun _ j => 0 < j) fun i j => .int (i % j)) := opI fun i j _ _ _ _ _ hc q => by
  have h1 : (0 : Int) < j := hc
  exact mod_int' (by omega) (by rw [Int.fmod_eq_emod_of_nonneg i (by omega)]; exact q)
theorem iop_add : OpR X (inplaceOp .Add) (rI0 fun i j => .int (i + j)) := opI0 fun _ _ _ _ _ _ _ q => iadd_int q
theorem unI {f : Value -> Sem Value} {g : Int -> Int}
    (rule : ∀ (i : Int) (t : Tok) (s : Shared) (Q : Value -> Shared -> Prop) (E : Value -> Shared -> Prop), Q (.int (g i) s.toks) { s with toks := s.toks + 1 } -> wpAny (model X.prog X.w) X.A (f (.int i t)) Q E s) :
    UnR X f (rU fun i => .int (g i)) := by
  intro pins s σ H x v Q I rx h
  obtain ⟨i, rfl, q⟩ := h
  obtain ⟨t, rfl⟩ := rx
  exact rule i t s _ _ ⟨.int (g i), H, I.tok _, ⟨_, rfl⟩, q⟩
theorem un_neg : UnR X (unaryOp .USub) (rU fun i => .int (-i)) := unI fun _ _ _ _ _ q => neg_int q
end
def scal : V -> V -> Bool
  | .non, .non => true | .non, .int _ => true | .int _, .non => true | .non, .bl _ => true | .bl _, .non => true | .non, .str _ => true | .str _, .non => true
  | .int _, .int _ => true | .bl _, .bl _ => true | .str _, .str _ => true | .byt _, .byt _ => true
  | .int _, .str _ => true | .str _, .int _ => true | .bl _, .str _ => true | .str _, .bl _ => true
  | _, _ => false
def rEq : R2 := fun x y H Q => scal x y = true /\ Q (.bl (decide (x = y))) H
def rNe : R2 := fun x y H Q => scal x y = true /\ Q (.bl (!decide (x = y))) H
theorem dec_int {i j : Int} : decide (V.int i = V.int j) = (i == j) := by
  rw [Bool.eq_iff_iff]
  simp
theorem dec_bl {i j : Bool} : decide (V.bl i = V.bl j) = (i == j) := by
  rw [Bool.eq_iff_iff]
  simp
theorem dec_str {i j : Str} : decide (V.str i = V.str j) = (i == j) := by
  rw [Bool.eq_iff_iff]
  simp
theorem dec_byt {i j : Array UInt8} : decide (V.byt i = V.byt j) = (i.toList == j.toList) := by
  rw [Bool.eq_iff_iff]
  cases i
  cases j
  simp
section
variable {X : Cx} {a b c : Expr} {ta tb tc : TE} {pos : Pos}
theorem fin_bl {pins : List (Addr × Obj)} {σ : St} {H : Hp} {s : Shared} {Q : VK} {k k' : Bool} (I : Inv X pins σ H s) (q : Q (.bl k) H) (e : k = k') : EP X pins σ Q (.bool k') s := by
  subst e
  exact ⟨.bl k, H, I, rfl, q⟩
theorem op_eq : OpR X (compareOp .Eq) rEq := by
  intro pins s σ H x y v u Q I rx ry h
  obtain ⟨hs, q⟩ := h
  cases x with
  | non =>
    cases rx
    cases y with
    | non => cases ry; exact PySem.EqNone.eq_none_none (fin_bl I q (by simp))
    | bl j => cases ry; exact PySem.EqNone.eq_none_bool (fin_bl I q (by simp))
    | int j => obtain ⟨t', rfl⟩ := ry; exact PySem.EqNone.eq_none_int (fin_bl I q (by simp))
    | str j => obtain ⟨t', rfl⟩ := ry; exact PySem.EqNone.eq_none_str (fin_bl I q (by simp))
    | _ => exact absurd (show false = true from hs) Bool.false_ne_true
  | bl i =>
    cases rx
    cases y with
    | non => cases ry; exact PySem.EqNone.eq_bool_none (fin_bl I q (by simp))
    | bl j => cases ry; exact eq_bool (fin_bl I q dec_bl)
    | str j => obtain ⟨t', rfl⟩ := ry; exact PySem.EqMixed.eq_bool_str (fin_bl I q (by simp))
    | _ => exact absurd (show false = true from hs) Bool.false_ne_true
  | int i =>
    obtain ⟨t, rfl⟩ := rx
    cases y with
    | non => cases ry; exact PySem.EqNone.eq_int_none (fin_bl I q (by simp))
    | int j => obtain ⟨t', rfl⟩ := ry; exact eq_int (fin_bl I q dec_int)
    | str j => obtain ⟨t', rfl⟩ := ry; exact PySem.EqMixed.eq_int_str (fin_bl I q (by simp))
    | _ => exact absurd (show false = true from hs) Bool.false_ne_true
  | str i =>
    obtain ⟨t, rfl⟩ := rx
    cases y with
    | non => cases ry; exact PySem.EqNone.eq_str_none (fin_bl I q (by simp))
    | bl j => cases ry; exact PySem.EqMixed.eq_str_bool (fin_bl I q (by simp))
    | int j => obtain ⟨t', rfl⟩ := ry; exact PySem.EqMixed.eq_str_int (fin_bl I q (by simp))
    | str j => obtain ⟨t', rfl⟩ := ry; exact eq_str (fin_bl I q dec_str)
    | _ => exact absurd (show false = true from hs) Bool.false_ne_true
  | byt i =>
    obtain ⟨t, rfl⟩ := rx
    cases y with
    | byt j => obtain ⟨t', rfl⟩ := ry; exact PySem.W.eq_bytes (fin_bl I q dec_byt)
    | _ => exact absurd (show false = true from hs) Bool.false_ne_true
  | _ => cases y <;> exact absurd (show false = true from hs) Bool.false_ne_true
theorem op_ne : OpR X (compareOp .NotEq) rNe := by
  intro pins s σ H x y v u Q I rx ry h
  obtain ⟨hs, q⟩ := h
  cases x with
  | non =>
    cases rx
    cases y with
    | non => cases ry; exact PySem.EqNone.ne_none_none (fin_bl I q (by simp))
    | bl j => cases ry; exact PySem.EqNone.ne_none_bool (fin_bl I q (by simp))
    | int j => obtain ⟨t', rfl⟩ := ry; exact PySem.EqNone.ne_none_int (fin_bl I q (by simp))
    | str j => obtain ⟨t', rfl⟩ := ry; exact PySem.EqNone.ne_none_str (fin_bl I q (by simp))
    | _ => exact absurd (show false = true from hs) Bool.false_ne_true
  | bl i =>
    cases rx
    cases y with
    | non => cases ry; exact PySem.EqNone.ne_bool_none (fin_bl I q (by simp))
    | bl j => cases ry; exact ne_bool (fin_bl I q (congrArg not dec_bl))
    | str j => obtain ⟨t', rfl⟩ := ry; exact PySem.EqMixed.ne_bool_str (fin_bl I q (by simp))
    | _ => exact absurd (show false = true from hs) Bool.false_ne_true
  | int i =>
    obtain ⟨t, rfl⟩ := rx
    cases y with
    | non => cases ry; exact PySem.EqNone.ne_int_none (fin_bl I q (by simp))
    | int j => obtain ⟨t', rfl⟩ := ry; exact ne_int (fin_bl I q (congrArg not dec_int))
    | str j => obtain ⟨t', rfl⟩ := ry; exact PySem.EqMixed.ne_int_str (fin_bl I q (by simp))
    | _ => exact absurd (show false = true from hs) Bool.false_ne_true
  | str i =>
    obtain ⟨t, rfl⟩ := rx
    cases y with
    | non => cases ry; exact PySem.EqNone.ne_str_none (fin_bl I q (by simp))
    | bl j => cases ry; exact PySem.EqMixed.ne_str_bool (fin_bl I q (by simp))
    | int j => obtain ⟨t', rfl⟩ := ry; exact PySem.EqMixed.ne_str_int (fin_bl I q (by simp))
    | str j => obtain ⟨t', rfl⟩ := ry; exact ne_str (fin_bl I q (congrArg not dec_str))
    | _ => exact absurd (show false = true from hs) Bool.false_ne_true
  | byt i =>
    obtain ⟨t, rfl⟩ := rx
    cases y with
    | byt j => obtain ⟨t', rfl⟩ := ry; exact PySem.W.ne_bytes (fin_bl I q (congrArg not dec_byt))
    | _ => exact absurd (show false = true from hs) Bool.false_ne_true
  | _ => cases y <;> exact absurd (show false = true from hs) Bool.false_ne_true
theorem op_lt : OpR X (compareOp .Lt) (rI0 fun i j => .bl (decide (i < j))) := opB0 fun _ _ _ _ _ _ _ q => lt_int q
theorem op_le : OpR X (compareOp .LtE) (rI0 fun i j => .bl (decide (i <= j))) := opB0 fun _ _ _ _ _ _ _ q => le_int q
theorem op_gt : OpR X (compareOp .Gt) (rI0 fun i j => .bl (decide (j < i))) := opB0 fun _ _ _ _ _ _ _ q => gt_int q
theorem op_ge : OpR X (compareOp .GtE) (rI0 fun i j => .bl (decide (j <= i))) := opB0 fun _ _ _ _ _ _ _ q => ge_int q
theorem nomark (b : Expr) {op : CmpOp} (h : op ≠ .In := by decide) (h2 : op ≠ .NotIn := by decide) : behindInMarks op b = false := by
  have e1 : (op == CmpOp.In) = false := by cases op <;> first | rfl | exact absurd rfl h
  have e2 : (op == CmpOp.NotIn) = false := by cases op <;> first | rfl | exact absurd rfl h2
  cases b <;> simp [behindInMarks, e1, e2]
theorem pe_cmpR {op : CmpOp} {r : R2} (ho : OpR X (compareOp op) r) (ha : PE X a ta) (hb : PE X b tb) (hm : behindInMarks op b = false) : PE X (.Compare a [op] [b] pos) (tOp r ta tb) := by
  intro pins s σ H Q I h
  exact wpAny_Compare1 (binT ha hb I h fun v u s2 x y H2 I2 rx ry q => ho pins s2 σ H2 x y v u Q I2 rx ry q) hm
def tTest (t : TE) : TT := fun σ H Q => t σ H fun x H' => ∃ k, x = .bl k /\ Q k H'
theorem pt_cmpR {op : CmpOp} {r : R2} (ho : OpR X (compareOp op) r) (ha : PE X a ta) (hb : PE X b tb) (hm : behindInMarks op b = false) : PT X (.Compare a [op] [b] pos) (tTest (tOp r ta tb)) := by
  intro pins s σ H Q I h
  refine wpAny_isTrue_Compare1 (thn (ha pins s σ H _ I h) fun v s1 ⟨x, H1, I1, r1, q1⟩ => thn (hb pins s1 σ H1 _ I1 q1) fun u s2 ⟨y, H2, I2, r2, q2⟩ =>
    thn (ho pins s2 σ H2 x y v u _ I2 r1 r2 q2) fun c s3 ⟨z, H3, I3, r3, k, e, q3⟩ => ?_) hm
  subst e
  cases r3
  exact wpAny_truthy_bool ⟨H3, I3, q3⟩
def TruV (K : PySem.W.Frag) (x : V) (H : Hp) (k : Bool) : Prop :=
  match x with
  | .non => k = false
  | .bl b => k = b
  | .int i => k = (i != 0)
  | .str y => y.length <= sizeLine /\ k = ((y.length : Int) != 0)
  | .byt y => y.size <= sizeLine /\ k = ((y.size : Int) != 0)
  | .ref p => (∃ xs, SqL K H p xs /\ k = !xs.isEmpty) \/ (∃ xs, SqT K H p xs /\ k = !xs.isEmpty) \/ ∃ kvs, H p = some (.dK kvs) /\ k = !kvs.isEmpty
  | _ => False
theorem isEmpty_kv {κ : Type} {kvs : List (κ × V)} {vs : List (κ × Value)} (r : KV kvs vs) : (!vs.isEmpty) = !kvs.isEmpty := by
  cases r <;> rfl
theorem isEmpty_of {xs : List V} {its : List Value} (r : Vals xs its) : (!its.toArray.isEmpty) = !xs.isEmpty := by
  cases r <;> simp
theorem line63 : (sizeLine : Nat) < 2 ^ 63 := by rw [sizeLine_eq]; decide
theorem tru_ok : TruR X (fun x H Q => ∃ k, TruV X.K x H k /\ Q k H) := by
  intro pins s σ H x v Q I rx h
  obtain ⟨k, e, q⟩ := h
  have hl := line63
  have hs : sizeLine = 16777216 := sizeLine_eq
  cases x with
  | non =>
    cases rx
    have e' : k = false := e
    subst e'
    exact truthy_none ⟨H, I, q⟩
  | bl b =>
    cases rx
    have e' : k = b := e
    subst e'
    exact wpAny_truthy_bool ⟨H, I, q⟩
  | int i =>
    obtain ⟨t, rfl⟩ := rx
    have e' : k = (i != 0) := e
    subst e'
    exact PySem.P.truthy_int ⟨H, I, q⟩
  | str y =>
    obtain ⟨t, rfl⟩ := rx
    obtain ⟨hy, e'⟩ : y.length <= sizeLine /\ k = ((y.length : Int) != 0) := e
    subst e'
    exact PySem.P.truthy_str (by omega) ⟨H, I.tok _, q⟩
  | byt y =>
    obtain ⟨t, rfl⟩ := rx
    obtain ⟨hy, e'⟩ : y.size <= sizeLine /\ k = ((y.size : Int) != 0) := e
    subst e'
    exact PySem.W.truthy_bytes (by omega) ⟨H, I.tok _, q⟩
  | ref p =>
    cases rx
    have e' : (∃ xs, SqL X.K H p xs /\ k = !xs.isEmpty) \/ (∃ xs, SqT X.K H p xs /\ k = !xs.isEmpty) \/ ∃ kvs, H p = some (.dK kvs) /\ k = !kvs.isEmpty := e
    rcases e' with ⟨xs, hx, e'⟩ | ⟨xs, hx, e'⟩ | ⟨kvs, hx, e'⟩
    . subst e'
      obtain ⟨its, r, pl, hz⟩ := I.list hx
      have hlen := r.length
      exact wpAny_truthy_list pl.isList (by simp only [List.size_toArray]; omega) ⟨H, I.tok _, by rw [isEmpty_of r]; exact q⟩
    . subst e'
      obtain ⟨its, r, pl, hz⟩ := I.tuple hx
      have hlen := r.length
      exact truthy_tuple pl (by simp only [List.size_toArray]; omega) ⟨H, I.tok _, by rw [isEmpty_of r]; exact q⟩
    . subst e'
      obtain ⟨hz, hS, vs, r, m⟩ : kvs.length <= sizeLine /\ (p == sysModules) = false /\ ∃ vs, KV kvs vs /\ s.heap.DictOf (mixKind X.prog X.w) p vs := I.hok p _ hx
      have hlen : kvs.length = vs.length := Paired.length r
      exact wpAny_truthy_dict hS m (by omega) ⟨H, I.tok _, by rw [isEmpty_kv r]; exact q⟩
  | _ => exact (show False from e).elim
theorem pt_truth (ha : PE X a ta) (he : ∀ whole, isTrue a X.env whole = (do let v <- whole; standAt a.pos; holding [v] (truthy v))) :
    PT X a (fun σ H Q => ta σ H fun x H' => ∃ k, TruV X.K x H' k /\ Q k H') := by
  intro pins s σ H Q I h
  exact isTrue_plain (thn (ha pins s σ H _ I h) fun v s1 ⟨x, H1, I1, r1, q1⟩ => tru_ok pins s1 σ H1 x v Q I1 r1 q1) (he _)
theorem vals1 {x : V} {us : List Value} (r : Vals [x] us) : ∃ u, us = [u] /\ RelV x u := by
  cases r with
  | cons r1 r2 => cases r2; exact ⟨_, rfl, r1⟩
theorem vals2 {x y : V} {us : List Value} (r : Vals [x, y] us) : ∃ u w', us = [u, w'] /\ RelV x u /\ RelV y w' := by
  cases r with
  | cons r1 r2 =>
    cases r2 with
    | cons r3 r4 => cases r4; exact ⟨_, _, rfl, r1, r3⟩
theorem call_max2 (hc : X.calm = true) : CallR X (.builtin "max") (fun xs H Q => ∃ i j, xs = [.int i, .int j] /\ Q (.int (if j > i then j else i)) H) := by
  intro pins s σ H xs us Q I r h
  obtain ⟨i, j, rfl, q⟩ := h
  obtain ⟨u, w', rfl, ⟨t, rfl⟩, ⟨t', rfl⟩⟩ := vals2 r
  refine max_two_ints (I.ok.hd hc) fun h' tk k => ⟨_, H, I.kept k, ?_, q⟩
  by_cases hj : j > i
  . rw [if_pos hj, if_pos hj]; exact ⟨_, rfl⟩
  . rw [if_neg hj, if_neg hj]; exact ⟨_, rfl⟩
theorem call_min2 (hc : X.calm = true) : CallR X (.builtin "min") (fun xs H Q => ∃ i j, xs = [.int i, .int j] /\ Q (.int (if j < i then j else i)) H) := by
  intro pins s σ H xs us Q I r h
  obtain ⟨i, j, rfl, q⟩ := h
  obtain ⟨u, w', rfl, ⟨t, rfl⟩, ⟨t', rfl⟩⟩ := vals2 r
  refine min_two_ints (I.ok.hd hc) fun h' tk k => ⟨_, H, I.kept k, ?_, q⟩
  by_cases hj : j < i
  . rw [if_pos hj, if_pos hj]; exact ⟨_, rfl⟩
  . rw [if_neg hj, if_neg hj]; exact ⟨_, rfl⟩
end
structure ObjM (h : Heap) (x dx C : Addr) (mA : Str -> Option Value) : Prop where
  obj : h.get? x = some (PySem.W.instObj C dx)
  ns : h.Ns1 dx mA
  ne : dx ≠ x
theorem lookIn_ns {h : Heap} {dx : Addr} {mA : Str -> Option Value} (n : h.Ns1 dx mA) : ∃ od, h.get? dx = some od /\ ∀ name, PySem.W.lookIn name od = some (mA name) := by
  obtain ⟨o, es, ep, ho, hd, hk, _, hm⟩ := n
  refine ⟨o, ho, fun name => ?_⟩
  have e := hm name
  unfold nsFind findBy at e
  rw [<- Array.find?_toList] at e
  unfold PySem.W.lookIn
  rw [hd]
  dsimp only
  split
  . rename_i y q
    rw [q] at e
    exact congrArg some e
  . rename_i q
    rw [q] at e
    have a : es.toList.any (·.refKey) = false := by
      rw [List.any_eq_false]
      intro y hy
      obtain ⟨z, t, hkey⟩ := hk y (Array.mem_toList_iff.mp hy)
      simp [DictEntry.refKey, hkey]
    have a' : ¬ es.toList.any (·.refKey) = true := by rw [a]; exact Bool.false_ne_true
    rw [if_neg a']
    exact congrArg some e
theorem ObjM.look {h : Heap} {x dx C : Addr} {mA : Str -> Option Value} (I : ObjM h x dx C mA) : ∃ od, PySem.W.InstAt h x (PySem.W.instObj C dx) C (some od) /\ ∀ name, PySem.W.lookIn name od = some (mA name) :=
  let ⟨od, ho, hl⟩ := lookIn_ns I.ns
  ⟨od, ⟨I.obj, rfl, rfl, ho⟩, hl⟩
section
variable {prog : Program} {w : World} {A : Around} {E : Value -> Shared -> Prop} {s : Shared} {K : PySem.W.Frag} {x dx C f : Addr} {mA : Str -> Option Value} {name : Str} {v : Value}
theorem get_map {expr : Bool} {Q : Value -> Shared -> Prop} (X : K.In s.heap) (I : ObjM s.heap x dx C mA) (hg : PySem.W.plainGet K C name = true) (hh : PySem.W.hasDictIn K C = true)
    (ha : PySem.W.findIn K (.ref C) name = some none) (hv : mA name = some v) (hv' : PySem.W.handedIn v = true) (h : Q v { s with toks := s.toks + 1 }) :
    wpAny (model prog w) A (getAttr (.ref x) name expr) Q E s := by
  obtain ⟨od, J, hl⟩ := I.look
  exact PySem.W.get_value X J (PySem.W.plainGet_of hg).1 (PySem.W.findObj_own hh ha rfl (by rw [hl, hv])) hv' h
theorem get_meth {pl : Sem Bool} {Q : Value × List Value -> Shared -> Prop} (X : K.In s.heap) (I : ObjM s.heap x dx C mA) (hg : PySem.W.plainGet K C name = true)
    (hf : PySem.W.findIn K (.ref C) name = some (some (.ref f))) (ht : PySem.W.isFn K (.ref f) = true) (hv : mA name = none) (h : Q (.ref f, [.ref x]) s) :
    wpAny (model prog w) A (getMethod (.ref x) name pl) Q E s := by
  obtain ⟨od, J, hl⟩ := I.look
  exact PySem.W.method_fn X J (PySem.W.plainGet_of hg).1 (PySem.W.plainGet_of hg).2 hf (beq_iff_eq.mp ht) (by show (PySem.W.lookIn name od).map (·.isSome) = some false; rw [hl, hv]; rfl) h
theorem set_map {ns : List Str} {Q : Unit -> Shared -> Prop} (X : K.In s.heap) (I : ObjM s.heap x dx C mA)
    (hs : PySem.W.findIn K (.ref C) "__setattr__" = some (some (.builtin "object.__setattr__"))) (hp : PySem.W.plainOver K C = true) (ht : PySem.W.takerIn K C name = some none) (hh : PySem.W.hasDictIn K C = true)
    (hw : PySem.Within mA ns) (hsz : ns.length <= sizeLine)
    (h : ∀ h', ObjM h' x dx C (fun y => if y = name then some v else mA y) -> Heap.SameBut dx s.heap h' -> Q () { s with heap := h', toks := s.toks + 2 }) :
    wpAny (model prog w) A (setAttr (.ref x) name v) Q E s := by
  obtain ⟨od, J, hl⟩ := I.look
  refine PySem.W.set_plain X J hs (PySem.W.osa_open (s := { s with toks := s.toks + 1 }) (r := none) X J hp ht fun b => ?_)
  obtain ⟨cd, hc, hd'⟩ := PySem.W.any_some hh
  have hx : s.heap.get? x = some ⟨.ref C, some dx, .plain, #[]⟩ := I.obj
  refine wpAny_bind (wpAny_pure (wpAny_bind (wpAny_bind (wpAny_loadPart hx (wpAny_bind (PySem.W.Looks.here (s := { s with toks := s.toks + 1 }) (PySem.W.looks_clsIn X hc) ?_))))))
  rw [hd']
  refine wpAny_pure (a := some dx) (wpAny_bind (wpAny_pure (wpAny_bind ?_)))
  refine wpAny_nsSet1 (s := { s with toks := s.toks + 1 }) I.ns fun h' hn2 hs2 => ?_
  obtain ⟨oD, esD, epD, hoD, hdD, hcD⟩ := hn2.count (PySem.Within.cons name v hw)
  refine wpAny_bind (wpAny_lookBehind hoD (by rw [hdD]; exact pastItsLine_dict (Nat.le_trans hcD (by rw [List.length_cons]; omega))) ?_)
  exact wpAny_pure (h _ ⟨(hs2.2 _ (Ne.symm I.ne)).trans I.obj, hn2, I.ne⟩ hs2)
theorem make_map {R : Result -> Shared -> Prop} {vs : List Value} {kw : List (Str × Value)} (X : K.In s.heap) (hm : PySem.W.makesIn K C = true)
    (hi : PySem.W.findIn K (.ref C) "__init__" = some (some (.ref f))) (hf : PySem.W.typeIn K (.ref f) = some (.type "function"))
    (h : codeAny (model prog w) (A.under (.builtin "type.__call__" ⟨.ref C :: vs, kw⟩)) (.call (.ref f) ⟨.ref (s.heap.objs.size + 1) :: vs, kw⟩) (PySem.W.InitBack (s.heap.objs.size + 1) R)
      { s with heap := (s.heap.push PySem.W.emptyDict).push (PySem.W.instObj C s.heap.objs.size) }) :
    codeAny (model prog w) A (.call (.ref C) ⟨vs, kw⟩) R s := by
  obtain ⟨hh, g, d, t, os⟩ := s
  exact PySem.W.make_core (PySem.W.makes_of X hm) (PySem.W.looks_findIn X hi) (fun self => PySem.W.bind_fn X self hf) (.inl rfl) h
end
def putF (f : Str) (v : V) : List (Str × V) -> List (Str × V)
  | [] => [(f, v)]
  | (g, x) :: r => if g = f then (g, v) :: r else (g, x) :: putF f v r
theorem lookup_putF (f g : Str) (v : V) : ∀ fs : List (Str × V), (putF f v fs).lookup g = if g = f then some v else fs.lookup g
  | [] => by
    show List.lookup g [(f, v)] = _
    by_cases h : g = f
    . have hb : (g == f) = true := beq_iff_eq.mpr h
      simp only [List.lookup, hb, if_pos h]
    . have hb : (g == f) = false := beq_eq_false_iff_ne.mpr h
      simp only [List.lookup, hb, if_neg h]
  | (k, x) :: r => by
    have ih := lookup_putF f g v r
    rw [show putF f v ((k, x) :: r) = (if k = f then (k, v) :: r else (k, x) :: putF f v r) from rfl]
    by_cases hk : k = f
    . rw [if_pos hk]
      by_cases h : g = k
      . have hb : (g == k) = true := beq_iff_eq.mpr h
        simp only [List.lookup, hb, if_pos (h.trans hk)]
      . have hb : (g == k) = false := beq_eq_false_iff_ne.mpr h
        simp only [List.lookup, hb, if_neg (fun e : g = f => h (e.trans hk.symm))]
    . rw [if_neg hk]
      by_cases h : g = k
      . have hb : (g == k) = true := beq_iff_eq.mpr h
        simp only [List.lookup, hb, if_neg (fun e : g = f => hk (h.symm.trans e))]
      . have hb : (g == k) = false := beq_eq_false_iff_ne.mpr h
        simp only [List.lookup, hb]
        exact ih
theorem keys_putF (f : Str) (v : V) : ∀ fs : List (Str × V), f ∈ (putF f v fs).map (·.1) /\ ∀ g, g ∈ fs.map (·.1) -> g ∈ (putF f v fs).map (·.1)
  | [] => ⟨by simp [putF], fun g h => by simp at h⟩
  | (k, x) :: r => by
    obtain ⟨i1, i2⟩ := keys_putF f v r
    rw [show putF f v ((k, x) :: r) = (if k = f then (k, v) :: r else (k, x) :: putF f v r) from rfl]
    by_cases hk : k = f
    . rw [if_pos hk]
      subst hk
      exact ⟨by simp, fun g h => by simpa using h⟩
    . rw [if_neg hk]
      refine ⟨?_, fun g h => ?_⟩
      . rw [List.map_cons]
        exact List.mem_cons_of_mem _ i1
      . rw [List.map_cons] at h ⊢
        rcases List.mem_cons.mp h with e | e
        . exact List.mem_cons.mpr (.inl e)
        . exact List.mem_cons_of_mem _ (i2 g e)
theorem length_putF (f : Str) (v : V) : ∀ fs : List (Str × V), (putF f v fs).length <= fs.length + 1
  | [] => by simp [putF]
  | (k, x) :: r => by
    have ih := length_putF f v r
    rw [show putF f v ((k, x) :: r) = (if k = f then (k, v) :: r else (k, x) :: putF f v r) from rfl]
    by_cases hk : k = f
    . rw [if_pos hk, List.length_cons, List.length_cons]; omega
    . rw [if_neg hk, List.length_cons, List.length_cons]; omega
theorem RelO.some_of {v : V} {o : Option Value} (r : RelO (some v) o) : ∃ u, o = some u /\ RelV v u := by
  cases o with
  | none => exact (show False from r).elim
  | some u => exact ⟨u, rfl, r⟩
theorem RelO.none_of {o : Option Value} (r : RelO none o) : o = none := by
  cases o with
  | none => rfl
  | some u => exact (show False from r).elim
theorem handed_of {v : V} {u : Value} (r : RelV v u) : PySem.W.handedIn u = true := by
  cases v with
  | non => cases (show u = Value.none from r); rfl
  | bl b => cases (show u = Value.bool b from r); rfl
  | int i => obtain ⟨t, e⟩ := (show ∃ t, u = Value.int i t from r); cases e; rfl
  | str x => obtain ⟨t, e⟩ := (show ∃ t, u = Value.str x t from r); cases e; rfl
  | byt b => obtain ⟨t, e⟩ := (show ∃ t, u = Value.bytes b t from r); cases e; rfl
  | flt b => obtain ⟨t, e⟩ := (show ∃ t, u = Value.float b t from r); cases e; rfl
  | ref a => cases (show u = Value.ref a from r); rfl
  | ty n => cases (show u = Value.type n from r); rfl
section
variable {P : Program} {w : World} {H H' : Hp} {h h' : Heap} {a C dx : Addr} {fs fs' : List (Str × V)}
theorem ins_get (hok : HOk P w H h) (e : H a = some (.ins C dx fs)) : ∃ mA, ObjM h a dx C mA /\ (∀ f, RelO (fs.lookup f) (mA f)) /\ PySem.Within mA (fs.map (·.1)) /\ fs.length <= 1000 /\ H dx = some (.own a) := by
  obtain ⟨d, z, ne, ob, mA, n, r, q⟩ := (show ObjOk P w H h a (.ins C dx fs) from hok a _ e)
  exact ⟨mA, ⟨ob, n, ne⟩, r, q, z, d⟩
end
structure Cls (K : PySem.W.Frag) (C : Addr) : Prop where
  pg : PySem.W.plainGet K C Str.empty = true
  hd : PySem.W.hasDictIn K C = true
  po : PySem.W.plainOver K C = true
  sa : PySem.W.findIn K (.ref C) "__setattr__" = some (some (.builtin "object.__setattr__"))
theorem Cls.get {K : PySem.W.Frag} {C : Addr} (c : Cls K C) (f : Str) : PySem.W.plainGet K C f = true := c.pg
def NoAttr (K : PySem.W.Frag) (C : Addr) (f : Str) : Prop := PySem.W.findIn K (.ref C) f = some none
theorem NoAttr.taker {K : PySem.W.Frag} {C : Addr} {f : Str} (n : NoAttr K C f) : PySem.W.takerIn K C f = some none := by
  unfold PySem.W.takerIn
  rw [show PySem.W.findIn K (.ref C) f = some none from n]
  rfl
structure Meth (K : PySem.W.Frag) (C : Addr) (m : Str) (f : Addr) : Prop where
  at_ : PySem.W.findIn K (.ref C) m = some (some (.ref f))
  fn : PySem.W.isFn K (.ref f) = true
  kp : PySem.W.keepIn K (.ref f) = true
section
variable {X : Cx} {pins : List (Addr × Obj)} {σ : St} {H : Hp} {s : Shared} {a C dx : Addr} {fs : List (Str × V)} {f : Str} {v : V} {A : Around} {E : Value -> Shared -> Prop}
theorem getattr_ok {b : Bool} {Q : Value -> Shared -> Prop} (I : Inv X pins σ H s) (e : H a = some (.ins C dx fs)) (c : Cls X.K C) (n : NoAttr X.K C f) (l : fs.lookup f = some v)
    (h : ∀ u s', Inv X pins σ H s' -> RelV v u -> Q u s') : wpAny (model X.prog X.w) A (getAttr (.ref a) f b) Q E s := by
  obtain ⟨mA, O, r, _, _, _⟩ := ins_get I.hok e
  obtain ⟨u, hu, ru⟩ := RelO.some_of (v := v) (o := mA f) (by rw [<- l]; exact r f)
  exact get_map I.kIn O (c.get f) c.hd n hu (handed_of ru) (h u _ (I.tok _) ru)
theorem getmeth_ok {m : Str} {g : Addr} {pl : Sem Bool} {Q : Value × List Value -> Shared -> Prop} (I : Inv X pins σ H s) (e : H a = some (.ins C dx fs)) (c : Cls X.K C) (k : Meth X.K C m g) (l : fs.lookup m = none)
    (h : Q (.ref g, [.ref a]) s) : wpAny (model X.prog X.w) A (getMethod (.ref a) m pl) Q E s := by
  obtain ⟨mA, O, r, _, _, _⟩ := ins_get I.hok e
  have hn : mA m = none := RelO.none_of (by rw [<- l]; exact r m)
  exact get_meth I.kIn O (c.get m) k.at_ k.fn hn h
theorem setattr_ok {y : V} {u : Value} {Q : Unit -> Shared -> Prop} (I : Inv X pins σ H s) (e : H a = some (.ins C dx fs)) (c : Cls X.K C) (n : NoAttr X.K C f) (hl : fs.length < 1000) (ry : RelV y u)
    (h : ∀ s', Inv X pins σ (upd H a (.ins C dx (putF f y fs))) s' -> Q () s') : wpAny (model X.prog X.w) A (setAttr (.ref a) f u) Q E s := by
  obtain ⟨mA, O, r, wi, _, ho⟩ := ins_get I.hok e
  have hz : (fs.map (·.1)).length <= sizeLine := by rw [List.length_map, sizeLine_eq]; omega
  refine set_map I.kIn O c.sa c.po n.taker c.hd wi hz fun h' O' sb => h _ ?_
  have hd : ∃ o, h'.get? dx = some o := let ⟨o, _, _, e', _⟩ := O'.ns; ⟨o, e'⟩
  refine I.write (x := a) (e := dx) (by rw [e]; exact tT) (.inr ho) (fun b q hb z => (sb.2 b hb).trans z) hd ?_
  refine ⟨by rw [upd_ne O.ne]; exact ho, ?_, O.ne, O'.obj, _, O'.ns, fun g => ?_, fun g hg => ?_⟩
  . have := length_putF f y fs; omega
  . show RelO ((putF f y fs).lookup g) (if g = f then some u else mA g)
    rw [lookup_putF]
    by_cases q : g = f
    . rw [if_pos q, if_pos q]; exact ry
    . rw [if_neg q, if_neg q]; exact r g
  . by_cases q : g = f
    . rw [q]; exact (keys_putF f y fs).1
    . refine (keys_putF f y fs).2 g (wi g fun z => hg ?_)
      show (if g = f then some u else mA g) = none
      rw [if_neg q]; exact z
theorem Inv.made (I : Inv X pins σ H s) : Inv X pins σ (upd (upd H s.heap.objs.size (.own (s.heap.objs.size + 1))) (s.heap.objs.size + 1) (.ins C s.heap.objs.size []))
    { s with heap := (s.heap.push PySem.W.emptyDict).push (PySem.W.instObj C s.heap.objs.size) } := by
  have e1 : (s.heap.push PySem.W.emptyDict).get? s.heap.objs.size = some PySem.W.emptyDict := Heap.get?_push_size s.heap rfl
  have e2 : ((s.heap.push PySem.W.emptyDict).push (PySem.W.instObj C s.heap.objs.size)).get? (s.heap.objs.size + 1) = some (PySem.W.instObj C s.heap.objs.size) := by
    have := Heap.get?_push_size (s.heap.push PySem.W.emptyDict) (o := PySem.W.instObj C s.heap.objs.size) rfl
    rwa [Heap.size_push] at this
  have e3 : (s.heap.push PySem.W.emptyDict).Ns s.heap.objs.size (fun _ => none) := ⟨PySem.W.emptyDict, #[], _, e1, rfl, (fun e he => absurd he (by simp)), fun _ => rfl⟩
  have I1 := I.laid (a := s.heap.objs.size) (o := .own (s.heap.objs.size + 1)) (h' := s.heap.push PySem.W.emptyDict) (t' := s.toks) (fun b u q => Heap.get?_push_of_some _ q) (Nat.le_refl _) ⟨_, e1⟩
  refine I1.laid (a := s.heap.objs.size + 1) (o := .ins C s.heap.objs.size []) (t' := s.toks) (fun b u q => Heap.get?_push_of_some _ q) (Nat.le_of_eq (Heap.size_push _ _)) ?_
  have ne : s.heap.objs.size ≠ s.heap.objs.size + 1 := Nat.ne_of_lt (Nat.lt_succ_self _)
  refine ⟨by rw [upd_ne ne, upd_same], Nat.zero_le _, ne, e2, fun _ => none, (Heap.Ns1.of_empty e3).at fun o q => Heap.get?_push_of_some _ q, fun _ => tT, fun y hy => absurd rfl hy⟩
theorem attr_of {prog : Program} {w : World} {env : Env} {e : Expr} {f : Str} {pos : Pos} {s : Shared} {Q : Value -> Shared -> Prop} (hb : attributeBase e f env (eval e env) = eval e env)
    (h : wpAny (model prog w) A (eval e env) (fun o s₁ => wpAny (model prog w) A (getAttr o f true) Q E s₁) E s) : wpAny (model prog w) A (eval (.Attribute e f pos) env) Q E s :=
  Attribute_any_ h (by rw [arm_eval_Attribute, hb])
end
def tFld (K : PySem.W.Frag) (ta : TE) (f : Str) : TE := fun σ H Q => ta σ H fun x H1 => ∃ a C dx fs v, x = .ref a /\ H1 a = some (.ins C dx fs) /\ Cls K C /\ NoAttr K C f /\ fs.lookup f = some v /\ Q v H1
def sFld (K : PySem.W.Frag) (ta tv : TE) (f : Str) : TS := fun D σ H => tv σ H fun y H1 => ta σ H1 fun x H2 => ∃ a C dx fs, x = .ref a /\ H2 a = some (.ins C dx fs) /\ Cls K C /\ NoAttr K C f /\ fs.length < 1000 /\
  D.nx σ (upd H2 a (.ins C dx (putF f y fs)))
section
variable {X : Cx} {o e value : Expr} {f : Str} {pos pos' tpos : Pos} {ta tv : TE}
theorem pe_fld (he : PE X e ta) (hb : attributeBase e f X.env (eval e X.env) = eval e X.env) : PE X (.Attribute e f pos) (tFld X.K ta f) := by
  intro pins s σ H Q I h
  refine attr_of hb (thn (he pins s σ H _ I h) fun u s1 ⟨x, H1, I1, rx, a, C, dx, fs, v, ex, ea, c, n, l, q⟩ => ?_)
  subst ex
  obtain rfl : u = Value.ref a := rx
  exact getattr_ok I1 ea c n l fun u' s2 I2 ru => ⟨v, H1, I2, ru, q⟩
theorem ps_fld (ha : PE X o ta) (hv : PE X value tv) (hs : swapsWith value (some (.Attribute o f pos')) pos.line X.env = pure false) : PS X (.Assign [.Attribute o f pos'] value pos) (sFld X.K ta tv f) := by
  intro pins s σ H D I h
  refine plainObj_wpAny_Assign_Attribute (thn (hv pins s σ H _ I h) fun u s1 ⟨y, H1, I1, ry, q⟩ => thn (ha pins s1 σ H1 _ I1 q) fun ov s2 ⟨x, H2, I2, rx, a, C, dx, fs, ex, ea, c, n, l, q2⟩ => ?_) hs
  subst ex
  obtain rfl : ov = Value.ref a := rx
  exact setattr_ok I2 ea c n l ry fun s3 I3 => ⟨σ, _, I3, q2⟩
end
section
variable {X : Cx} {pins : List (Addr × Obj)} {σ : St} {H : Hp} {s : Shared} {A : Around} {E : Value -> Shared -> Prop} {Q : Value -> Shared -> Prop} {c : Value} {b : Bool}
inductive TyOf (K : PySem.W.Frag) (H : Hp) : V -> Value -> Prop where
  | non : TyOf K H .non (.type "NoneType")
  | bl (x : Bool) : TyOf K H (.bl x) (.type "bool")
  | int (i : Int) : TyOf K H (.int i) (.type "int")
  | str (x : Str) : TyOf K H (.str x) (.type "str")
  | flt (x : UInt64) : TyOf K H (.flt x) (.type "float")
  | lst {a : Addr} {xs : List V} (e : H a = some (.lst xs)) : TyOf K H (.ref a) (.type "list")
  | frz {a : Addr} {o : Obj} {xs : List V} (e : H a = some (.frz o (.lst xs))) : TyOf K H (.ref a) (.type "list")
  | tup {a : Addr} {xs : List V} (e : H a = some (.tup xs)) : TyOf K H (.ref a) (.type "tuple")
  | dK {a : Addr} {kvs : List (Key × V)} (e : H a = some (.dK kvs)) : TyOf K H (.ref a) (.type "dict")
  | dT {a : Addr} {kvs : List (List Key × V)} (e : H a = some (.dT kvs)) : TyOf K H (.ref a) (.type "dict")
  | ins {a C dx : Addr} {fs : List (Str × V)} (e : H a = some (.ins C dx fs)) (cl : Cls K C) (ha : PySem.W.findIn K (.ref C) "__class__" = some (some (.builtin "object.__class__")))
      (hn : PySem.W.specialIn K (.builtin "object.__class__") "__get__" = some (some (.builtin "getset_descriptor.__get__"))) (htk : PySem.W.takesIn K (.builtin "object.__class__") = some true)
      (hm : PySem.W.mroIn K C (.type "object") = some true) : TyOf K H (.ref a) (.ref C)
theorem isinst_ok {x : V} {u t : Value} (I : Inv X pins σ H s) (rx : RelV x u) (ty : TyOf X.K H x t) (e : PySem.W.kitOne X.K t c = some b) (h : ∀ tk, Q (.bool b) { s with toks := tk }) :
    wpAny (model X.prog X.w) A (call (.builtin "isinstance") [u, c]) Q E s := by
  cases ty with
  | non => cases (show u = Value.none from rx); exact PySem.W.kia_one PySem.W.kitx_none I.kIn tT e (fun z => nomatch z) h
  | bl y => cases (show u = Value.bool y from rx); exact PySem.W.kia_one PySem.W.kitx_bool I.kIn tT e (fun z => nomatch z) h
  | int i => obtain ⟨t, q⟩ := (show ∃ t, u = Value.int i t from rx); cases q; exact PySem.W.kia_one PySem.W.kitx_int I.kIn tT e (fun z => nomatch z) h
  | str y => obtain ⟨t, q⟩ := (show ∃ t, u = Value.str y t from rx); cases q; exact PySem.W.kia_one PySem.W.kitx_str I.kIn tT e (fun z => nomatch z) h
  | flt y => obtain ⟨t, q⟩ := (show ∃ t, u = Value.float y t from rx); cases q; exact PySem.W.kia_one PySem.W.kitx_float I.kIn tT e (fun z => nomatch z) h
  | @lst a xs ea =>
    cases (show u = Value.ref a from rx)
    obtain ⟨_, _, n, _, h1⟩ := (show ObjOk X.prog X.w H s.heap a (.lst xs) from I.hok a _ ea)
    exact PySem.W.kia_one PySem.W.kitx_list I.kIn ⟨_, h1, rfl⟩ e (fun z => nomatch z) h
  | @frz a ob xs ea =>
    cases (show u = Value.ref a from rx)
    obtain ⟨_, _, _, n, _, h1⟩ := (show ObjOk X.prog X.w H s.heap a (.frz ob (.lst xs)) from I.hok a _ ea)
    exact PySem.W.kia_one PySem.W.kitx_list I.kIn ⟨_, h1, rfl⟩ e (fun z => nomatch z) h
  | @tup a xs ea =>
    cases (show u = Value.ref a from rx)
    obtain ⟨_, _, _, p⟩ := (show ObjOk X.prog X.w H s.heap a (.tup xs) from I.hok a _ ea)
    obtain ⟨o, h1, h2, _⟩ := p
    exact PySem.W.kia_one PySem.W.kitx_tuple I.kIn ⟨o, h1, h2⟩ e (fun z => nomatch z) h
  | @dK a kvs ea =>
    cases (show u = Value.ref a from rx)
    obtain ⟨_, _, vs, _, p⟩ := (show ObjOk X.prog X.w H s.heap a (.dK kvs) from I.hok a _ ea)
    obtain ⟨o, es, ep, h1, h2, _⟩ := p
    exact PySem.W.kia_one PySem.W.kitx_dict I.kIn ⟨o, h1, h2.1⟩ e (fun z => nomatch z) h
  | @dT a kvs ea =>
    cases (show u = Value.ref a from rx)
    obtain ⟨_, _, xs, _, o, es, ep, h1, h2, _⟩ := (show ObjOk X.prog X.w H s.heap a (.dT kvs) from I.hok a _ ea)
    exact PySem.W.kia_one PySem.W.kitx_dict I.kIn ⟨o, h1, h2.1⟩ e (fun z => nomatch z) h
  | @ins a C dx fs ea cl ha hn htk hm =>
    cases (show u = Value.ref a from rx)
    obtain ⟨mA, O, _⟩ := ins_get I.hok ea
    obtain ⟨od, J, _⟩ := O.look
    exact PySem.W.kia_one (PySem.W.kitx_own (cl.get _) cl.hd ha hn htk hm) I.kIn J e (fun z => nomatch z) h
end
structure Room (k : Nat) (A : Around) : Prop where
  hd : A.handled = none
  dp : A.depth + 3 * k + 5 < recursionLimit
  un : A.units + 16 * k + 200 < cLine
theorem Room.mono {j k : Nat} {A : Around} (r : Room k A) (h : j <= k) : Room j A := ⟨r.hd, by have := r.dp; omega, by have := r.un; omega⟩
theorem Room.deeper {k : Nat} {A : Around} (r : Room (k + 1) A) (env : Env) : Room k (A.deeper env) :=
  ⟨r.hd, by have := r.dp; show A.depth + 1 + 3 * k + 5 < _; omega, by have := r.un; show A.units + 3 + 16 * k + 200 < _; omega⟩
theorem make_depth {A : Around} {C : Addr} {us : List Value} {kw : List (Str × Value)} : (A.under (.builtin "type.__call__" ⟨.ref C :: us, kw⟩)).depth = A.depth + 1 := by
  first | rfl | simp [Around.under, Code.weight, Code.isCreation, Code.isGuard, Code.isCaller, Code.frames, Code.isFrame, guardIds]
theorem make_units {A : Around} {C : Addr} {us : List Value} {kw : List (Str × Value)} : (A.under (.builtin "type.__call__" ⟨.ref C :: us, kw⟩)).units = A.units + 1 := by
  first | rfl | simp [Around.under, Code.cUnits, Code.frames, Code.isFrame]
theorem Room.make {k : Nat} {A : Around} (r : Room (k + 1) A) (C : Addr) (us : List Value) (kw : List (Str × Value)) : Room k (A.under (.builtin "type.__call__" ⟨.ref C :: us, kw⟩)) :=
  ⟨r.hd, by have := r.dp; rw [make_depth]; omega, by have := r.un; rw [make_units]; omega⟩
theorem Room.depth {k : Nat} {A : Around} (r : Room k A) : A.depth < recursionLimit := by have := r.dp; omega
theorem Room.units {k : Nat} {A : Around} (r : Room k A) : A.units + 64 < cLine := by have := r.un; omega
def tNil : TA := fun _ H Q => Q [] H
def tCons (ta : TE) (tr : TA) : TA := fun σ H Q => ta σ H fun x H1 => tr σ H1 fun xs H2 => Q (x :: xs) H2
section
variable {X : Cx} {e : Expr} {es : List Expr} {te : TE} {t : TA} {pos : Pos}
theorem pa_nil : PA X [] tNil := fun _ _ _ _ H Q I h => Calls.spliced_nil ⟨[], H, I, .nil, h⟩
theorem pa_cons (ha : PE X e te) (hr : PA X es t) (hs : starEach (e :: es) X.env = (false, eval e X.env) :: starEach es X.env := by rfl) : PA X (e :: es) (tCons te t) := by
  intro pos pins s σ H Q I h
  rw [hs]
  show wpAny _ _ (spliced ((false, eval e X.env) :: backTo pos (starEach es X.env))) _ _ s
  refine Calls.spliced_cons (thn (ha pins s σ H _ I h) fun u s1 ⟨x, H1, I1, r1, q1⟩ => ?_)
  exact thn (hr pos pins s1 σ H1 _ I1 q1) fun us s2 ⟨xs, H2, I2, r2, q2⟩ => ⟨x :: xs, H2, I2, .cons r1 r2, q2⟩
def tTup (t : TA) : TE := fun σ H Q => t σ H fun xs H1 => xs.length <= sizeLine /\ ∀ p, H1 p = none -> Q (.ref p) (upd H1 p (.tup xs))
def tLst (t : TA) : TE := fun σ H Q => t σ H fun xs H1 => xs.length <= sizeLine /\ ∀ p, H1 p = none -> Q (.ref p) (upd H1 p (.lst xs))
theorem pe_tup {x1} (h : PA X es t) : PE X (.Tuple es x1 pos) (tTup t) := by
  intro pins s σ H Q I hq
  refine wpAny_Tuple_spliced (thn (h pos pins s σ H _ I hq) fun us s1 ⟨xs, H1, I1, r, z, q⟩ => ⟨by rw [<- r.length]; exact z, ?_⟩)
  have hf : H1 s1.heap.objs.size = none := I1.hok.fresh (Nat.le_refl _)
  refine ⟨.ref s1.heap.objs.size, upd H1 s1.heap.objs.size (.tup xs), I1.laid (t' := s1.toks) (fun b u e => Heap.get?_push_of_some _ e) (Nat.le_refl _) ?_, rfl, q _ hf⟩
  exact ⟨z, us, r, ⟨_, Heap.get?_push_size _ rfl, rfl, _, rfl⟩⟩
theorem pe_lst (h : PA X es t) : PE X (.List es pos) (tLst t) := by
  intro pins s σ H Q I hq
  refine wpAny_List_spliced (thn (h pos pins s σ H _ I hq) fun us s1 ⟨xs, H1, I1, r, z, q⟩ => ⟨by rw [<- r.length]; exact z, ?_⟩)
  have hf : H1 s1.heap.objs.size = none := I1.hok.fresh (Nat.le_refl _)
  refine ⟨.ref s1.heap.objs.size, upd H1 s1.heap.objs.size (.lst xs), I1.laid (t' := s1.toks) (fun b u e => Heap.get?_push_of_some _ e) (Nat.le_refl _) ?_, rfl, q _ hf⟩
  exact ⟨z, us, 0, r, Heap.get?_push_size _ rfl⟩
end
abbrev Sp := List V -> Hp -> VK -> XK -> Prop
abbrev CXT := List Env -> Hp -> Shared -> XK -> Value -> Shared -> Prop
structure Env0 (P : Program) (w : World) (K : PySem.W.Frag) (mg : Str -> Option Value) (base : Heap) (A : Around) (outer : List Env) (s : Shared) (H : Hp) : Prop where
  frames : A.frames = some outer
  mod : Mod K mg base
  bs : ∀ b o, base.get? b = some o -> s.heap.get? b = some o /\ H b = none
  bsz : base.objs.size <= s.heap.objs.size
  funs : s.heap.FunFrames base outer
  frf : Frf K H (frs outer)
  hok : HOk P w H s.heap
  bare : AllBare s.gens
def CE (outer : List Env) (P : Program) (w : World) (H : Hp) (s : Shared) (Q : VK) (u : Value) (s' : Shared) : Prop :=
  ∃ v H', s'.os = s.os /\ AllBare s'.gens /\ Un (frs outer) [] H H' s.heap s'.heap /\ HOk P w H' s'.heap /\ RelV v u /\ Q v H'
def CR (CX : CXT) (outer : List Env) (P : Program) (w : World) (H : Hp) (s : Shared) (Q : VK) (E : XK) (r : Result) (s' : Shared) : Prop :=
  match r with
  | .ok (.ret u) => CE outer P w H s Q u s'
  | .ok _ => False
  | .error e => CX outer H s E e s'
structure FnOk (P : Program) (w : World) (K : PySem.W.Frag) (mg : Str -> Option Value) (base : Heap) (CX : CXT) (k : Nat) (f : Addr) (fd : FuncData) (ps : List Str) (sp : Sp) : Prop where
  len : ∀ vs H Q E, sp vs H Q E -> vs.length = ps.length
  run : ∀ (A : Around) (outer : List Env) (s : Shared) (H : Hp) (args : Args) (us : List Value) (vs : List V) (Q : VK) (E : XK), Room k A -> Env0 P w K mg base A outer s H -> BindsTo s fd args (ps.zip us) -> Vals vs us -> sp vs H Q E ->
    codeAny (model P w) A (.call (.ref f) args) (CR CX outer P w H s Q E) s
theorem FnOk.mono {P : Program} {w : World} {K : PySem.W.Frag} {mg : Str -> Option Value} {base : Heap} {CX : CXT} {j k : Nat} {f : Addr} {fd : FuncData} {ps : List Str} {sp : Sp} (F : FnOk P w K mg base CX j f fd ps sp) (h : j <= k) :
    FnOk P w K mg base CX k f fd ps sp := ⟨F.len, fun A outer s H args us vs Q E hr => F.run A outer s H args us vs Q E (hr.mono h)⟩
theorem FnOk.imp {P : Program} {w : World} {K : PySem.W.Frag} {mg : Str -> Option Value} {base : Heap} {CX : CXT} {k : Nat} {f : Addr} {fd : FuncData} {ps : List Str} {sp sp' : Sp} (F : FnOk P w K mg base CX k f fd ps sp)
    (h : ∀ vs H Q E, sp' vs H Q E -> sp vs H Q E) : FnOk P w K mg base CX k f fd ps sp' :=
  ⟨fun vs H Q E q => F.len vs H Q E (h _ _ _ _ q), fun A outer s H args us vs Q E hr he hb hv hs => F.run A outer s H args us vs Q E hr he hb hv (h _ _ _ _ hs)⟩
theorem Env0.make {P : Program} {w : World} {K : PySem.W.Frag} {mg : Str -> Option Value} {base : Heap} {A : Around} {outer : List Env} {s : Shared} {H : Hp} (e : Env0 P w K mg base A outer s H) (C : Addr) (us : List Value) (kw : List (Str × Value)) :
    Env0 P w K mg base (A.under (.builtin "type.__call__" ⟨.ref C :: us, kw⟩)) outer s H := ⟨by first | exact e.frames | (simpa [Around.under, Code.envs, Code.isFrame, pushEnvs] using e.frames), e.mod, e.bs, e.bsz, e.funs, e.frf, e.hok, e.bare⟩
section
variable {X : Cx} {pins : List (Addr × Obj)} {σ : St} {H : Hp} {s s' : Shared}
theorem Inv.env0 (I : Inv X pins σ H s) : Env0 X.prog X.w X.K X.mg X.base X.A X.stack s H :=
  ⟨I.ok.frames, I.ok.mod, I.bs, Nat.le_trans I.ok.bsz I.sz, I.stack, ⟨I.stkFree, fun x h => let ⟨ps, e⟩ := I.ok.frf.t x h; let ⟨more, e'⟩ := I.base.tbls x.2.1 _ e; ⟨ps ++ more, e'⟩⟩, I.hok, I.bare⟩
theorem Inv.after {Q : VK} {u : Value} (I : Inv X pins σ H s) (h : CE X.stack X.prog X.w H s Q u s') : EP X pins σ Q u s' := by
  obtain ⟨v, H', os, bare, un, hok, r, q⟩ := h
  obtain ⟨hh, g, d, t, os'⟩ := s'
  obtain rfl : os' = s.os := os
  exact ⟨v, H', I.call (h' := hh) (g' := g) (d' := d) (t' := t) (ch := []) un hok bare (fun b z => absurd z (by simp)), r, q⟩
end
def tCall (sp : Sp) (dvs : List V) (E : XK) (t : TA) : TE := fun σ H Q => t σ H fun vs H1 => sp (vs ++ dvs) H1 Q E
def tMeth (C : Addr) (m : Str) (sp : Sp) (dvs : List V) (E : XK) (ta : TE) (t : TA) : TE := fun σ H Q => ta σ H fun x H1 => ∃ a dx fs, x = .ref a /\ H1 a = some (.ins C dx fs) /\ fs.lookup m = none /\
  t σ H1 fun vs H2 => sp (x :: (vs ++ dvs)) H2 Q E
def tMake (C : Addr) (sp : Sp) (dvs : List V) (E : XK) (t : TA) : TE := fun σ H Q => t σ H fun vs H1 => ∀ x dx, H1 x = none -> H1 dx = none -> dx ≠ x ->
  sp (.ref x :: (vs ++ dvs)) (upd (upd H1 dx (.own x)) x (.ins C dx [])) (fun v H2 => v = .non /\ Q (.ref x) H2) E
def Binds (K : PySem.W.Frag) (fd : FuncData) (ps : List Str) (ds : List Value) : Prop :=
  ∀ (s : Shared) (us : List Value), K.In s.heap -> (us ++ ds).length = ps.length -> BindsTo s fd ⟨us, []⟩ (ps.zip (us ++ ds))
theorem Binds.all {K : PySem.W.Frag} {fd : FuncData} {ps : List Str} (h : ∀ us : List Value, us.length = ps.length -> bindArgs fd ⟨us, []⟩ = pure (ps.zip us)) : Binds K fd ps [] := fun s us _ hl => by
  rw [List.append_nil] at hl ⊢
  exact .of_eq (h us hl)
def Passes (CX : CXT) (X : Cx) (E : XK) : Prop := ∀ (pins : List (Addr × Obj)) (σ : St) (H : Hp) (s : Shared) (e : Value) (s' : Shared), Inv X pins σ H s -> CX X.stack H s E e s' -> X.xe e s'
section
variable {X : Cx} {CX : CXT} {k : Nat} {f C : Addr} {fd : FuncData} {ps : List Str} {sp : Sp} {dvs : List V} {ds : List Value} {E : XK} {x m : Str} {p pos apos : Pos} {e o : Expr} {es : List Expr} {ta : TE} {t : TA}
theorem run_fn {pins : List (Addr × Obj)} {σ : St} {H : Hp} {s : Shared} {Q : VK} {us : List Value} {vs : List V} (F : FnOk X.prog X.w X.K X.mg X.base CX k f fd ps sp) (hr : Room k X.A) (hb : Binds X.K fd ps ds) (hd : Vals dvs ds) (hx : Passes CX X E)
    (I : Inv X pins σ H s) (r : Vals vs us) (h : sp (vs ++ dvs) H Q E) : wpAny (model X.prog X.w) X.A (call (.ref f) us) (EP X pins σ Q) X.xe s := by
  have r2 : Vals (vs ++ dvs) (us ++ ds) := r.append hd
  have hl : (us ++ ds).length = ps.length := by rw [<- r2.length]; exact F.len _ _ _ _ h
  refine wpAny_call (codeAny_mono (F.run X.A X.stack s H ⟨us, []⟩ (us ++ ds) (vs ++ dvs) Q E hr I.env0 (hb s us I.kIn hl) r2 h) fun r s' hq => ?_)
  cases r with
  | error e => exact hx pins σ H s e s' I hq
  | ok fl =>
    cases fl with
    | ret u => exact I.after hq
    | next => exact False.elim hq
    | brk => exact False.elim hq
    | cont => exact False.elim hq
theorem pe_call (F : FnOk X.prog X.w X.K X.mg X.base CX k f fd ps sp) (hr : Room k X.A) (hg : Gl X x) (hm : X.mg x = some (.ref f)) (hk : PySem.W.keepIn X.K (.ref f) = true) (hb : Binds X.K fd ps ds) (hd : Vals dvs ds) (hx : Passes CX X E)
    (ha : PA X (e :: es) t) (hdb : (x == ("__debug__" : Str)) = false := by decide) (he : starEach (e :: es) X.env = (false, eval e X.env) :: starEach es X.env := by rfl) (hpl : (backTo pos (starEach es X.env)).any (·.1) = false := by rfl) :
    PE X (.Call (.Name x p) (e :: es) [] pos) (tCall sp dvs E t) := by
  intro pins s σ H Q I h
  refine wpAny_Call_Name_kw (ld_glob I hg hm ?_ hdb)
  refine PySem.W.callWith_K (h₀ := X.base) I.ok.mod.kin hk (thn (ha pos pins s σ H _ I h) fun us s1 ⟨vs, H1, I1, r, q⟩ => ⟨I1.kIn, ?_⟩) he hpl
  exact run_fn F hr hb hd hx I1 r q
theorem pe_meth {pl : Sem Bool} (he : PE X o ta) (c : Cls X.K C) (hm : Meth X.K C m f) (F : FnOk X.prog X.w X.K X.mg X.base CX k f fd ps sp) (hr : Room k X.A) (hb : Binds X.K fd ps ds) (hd : Vals dvs ds) (hx : Passes CX X E) (ha : PA X (e :: es) t)
    (hst : starEach (e :: es) X.env = (false, eval e X.env) :: starEach es X.env := by rfl) (hpl : (backTo pos (starEach es X.env)).any (·.1) = false := by rfl)
    (ht : eval (.Call (.Attribute o m apos) (e :: es) [] pos) X.env = (do
      let ov <- eval o X.env
      standAt apos.atName
      let (f, first) <- holding [ov] (getMethod ov m pl)
      callWith pos f first (backTo pos (starEach (e :: es) X.env)) (backToKw pos (keywordEach [] X.env))) := by rfl) :
    PE X (.Call (.Attribute o m apos) (e :: es) [] pos) (tMeth C m sp dvs E ta t) := by
  intro pins s σ H Q I h
  refine PySem.W.methodCall_KW (pl := pl) (thn (he pins s σ H _ I h) fun u s1 ⟨x, H1, I1, rx, a, dx, fs, ex, ea, l, q⟩ => ?_) ht
  subst ex
  obtain rfl : u = Value.ref a := rx
  refine getmeth_ok I1 ea c hm l ?_
  refine PySem.W.callWith_K (first := [.ref a]) (h₀ := X.base) I.ok.mod.kin hm.kp (thn (ha pos pins s1 σ H1 _ I1 q) fun us s2 ⟨vs, H2, I2, r, q2⟩ => ⟨I2.kIn, ?_⟩) hst hpl
  exact run_fn (us := .ref a :: us) (vs := .ref a :: vs) F hr hb hd hx I2 (.cons rfl r) q2
structure Mk (K : PySem.W.Frag) (C f : Addr) : Prop where
  makes : PySem.W.makesIn K C = true
  init : PySem.W.findIn K (.ref C) "__init__" = some (some (.ref f))
  fn : PySem.W.isFn K (.ref f) = true
  kp : PySem.W.keepIn K (.ref C) = true
theorem run_make {pins : List (Addr × Obj)} {σ : St} {H : Hp} {s : Shared} {Q : VK} {us : List Value} {vs : List V} (M : Mk X.K C f) (F : FnOk X.prog X.w X.K X.mg X.base CX k f fd ps sp) (hr : Room (k + 1) X.A) (hb : Binds X.K fd ps ds) (hd : Vals dvs ds)
    (hx : Passes CX X E) (I : Inv X pins σ H s) (r : Vals vs us)
    (h : ∀ x dx, H x = none -> H dx = none -> dx ≠ x -> sp (.ref x :: (vs ++ dvs)) (upd (upd H dx (.own x)) x (.ins C dx [])) (fun v H2 => v = .non /\ Q (.ref x) H2) E) :
    wpAny (model X.prog X.w) X.A (call (.ref C) us) (EP X pins σ Q) X.xe s := by
  have hq := h (s.heap.objs.size + 1) s.heap.objs.size (I.hok.fresh (Nat.le_succ _)) (I.hok.fresh (Nat.le_refl _)) (Nat.ne_of_lt (Nat.lt_succ_self _))
  have I2 := Inv.made (C := C) I
  have r2 : Vals (V.ref (s.heap.objs.size + 1) :: (vs ++ dvs)) (Value.ref (s.heap.objs.size + 1) :: (us ++ ds)) := .cons rfl (r.append hd)
  have hl : (Value.ref (s.heap.objs.size + 1) :: us ++ ds).length = ps.length := by
    have e := r2.length
    rw [F.len _ _ _ _ hq] at e
    exact e.symm
  refine wpAny_call (make_map (f := f) I.kIn M.makes M.init (beq_iff_eq.mp M.fn) (codeAny_mono (F.run _ X.stack _ _ ⟨Value.ref (s.heap.objs.size + 1) :: us, []⟩ (Value.ref (s.heap.objs.size + 1) :: (us ++ ds)) _ _ E (hr.make C us [])
    (I2.env0.make C us []) (hb _ (Value.ref (s.heap.objs.size + 1) :: us) I2.kIn hl) r2 hq) fun r s' hq' => ?_))
  cases r with
  | error e => exact hx pins σ _ _ e s' I2 hq'
  | ok fl =>
    cases fl with
    | ret u =>
      obtain ⟨v, H', I3, rv, ev, q3⟩ := I2.after hq'
      subst ev
      exact ⟨rv, ⟨V.ref (s.heap.objs.size + 1), H', I3, rfl, q3⟩⟩
    | next => exact False.elim hq'
    | brk => exact False.elim hq'
    | cont => exact False.elim hq'
theorem pe_make (M : Mk X.K C f) (F : FnOk X.prog X.w X.K X.mg X.base CX k f fd ps sp) (hr : Room (k + 1) X.A) (hg : Gl X x) (hm : X.mg x = some (.ref C)) (hb : Binds X.K fd ps ds) (hd : Vals dvs ds) (hx : Passes CX X E)
    (ha : PA X (e :: es) t) (hdb : (x == ("__debug__" : Str)) = false := by decide) (he : starEach (e :: es) X.env = (false, eval e X.env) :: starEach es X.env := by rfl) (hpl : (backTo pos (starEach es X.env)).any (·.1) = false := by rfl) :
    PE X (.Call (.Name x p) (e :: es) [] pos) (tMake C sp dvs E t) := by
  intro pins s σ H Q I h
  refine wpAny_Call_Name_kw (ld_glob I hg hm ?_ hdb)
  refine PySem.W.callWith_K (h₀ := X.base) I.ok.mod.kin M.kp (thn (ha pos pins s σ H _ I h) fun us s1 ⟨vs, H1, I1, r, q⟩ => ⟨I1.kIn, ?_⟩) he hpl
  exact run_make M F hr hb hd hx I1 r q
end
structure FnScope (N P : List Str) (sc : Scope) : Prop where
  kind : sc.kind = .function
  co : sc.isCoroutine = false
  gen : sc.isGenerator = false
  nd : N.Nodup
  pre : N.take P.length = P
  par : ∀ x ∈ P, sc.names.lookup x = some .local \/ sc.names.lookup x = some .cell
  nofree : ∀ y ∈ sc.names, y.2 ≠ .free
theorem bindL_out {kindOf : Str -> Option NameKind} {x : Str} : ∀ {binds : List (Str × Value)} {m : Str -> Option Value}, (∀ v, (x, v) ∉ binds) -> bindL kindOf binds m x = m x
  | [], _, _ => rfl
  | (n, v) :: r, m, h => by
    unfold bindL
    rw [bindL_out fun w hw => h w (List.mem_cons_of_mem _ hw)]
    split
    . have : x ≠ n := by rintro rfl; exact h v List.mem_cons_self
      simp [this]
    . rfl
theorem bindC_out {kindOf : Str -> Option NameKind} {x : Str} : ∀ {binds : List (Str × Value)} {m : Str -> Option Value}, (∀ v, (x, v) ∉ binds) -> bindC kindOf binds m x = m x
  | [], _, _ => rfl
  | (n, v) :: r, m, h => by
    unfold bindC
    rw [bindC_out fun w hw => h w (List.mem_cons_of_mem _ hw)]
    split
    . rfl
    . have : x ≠ n := by rintro rfl; exact h v List.mem_cons_self
      simp [this]
theorem bindL_get {kindOf : Str -> Option NameKind} {x : Str} {v : Value} : ∀ {P : List Str} {vs : List Value} {i : Nat} {m : Str -> Option Value}, P.Nodup -> P[i]? = some x -> vs[i]? = some v -> kindOf x = some .local ->
    bindL kindOf (P.zip vs) m x = some v
  | [], _, _, _, _, h, _, _ => by simp at h
  | _ :: _, [], _, _, _, _, h, _ => by simp at h
  | p :: P, w :: vs, 0, m, nd, h1, h2, hk => by
    simp at h1 h2; subst h1; subst h2
    show bindL kindOf ((p, w) :: P.zip vs) m p = _
    unfold bindL
    rw [bindL_out fun v hv => (List.nodup_cons.mp nd).1 (List.of_mem_zip hv).1, if_pos hk]
    simp
  | p :: P, w :: vs, i + 1, m, nd, h1, h2, hk => by
    show bindL kindOf ((p, w) :: P.zip vs) m x = _
    unfold bindL
    exact bindL_get (i := i) (List.nodup_cons.mp nd).2 (by simpa using h1) (by simpa using h2) hk
theorem bindC_get {kindOf : Str -> Option NameKind} {x : Str} {v : Value} : ∀ {P : List Str} {vs : List Value} {i : Nat} {m : Str -> Option Value}, P.Nodup -> P[i]? = some x -> vs[i]? = some v -> kindOf x ≠ some .local ->
    bindC kindOf (P.zip vs) m x = some v
  | [], _, _, _, _, h, _, _ => by simp at h
  | _ :: _, [], _, _, _, _, h, _ => by simp at h
  | p :: P, w :: vs, 0, m, nd, h1, h2, hk => by
    simp at h1 h2; subst h1; subst h2
    show bindC kindOf ((p, w) :: P.zip vs) m p = _
    unfold bindC
    rw [bindC_out fun v hv => (List.nodup_cons.mp nd).1 (List.of_mem_zip hv).1, if_neg hk]
    simp
  | p :: P, w :: vs, i + 1, m, nd, h1, h2, hk => by
    show bindC kindOf ((p, w) :: P.zip vs) m x = _
    unfold bindC
    exact bindC_get (i := i) (List.nodup_cons.mp nd).2 (by simpa using h1) (by simpa using h2) hk
def start (N : List Str) (vs : List V) : St := vs.map some ++ List.replicate (N.length - vs.length) none
def cxOf (CX : CXT) (P : Program) (w : World) (K : PySem.W.Frag) (mg : Str -> Option Value) (base : Heap) (N : List Str) (qual : Str) (scope : Scope) (f : Addr) (cd : Value) (A : Around) (outer : List Env) (s : Shared) (H : Hp) (E : XK) : Cx where
  prog := P
  w := w
  K := K
  mg := mg
  base := base
  A := A.deeper (envOfC qual scope s.heap.objs.size f cd)
  N := N
  s₀ := s
  H₀ := H
  env := envOfC qual scope s.heap.objs.size f cd
  outer := outer
  stack := envOfC qual scope s.heap.objs.size f cd :: outer
  ex := []
  calm := true
  fn := fun _ => true
  pn := []
  xe := fun e s' => wpAny (model P w) (A.deeper (envOfC qual scope s.heap.objs.size f cd)) (leaving (envOfC qual scope s.heap.objs.size f cd) e) (fun _ s'' => CX outer H s E e s'') (fun e' s'' => CX outer H s E e' s'') s'
theorem cell_has {sc : Scope} {n : Nat} {x : Str} (h : sc.names.lookup x = some .cell) : ∃ c, (cellsFrom n sc.names []).lookup x = some c := by
  have q := PySem.W.cellsFrom_some sc.names n [] (.inl h)
  exact Option.isSome_iff_exists.mp q
theorem inv_start {CX : CXT} {P : Program} {w : World} {K : PySem.W.Frag} {mg : Str -> Option Value} {base : Heap} {N ps : List Str} {qual : Str} {scope : Scope} {f : Addr} {cd : Value} {A : Around} {outer : List Env} {s s1 : Shared} {H : Hp} {E : XK} {us : List Value} {vs : List V}
    (S : FnScope N ps scope) (hd : A.handled = none) (e0 : Env0 P w K mg base A outer s H) (hl : vs.length = ps.length) (r : Vals vs us)
    (x : InCallC s s.heap.objs.size (bindL (envOfC qual scope s.heap.objs.size f cd).kindOf (ps.zip us) fun _ => none) (cellsFrom (s.heap.objs.size + 1) scope.names []) (bindC (envOfC qual scope s.heap.objs.size f cd).kindOf (ps.zip us) fun _ => none) s1) :
    Inv (cxOf CX P w K mg base N qual scope f cd A outer s H E) [] (start N vs) H s1 := by
  have hpl : ps.length <= N.length := by have := congrArg List.length S.pre; rw [List.length_take] at this; omega
  obtain ⟨h1, tk, rfl, hk⟩ := x.done
  have noA : ∀ b : Addr, b ∉ (cxOf CX P w K mg base N qual scope f cd A outer s H E).ex := fun b z => absurd (show b ∈ ([] : List Addr) from z) (by simp)
  refine ⟨⟨e0.mod, S.kind, rfl, rfl, Nat.le_refl _, fun y z c h1 h2 => ?_, fun y hy => ?_, fun y c _ h => ?_, fun _ => hd, Around.frames_deeper e0.frames, .inr ⟨rfl, rfl⟩, fun b z => absurd z (noA b), e0.bs, e0.bsz, fun b _ _ => noA b, fun b z => absurd z (noA b), e0.funs, e0.frf⟩,
    rfl, e0.bare, Un.kept hk, ⟨_, x.toInCall.ns, fun i y v h1 h2 h3 => ?_⟩, fun y c h => ⟨_, x.cell y c h⟩, e0.hok.fresh (Nat.le_refl _), fun y c h => ?_, fun p hp => absurd (show p ∈ ([] : List (Addr × Obj)) from hp) (by simp), e0.hok.kept hk, ?_⟩
  . exact name_of_addr x.apart (PySem.mem_of_lookup h1) (PySem.mem_of_lookup h2)
  . have hy : scope.names.lookup y = some .cell \/ scope.names.lookup y = some .free := hy
    rcases hy with hy | hy
    . exact cell_has hy
    . exact absurd rfl (S.nofree _ (PySem.mem_of_lookup hy))
  . exact Nat.le_of_lt (x.above y c (PySem.mem_of_lookup h))
  . have hi : i < vs.length := by
      unfold start at h2
      by_cases hi : i < vs.length
      . exact hi
      . rw [List.getElem?_append_right (by simpa using hi)] at h2
        rw [List.getElem?_replicate] at h2
        split at h2 <;> cases h2
    have ha : vs[i]? = some v := by
      unfold start at h2
      rw [List.getElem?_append_left (by simpa using hi), List.getElem?_map] at h2
      cases e : vs[i]? with
      | none => rw [e] at h2; cases h2
      | some a => rw [e] at h2; cases h2; rfl
    obtain ⟨u, hu, rv⟩ := r.get ha
    have hp : ps[i]? = some y := by
      rw [<- S.pre, List.getElem?_take_of_lt (by omega)]; exact h1
    have ndP : ps.Nodup := by rw [<- S.pre]; exact S.nd.sublist (List.take_sublist _ _)
    refine ⟨u, rv, ?_⟩
    rcases S.par y (List.mem_of_getElem? hp) with k | k
    . exact .inl ⟨k, bindL_get ndP hp hu k⟩
    . obtain ⟨c, e⟩ := cell_has (n := s.heap.objs.size + 1) k
      refine .inr ⟨.inl k, c, e, ?_⟩
      have q := x.cell y c e
      rw [bindC_get ndP hp hu (by show scope.names.lookup y ≠ _; rw [k]; decide)] at q
      exact q
  . exact e0.hok.fresh (Nat.le_of_lt (x.above y c (PySem.mem_of_lookup h)))
  . unfold start
    show _ = N.length
    rw [List.length_append, List.length_map, List.length_replicate]
    omega
theorem fn_of {CX : CXT} {P : Program} {w : World} {K : PySem.W.Frag} {mg : Str -> Option Value} {base : Heap} {k : Nat} {f : Addr} {name qual : Str} {params : Arguments} {body : List Stmt} {scope : Scope} {dV kV doc pm cdv ct oc : Value} {an od : Option Addr}
    {osl : Array (Option Value)} {N ps : List Str} {sp : Sp} (lk : K.lookup f = some ⟨oc, od, .func (PySem.W.fnOf name qual params body scope dV kV doc pm an cdv ct), osl⟩) (hcd : PySem.W.codeIn K cdv qual = true) (S : FnScope N ps scope)
    (len : ∀ vs H Q E, sp vs H Q E -> vs.length = ps.length)
    (hbody : ∀ (A : Around) (outer : List Env) (s : Shared) (H : Hp) (vs : List V) (Q : VK) (E : XK), Room k (A.deeper (envOfC qual scope s.heap.objs.size f cdv)) -> sp vs H Q E ->
      ∃ t, PSs (cxOf CX P w K mg base N qual scope f cdv A outer s H E) body t /\ t { nx := fun _ H' => Q .non H', rt := Q } (start N vs) H) :
    FnOk P w K mg base CX (k + 1) f (PySem.W.fnOf name qual params body scope dV kV doc pm an cdv ct) ps sp := by
  refine ⟨len, fun A outer s H args us vs Q E hr e0 hb r hsp => ?_⟩
  have hl := len _ _ _ _ hsp
  have KX : K.In s.heap := e0.mod.kin.keeps fun b o e => (e0.bs b o e).1
  have lim : s.heap.NoLimit := e0.mod.nolimit.keeps fun b o e => (e0.bs b o e).1
  have hkind : ∀ y ∈ ps.zip us, scope.names.lookup y.1 = some .local \/ (scope.names.lookup y.1 = some .cell /\ ((cellsFrom (s.heap.objs.size + 1) scope.names []).lookup y.1).isSome = true) := fun ⟨n, v⟩ hy => by
    rcases S.par n (List.of_mem_zip hy).1 with q | q
    . exact .inl q
    . exact .inr ⟨q, PySem.W.cellsFrom_some _ _ _ (.inl q)⟩
  refine codeAny_call_function hr.depth (KX _ _ lk) rfl S.co S.gen rfl (PySem.W.codeRec_of KX hcd) (hb _ _ _ _ ?_)
  refine wpAny_newFunctionEnv_cells S.kind hkind fun env he s1 x => ?_
  subst he
  refine ⟨lim.keeps x.toInCall.keep, codeAny_func ?_⟩
  obtain ⟨t, ht, hq⟩ := hbody A outer s H vs Q E (hr.deeper _) hsp
  have I : Inv (cxOf CX P w K mg base N qual scope f cdv A outer s H E) [] (start N vs) H s1 := inv_start S hr.hd e0 hl r x
  refine wpAny_mono (ht [] s1 (start N vs) H _ I hq) (fun fl s' hs => ?_) fun e s' hs => hs
  have fin : ∀ {σ' : St} {H' : Hp} {v : V} {u : Value}, Inv (cxOf CX P w K mg base N qual scope f cdv A outer s H E) [] σ' H' s' -> RelV v u -> Q v H' -> CE outer P w H s Q u s' :=
    fun {σ' H' v u} J rv q => ⟨v, H', J.os, J.bare, J.base, J.hok, rv, q⟩
  cases fl with
  | ret u =>
    obtain ⟨v, σ', H', J, rv, q⟩ := hs
    exact fin J rv q
  | next =>
    obtain ⟨σ', H', J, q⟩ := hs
    exact fin (v := V.non) (u := Value.none) J rfl q
  | brk =>
    obtain ⟨_, _, _, q⟩ := hs
    exact False.elim q
  | cont =>
    obtain ⟨_, _, _, q⟩ := hs
    exact False.elim q
section
variable {X : Cx} {x : Str} {p pos : Pos} {e : Expr} {es : List Expr} {t : TA} {id T : String} {r : List V -> Hp -> VK -> Prop}
def tCB (r : List V -> Hp -> VK -> Prop) (t : TA) : TE := fun σ H Q => t σ H fun vs H1 => r vs H1 Q
theorem pe_callB (hc : CallR X (.builtin id) r) (hg : Gl X x) (hm : X.mg x = none) (hv : bootBuiltins x = some (.builtin id)) (ha : PA X (e :: es) t) (hn : x ≠ "__name__" := by decide) (hdb : (x == ("__debug__" : Str)) = false := by decide)
    (he : starEach (e :: es) X.env = (false, eval e X.env) :: starEach es X.env := by rfl) (hpl : (backTo pos (starEach es X.env)).any (·.1) = false := by rfl) : PE X (.Call (.Name x p) (e :: es) [] pos) (tCB r t) := by
  intro pins s σ H Q I h
  refine wpAny_Call_Name_kw (ld_blt I hg hm hv ?_ hn hdb)
  exact PyProof.Rows.callWith_builtin1 (thn (ha pos pins s σ H _ I h) fun us s1 ⟨vs, H1, I1, r1, q1⟩ => hc pins s1 σ H1 vs us Q I1 r1 q1) he hpl
theorem pe_callTy (hc : CallR X (.type T) r) (hg : Gl X x) (hm : X.mg x = none) (hv : bootBuiltins x = some (.type T)) (ha : PA X (e :: es) t) (hn : x ≠ "__name__" := by decide) (hdb : (x == ("__debug__" : Str)) = false := by decide)
    (he : starEach (e :: es) X.env = (false, eval e X.env) :: starEach es X.env := by rfl) (hpl : (backTo pos (starEach es X.env)).any (·.1) = false := by rfl) : PE X (.Call (.Name x p) (e :: es) [] pos) (tCB r t) := by
  intro pins s σ H Q I h
  refine wpAny_Call_Name_kw (ld_blt I hg hm hv ?_ hn hdb)
  exact PyProof.Rows.callWith_type1 (thn (ha pos pins s σ H _ I h) fun us s1 ⟨vs, H1, I1, r1, q1⟩ => hc pins s1 σ H1 vs us Q I1 r1 q1) he hpl
end
end L2
namespace HT
open PySem PyProof.Rows
section
variable {prog : Program} {w : World} {A : Around} {E : Value -> Shared -> Prop} {s : Shared}
def sIx (n d : Nat) : Option Int -> Nat
  | none => d
  | some v => if v < 0 then (v + (n : Int)).toNat else min v.toNat n
theorem sIx_none (n d : Nat) : sIx n d none = d := rfl
theorem sIx_nat (n d k : Nat) : sIx n d (some (k : Int)) = min k n := by
  show (if (k : Int) < 0 then ((k : Int) + (n : Int)).toNat else min (k : Int).toNat n) = min k n
  rw [if_neg (by omega), Int.toNat_natCast]
end
end HT
namespace L2
open PySem PySem.Spec PyProof.Rows
abbrev TO := St -> Hp -> (Option Int -> Hp -> Prop) -> Prop
def PO (X : Cx) (e : Option Expr) (t : TO) : Prop :=
  ∀ (pins : List (Addr × Obj)) (s : Shared) (σ : St) (H : Hp) (Q : Option Int -> Hp -> Prop), Inv X pins σ H s -> t σ H Q ->
    wpAny (model X.prog X.w) X.A (evalPart e X.env) (fun u s' => ∃ o H', Inv X pins σ H' s' /\ IsPart u o /\ Q o H') X.xe s
def tNoPart : TO := fun _ H Q => Q none H
def tPart (t : TE) : TO := fun σ H Q => t σ H fun x H1 => ∃ i, x = .int i /\ Q (some i) H1
section
variable {X : Cx} {e : Expr} {te : TE} {lo hi : Option Expr} {tl th : TO} {pos p2 : Pos}
theorem po_none : PO X none tNoPart := by
  intro pins s σ H Q I h
  rw [evalPart_none]
  exact wpAny_pure ⟨none, H, I, .none, h⟩
theorem po_some (h : PE X e te) : PO X (some e) (tPart te) := by
  intro pins s σ H Q I hw
  rw [evalPart_some]
  refine thn (h pins s σ H _ I hw) fun u s1 ⟨x, H1, I1, r1, q1⟩ => ?_
  obtain ⟨i, rfl, q⟩ := q1
  obtain ⟨t, rfl⟩ := r1
  exact ⟨some i, H1, I1, .int i t, q⟩
def SlR (X : Cx) (r : V -> Option Int -> Option Int -> Hp -> VK -> Prop) : Prop :=
  ∀ (pins : List (Addr × Obj)) (s : Shared) (σ : St) (H : Hp) (x : V) (v vl vu : Value) (lo hi : Option Int) (sl : Addr) (Q : VK), Inv X pins σ H s -> RelV x v -> s.heap.IsSliceOf sl vl vu .none -> IsPart vl lo -> IsPart vu hi -> r x lo hi H Q ->
    ∃ T id, typeLookup (.type T) "__getitem__" = pure (some (.builtin id)) /\ s.TypeIs v T /\ wpAny (model X.prog X.w) X.A (getItem v (.ref sl)) (EP X pins σ Q) X.xe s
def tSl (r : V -> Option Int -> Option Int -> Hp -> VK -> Prop) (te : TE) (tl th : TO) : TE := fun σ H Q => te σ H fun x H1 => tl σ H1 fun l H2 => th σ H2 fun u H3 => r x l u H3 Q
theorem pe_slice {r : V -> Option Int -> Option Int -> Hp -> VK -> Prop} (hr : SlR X r) (he : PE X e te) (hl : PO X lo tl) (hu : PO X hi th) : PE X (.Subscript e (.Slice lo hi none p2) pos) (tSl r te tl th) := by
  intro pins s σ H Q I h
  refine Subscript_ (thn (he pins s σ H _ I h) fun v s1 ⟨x, H1, I1, r1, q1⟩ => ?_)
  refine wpAny_Slice (thn (hl pins s1 σ H1 _ I1 q1) fun vl s2 ⟨l, H2, I2, pl, q2⟩ => thn (hu pins s2 σ H2 _ I2 q2) fun vu s3 ⟨u, H3, I3, pu, q3⟩ => ?_)
  rw [evalPart_none]
  refine wpAny_pure ?_
  have I4 : Inv X pins σ H3 { s3 with heap := s3.heap.push { cls := .type "slice", data := .fields #[vl, vu, .none] } } := I3.kept (t' := s3.toks) fun b ob q => Heap.get?_push_of_some _ q
  obtain ⟨T, id, hT, ht, hg⟩ := hr pins { s3 with heap := s3.heap.push { cls := .type "slice", data := .fields #[vl, vu, .none] } } σ H3 x v vl vu l u s3.heap.objs.size Q I4 r1 (Heap.IsSliceOf.new ..) pl pu q3
  show wpAny (model X.prog X.w) X.A (subscriptTail e (.Slice lo hi none p2) v (.ref s3.heap.objs.size)) (EP X pins σ Q) X.xe { s3 with heap := s3.heap.push { cls := .type "slice", data := .fields #[vl, vu, .none] } }
  exact tail_any (ops := [.ref s3.heap.objs.size, v]) ht hT hg (by with_unfolding_all rfl)
def cutV (xs : List V) (lo hi : Option Int) : List V := (xs.drop (HT.sIx xs.length 0 lo)).take (HT.sIx xs.length xs.length hi - HT.sIx xs.length 0 lo)
theorem cutV_length (xs : List V) (lo hi : Option Int) : (cutV xs lo hi).length <= xs.length := by
  unfold cutV
  rw [List.length_take, List.length_drop]
  omega
end
def ixN (n : Nat) (i : Int) : Option Nat := if 0 <= i then (if i < n then some i.toNat else none) else if -(n : Int) <= i then some (i + n).toNat else none
def atI {α : Type} (xs : List α) (i : Int) : Option α := (ixN xs.length i).bind fun j => xs[j]?
theorem ixN_seq {n : Nat} {i : Int} {j : Nat} (h : ixN n i = some j) : seqIndex? i n = some j /\ j < n /\ -(n : Int) <= i /\ i < n := by
  unfold ixN at h
  by_cases h0 : 0 <= i
  . rw [if_pos h0] at h
    by_cases h1 : i < n
    . rw [if_pos h1] at h
      have e : i.toNat = j := Option.some.inj h
      exact ⟨by rw [seqIndex_of h0 h1, e], by omega, by omega, h1⟩
    . rw [if_neg h1] at h; cases h
  . rw [if_neg h0] at h
    by_cases h1 : -(n : Int) <= i
    . rw [if_pos h1] at h
      have e : (i + n).toNat = j := Option.some.inj h
      exact ⟨by rw [seqIndex_neg (by omega) h1, e], by omega, h1, by omega⟩
    . rw [if_neg h1] at h; cases h
theorem atI_get {α : Type} {xs : List α} {i : Int} {v : α} (h : atI xs i = some v) : ∃ j, seqIndex? i xs.length = some j /\ xs[j]? = some v /\ j < xs.length /\ -(xs.length : Int) <= i /\ i < xs.length := by
  unfold atI at h
  cases e : ixN xs.length i with
  | none => rw [e] at h; cases h
  | some j =>
    rw [e] at h
    obtain ⟨h1, h2, h3, h4⟩ := ixN_seq e
    exact ⟨j, h1, h, h2, h3, h4⟩
theorem atI_nat {α : Type} {xs : List α} {j : Nat} {v : α} (h : xs[j]? = some v) : atI xs (j : Int) = some v := by
  have hj : j < xs.length := (List.getElem?_eq_some_iff.mp h).1
  have e : ixN xs.length (j : Int) = some j := by
    unfold ixN
    rw [if_pos (by omega), if_pos (by omega)]; simp
  unfold atI; rw [e]; exact h
def PlainIx (b : Expr) : Prop := ∀ o i, subscripted b false o i = operate [o, i] (getItem o i)
def IxR (X : Cx) (r : R2) : Prop :=
  ∀ (value slice : Expr) (pins : List (Addr × Obj)) (s : Shared) (σ : St) (H : Hp) (x y : V) (v u : Value) (Q : VK), Inv X pins σ H s -> RelV x v -> RelV y u -> r x y H Q ->
    subscripted slice false v u = operate [v, u] (getItem v u) -> wpAny (model X.prog X.w) X.A (subscriptTail value slice v u) (EP X pins σ Q) X.xe s
def MtR (X : Cx) (id : String) (r : V -> List V -> Hp -> VK -> Prop) : Prop :=
  ∀ (pins : List (Addr × Obj)) (s : Shared) (σ : St) (H : Hp) (x : V) (xs : List V) (v : Value) (us : List Value) (Q : VK), Inv X pins σ H s -> RelV x v -> Vals xs us -> r x xs H Q ->
    wpAny (model X.prog X.w) X.A (call (.builtin id) (v :: us)) (EP X pins σ Q) X.xe s
section
variable {X : Cx} {a b : Expr} {ta tb : TE} {pos : Pos}
theorem IxR.or {r r' : R2} (h : IxR X r) (h' : IxR X r') : IxR X (fun x y H Q => r x y H Q \/ r' x y H Q) := by
  intro value slice pins s σ H x y v u Q I rx ry q hs
  rcases q with q | q
  . exact h value slice pins s σ H x y v u Q I rx ry q hs
  . exact h' value slice pins s σ H x y v u Q I rx ry q hs
theorem pe_ix {r : R2} (hr : IxR X r) (ha : PE X a ta) (hb : PE X b tb) (hs : PlainIx b) : PE X (.Subscript a b pos) (tOp r ta tb) := by
  intro pins s σ H Q I h
  exact Subscript_ (binT ha hb I h fun v u s2 x y H2 I2 rx ry q => hr a b pins s2 σ H2 x y v u Q I2 rx ry q (hs _ _))
def rIxL (K : PySem.W.Frag) : R2 := fun x y H Q => ∃ p xs i v, x = .ref p /\ y = .int i /\ SqL K H p xs /\ atI xs i = some v /\ Q v H
def rIxT (K : PySem.W.Frag) : R2 := fun x y H Q => ∃ p xs i v, x = .ref p /\ y = .int i /\ SqT K H p xs /\ atI xs i = some v /\ Q v H
def rIxS : R2 := fun x y H Q => ∃ z i c, x = .str z /\ y = .int i /\ z.length <= sizeLine /\ atI z.cps.toList i = some c /\ Q (.str ⟨#[c]⟩) H
theorem ix_list : IxR X (rIxL X.K) := by
  intro value slice pins s σ H x y v u Q I rx ry h hs
  obtain ⟨p, xs, i, z, rfl, rfl, hq, he, q⟩ := h
  cases rx
  obtain ⟨t, rfl⟩ := ry
  obtain ⟨its, r, pl, hz⟩ := I.list hq
  obtain ⟨j, h1, h2, h3, h4, h5⟩ := atI_get he
  obtain ⟨w, ew, rw'⟩ := r.get h2
  have hl := r.length
  have hn := line63
  have fin : EP X pins σ Q w s := ⟨z, H, I, rw', q⟩
  by_cases h0 : 0 <= i
  . have hj : i.toNat = j := by
      rw [seqIndex_of h0 h5] at h1
      exact Option.some.inj h1
    exact item_listR pl.isList h0 (by omega) (by rw [hj]; simpa using ew) fin hs
  . have hj : (i + (its.toArray.size : Int)).toNat = j := by
      rw [seqIndex_neg (by omega) h4] at h1
      rw [List.size_toArray, <- hl]
      exact Option.some.inj h1
    exact subscriptTail_builtinR (x := w) pl.isList.typeIs slot_list_getitem.lookup
      (wpAny_getItem_list_neg (Q := fun r s' => r = w /\ EP X pins σ Q r s') pl.isList (by omega) (by rw [List.size_toArray] <;> omega) (by omega) (by rw [hj]; simpa using ew) ⟨rfl, fin⟩) hs
theorem ix_tup : IxR X (rIxT X.K) := by
  intro value slice pins s σ H x y v u Q I rx ry h hs
  obtain ⟨p, xs, i, z, rfl, rfl, hq, he, q⟩ := h
  cases rx
  obtain ⟨t, rfl⟩ := ry
  obtain ⟨its, r, pl, hz⟩ := I.tuple hq
  obtain ⟨j, h1, h2, h3, h4, h5⟩ := atI_get he
  obtain ⟨w, ew, rw'⟩ := r.get h2
  have hl := r.length
  have hn := line63
  have fin : EP X pins σ Q w s := ⟨z, H, I, rw', q⟩
  exact subscriptTail_builtinR (x := w) pl.typeIs slot_tuple_getitem.lookup
    (getItem_tuple (j := j) (Q := fun r s' => r = w /\ EP X pins σ Q r s') pl (by omega) (by omega) (by rw [List.size_toArray, <- hl]; exact h1) (by simpa using ew) ⟨rfl, fin⟩) hs
theorem ix_str : IxR X rIxS := by
  intro value slice pins s σ H x y v u Q I rx ry h hs
  obtain ⟨z, i, c, rfl, rfl, hz, he, q⟩ := h
  obtain ⟨t, rfl⟩ := rx
  obtain ⟨t', rfl⟩ := ry
  obtain ⟨j, h1, h2, h3, h4, h5⟩ := atI_get he
  have hl : z.cps.toList.length = z.length := by simp [Str.length]
  rw [hl] at h1 h4 h5
  have hn := line63
  exact tail_any (typeIs_str s z t) slot_str_getitem.lookup (getItem_str (c := c) (by
    have e1 : decide (i < -(2 ^ 63 : Int)) = false := decide_eq_false (by omega)
    have e2 : decide (i ≥ 2 ^ 63) = false := decide_eq_false (by omega)
    rw [e1, e2, Bool.or_false]) (by rw [h1]; simpa using h2) ⟨.str ⟨#[c]⟩, H, I.tok _, ⟨_, rfl⟩, q⟩) hs
def rIx (K : PySem.W.Frag) : R2 := fun x y H Q => rIxL K x y H Q \/ rIxT K x y H Q \/ rIxS x y H Q
theorem ix_seq : IxR X (rIx X.K) := ix_list.or (ix_tup.or ix_str)
theorem mapSeq_set (its : List Value) (n j : Nat) (u : Value) : Obj.mapSeq (·.setIfInBounds j u) { cls := .type "list", data := .seq its.toArray n } = { cls := .type "list", data := .seq (its.set j u).toArray n } := by
  simp [Obj.mapSeq]
theorem Inv.lst {pins : List (Addr × Obj)} {σ : St} {H : Hp} {s : Shared} {p : Addr} {xs : List V} (I : Inv X pins σ H s) (h : H p = some (.lst xs)) :
    ∃ (its : List Value) (n : Nat), Vals xs its /\ s.heap.get? p = some { cls := .type "list", data := .seq its.toArray n } /\ xs.length <= sizeLine := by
  obtain ⟨z, its, n, r, e⟩ := I.hok p _ h
  exact ⟨its, n, r, e, z⟩
theorem Inv.lstUpd {pins : List (Addr × Obj)} {σ : St} {H : Hp} {s : Shared} {p : Addr} {xs ys : List V} {its its' : List Value} {n n' : Nat} {f : Obj -> Obj} (I : Inv X pins σ H s) (h : H p = some (.lst xs))
    (ho : s.heap.get? p = some { cls := .type "list", data := .seq its.toArray n }) (hf : f { cls := .type "list", data := .seq its.toArray n } = { cls := .type "list", data := .seq its'.toArray n' }) (r : Vals ys its') (hz : ys.length <= sizeLine) (t : Nat) :
    Inv X pins σ (upd H p (.lst ys)) { s with heap := s.heap.update p f, toks := t } := by
  have e : (s.heap.update p f).get? p = some { cls := .type "list", data := .seq its'.toArray n' } := by
    rw [Heap.get?_update_self f ho (by rw [hf] <;> rfl), hf]
  refine I.write (x := p) (e := p) (by rw [h]; trivial) (.inl rfl) (fun b u hb q => (Heap.get?_update_other _ _ (Ne.symm hb)).trans q) ⟨_, e⟩ ?_
  exact ⟨hz, its', n', r, e⟩
def rSetL : V -> V -> V -> Hp -> (Hp -> Prop) -> Prop := fun o i v H Q => ∃ p xs k j, o = .ref p /\ i = .int k /\ H p = some (.lst xs) /\ ixN xs.length k = some j /\ Q (upd H p (.lst (xs.set j v)))
theorem set_list : PSet X rSetL := by
  intro pins s σ H o i v ov iv u Q I ro ri rv h
  obtain ⟨p, xs, k, j, rfl, rfl, hp, hj, q⟩ := h
  cases ro
  obtain ⟨t, rfl⟩ := ri
  obtain ⟨its, n, r, ho, hz⟩ := I.lst hp
  obtain ⟨h1, h2, h3, h4⟩ := ixN_seq hj
  have hl := r.length
  have hn := line63
  have I' : Inv X pins σ (upd H p (.lst (xs.set j v))) { s with heap := s.heap.update p (Obj.mapSeq (·.setIfInBounds j u)) } :=
    I.lstUpd hp ho (mapSeq_set its n j u) (r.set rv j) (by rw [List.length_set]; exact hz) s.toks
  by_cases h0 : 0 <= k
  . have hk : k.toNat = j := by
      rw [seqIndex_of h0 h4] at h1
      exact Option.some.inj h1
    exact PySem.W.ki_setAt ho h0 (by omega) (by rw [List.size_toArray, <- hl]; exact h4) (by rw [hk]; exact ⟨_, I', q⟩)
  . have hk : (k + (its.toArray.size : Int)).toNat = j := by
      rw [seqIndex_neg (by omega) h3] at h1
      rw [List.size_toArray, <- hl]
      exact Option.some.inj h1
    exact PySem.W.ki_setBack ho (by omega) (by rw [List.size_toArray, <- hl]; exact h3) (by omega) (by rw [hk]; exact ⟨_, I', q⟩)
theorem slice_bounds (lo hi : Option Int) (n : Nat) : (sliceBounds lo hi none n).1 = ((HT.sIx n 0 lo : Nat) : Int) /\ (sliceBounds lo hi none n).2.1 = ((HT.sIx n n hi : Nat) : Int) /\ (sliceBounds lo hi none n).2.2 = 1 := by
  refine ⟨?_, ?_, rfl⟩
  . cases lo with
    | none => simp [sliceBounds, HT.sIx]
    | some i =>
      simp only [sliceBounds, HT.sIx, Option.getD_none, show (1 : Int) > 0 by decide, if_true]
      by_cases h : i < 0
      . simp only [h, if_true] <;> omega
      . simp only [h, if_false] <;> omega
  . cases hi with
    | none => simp [sliceBounds, HT.sIx]
    | some i =>
      simp only [sliceBounds, HT.sIx, Option.getD_none, show (1 : Int) > 0 by decide, if_true]
      by_cases h : i < 0
      . simp only [h, if_true] <;> omega
      . simp only [h, if_false] <;> omega
theorem slicePick_cut (its : List Value) (lo hi : Option Int) : slicePick its.toArray lo hi none = ((its.drop (HT.sIx its.length 0 lo)).take (HT.sIx its.length its.length hi - HT.sIx its.length 0 lo)).toArray := by
  obtain ⟨h1, h2, h3⟩ := slice_bounds lo hi its.toArray.size
  unfold slicePick
  rw [h1, h2, h3]
  simp only [sliceRange_one, pick_run, List.size_toArray] <;> rfl
def rSlL (K : PySem.W.Frag) : V -> Option Int -> Option Int -> Hp -> VK -> Prop := fun x lo hi H Q => ∃ a xs, x = .ref a /\ SqL K H a xs /\ ∀ p, H p = none -> Q (.ref p) (upd H p (.lst (cutV xs lo hi)))
theorem sl_list : SlR X (rSlL X.K) := by
  intro pins s σ H x v vl vu lo hi sl Q I rx hs pl pu h
  obtain ⟨a, xs, rfl, hx, q⟩ := h
  cases rx
  obtain ⟨its, r, ht, hz⟩ := I.list hx
  have hlen := r.length
  refine ⟨"list", _, slot_list_getitem.lookup, ht.isList.typeIs, ?_⟩
  refine wpAny_getItem_list_slice ht.isList hs pl pu .none (by simp) ?_ (by rw [List.size_toArray] <;> omega)
  rw [slicePick_cut, <- hlen]
  refine ⟨.ref s.heap.objs.size, _, I.laid (t' := s.toks) (o := .lst (cutV xs lo hi)) (fun b ob q => Heap.get?_push_of_some _ q) (Nat.le_refl _) ?_, rfl, q _ (I.hok.fresh (Nat.le_refl _))⟩
  exact ⟨Nat.le_trans (cutV_length xs lo hi) hz, _, 0, (r.drop (HT.sIx xs.length 0 lo)).take (HT.sIx xs.length xs.length hi - HT.sIx xs.length 0 lo), Heap.get?_push_size _ rfl⟩
theorem call_len_seq : CallR X (.builtin "len") (fun xs H Q => ∃ p ys, xs = [.ref p] /\ (SqL X.K H p ys \/ SqT X.K H p ys) /\ Q (.int ys.length) H) := by
  intro pins s σ H xs us Q I r h
  obtain ⟨p, ys, rfl, hq, q⟩ := h
  obtain ⟨u, rfl, rx⟩ := vals1 r
  cases rx
  have hn := line63
  rcases hq with hq | hq
  . obtain ⟨its, r', pl, hz⟩ := I.list hq
    have hlen := r'.length
    exact Calls.call_len_list pl.isList (by simp only [List.size_toArray] <;> omega) ⟨.int ys.length, H, I.tok _, ⟨s.toks + 1, by rw [List.size_toArray, hlen]⟩, q⟩
  . obtain ⟨its, r', pl, hz⟩ := I.tuple hq
    have hlen := r'.length
    exact len_tuple pl (by simp only [List.size_toArray] <;> omega) ⟨.int ys.length, H, I.tok _, ⟨s.toks + 1, by rw [List.size_toArray, hlen]⟩, q⟩
theorem call_list_of : CallR X (.type "list") (fun xs H Q => ∃ p ys, xs = [.ref p] /\ (SqL X.K H p ys \/ SqT X.K H p ys) /\ ∀ l, H l = none -> Q (.ref l) (upd H l (.lst ys))) := by
  intro pins s σ H xs us Q I r h
  obtain ⟨p, ys, rfl, hq, q⟩ := h
  obtain ⟨u, rfl, rx⟩ := vals1 r
  cases rx
  have fin : ∀ (its : List Value), Vals ys its -> ys.length <= sizeLine -> ∀ (h' : Heap) (c' : Nat), (∀ b o', s.heap.get? b = some o' -> h'.get? b = some o') ->
      h'.get? s.heap.objs.size = some { cls := .type "list", dict := none, data := .seq its.toArray c', slots := #[] } -> EP X pins σ Q (.ref s.heap.objs.size) { s with heap := h' } := fun its r' hz h' c' kp e =>
    ⟨.ref s.heap.objs.size, _, I.laid (t' := s.toks) kp (Nat.le_refl _) (show ObjOk X.prog X.w _ h' _ (.lst ys) from ⟨hz, its, c', r', e⟩), rfl, q _ (I.hok.fresh (Nat.le_refl _))⟩
  rcases hq with hq | hq
  . obtain ⟨its, r', pl, hz⟩ := I.list hq
    have hlen := r'.length
    obtain ⟨o, ho, hc, n, hd⟩ := pl.isList
    exact call_list_seq p (.inl rfl) ho hc hd (fun h' c' kp e => fin its r' hz h' c' kp e) (by simp only [List.size_toArray] <;> omega)
  . obtain ⟨its, r', pl, hz⟩ := I.tuple hq
    have hlen := r'.length
    obtain ⟨o, ho, hc, n, hd⟩ := pl
    exact call_list_seq p (.inr rfl) ho hc hd (fun h' c' kp e => fin its r' hz h' c' kp e) (by simp only [List.size_toArray] <;> omega)
def tyV (K : PySem.W.Frag) (T : String) (x : V) (H : Hp) : Prop := match x with
  | .str _ => T = "str"
  | .int _ => T = "int"
  | .ref p => (T = "list" /\ ∃ xs, SqL K H p xs) \/ (T = "tuple" /\ ∃ o, K.lookup p = some o /\ o.cls = .type "tuple" /\ o.dict = none) \/
      (T = "dict" /\ ((∃ kvs, H p = some (.dK kvs)) \/ ∃ kvs, H p = some (.dT kvs))) \/ (T = "set" /\ ∃ S n, H p = some (.set S n))
  | _ => False
theorem tyV_is {pins : List (Addr × Obj)} {σ : St} {H : Hp} {s : Shared} {T : String} {x : V} {v : Value} (I : Inv X pins σ H s) (r : RelV x v) (ty : tyV X.K T x H) :
    s.TypeIs v T /\ ∀ a, v = .ref a -> ∃ ob, s.heap.get? a = some ob /\ ob.dict = none := by
  cases x with
  | str z =>
    obtain ⟨t, rfl⟩ := r
    cases (show T = "str" from ty)
    exact ⟨typeIs_str s z t, fun _ e => nomatch e⟩
  | int i =>
    obtain ⟨t, rfl⟩ := r
    cases (show T = "int" from ty)
    exact ⟨typeIs_int s i t, fun _ e => nomatch e⟩
  | ref p =>
    cases r
    rcases ty with ⟨rfl, xs, hq⟩ | ⟨rfl, o, hk, hc, hd⟩ | ⟨rfl, hk⟩ | ⟨rfl, S, n, hk⟩
    . obtain ⟨its, _, pl, _⟩ := I.list hq
      refine ⟨pl.isList.typeIs, fun a e => ?_⟩
      cases e
      obtain ⟨o, n, e, c, hd, _⟩ := pl
      exact ⟨o, e, hd⟩
    . refine ⟨⟨o, I.kIn p o hk, hc⟩, fun a e => ?_⟩
      cases e
      exact ⟨o, I.kIn _ o hk, hd⟩
    . have z : ∃ o, s.heap.get? p = some o /\ o.ExactDict := by
        rcases hk with ⟨kvs, hk⟩ | ⟨kvs, hk⟩
        . obtain ⟨_, _, _, _, o, _, _, e, ex, _⟩ := I.hok p _ hk
          exact ⟨o, e, ex⟩
        . obtain ⟨_, _, _, _, o, _, _, e, ex, _⟩ := I.hok p _ hk
          exact ⟨o, e, ex⟩
      obtain ⟨o, e, ex⟩ := z
      refine ⟨⟨o, e, ex.1⟩, fun a e2 => ?_⟩
      cases e2
      exact ⟨o, e, ex.2.1⟩
    . obtain ⟨o, _, _, _, e, ex, _⟩ := I.hok p _ hk
      refine ⟨⟨o, e, ex.1⟩, fun a e2 => ?_⟩
      cases e2
      exact ⟨o, e, ex.2.1⟩
  | _ => exact False.elim ty
def tBM0 (K : PySem.W.Frag) (T : String) (r : V -> List V -> Hp -> VK -> Prop) (to : TE) : TE := fun σ H Q => to σ H fun x H1 => tyV K T x H1 /\ r x [] H1 Q
def tBM (K : PySem.W.Frag) (T : String) (r : V -> List V -> Hp -> VK -> Prop) (to : TE) (t : TA) : TE := fun σ H Q => to σ H fun x H1 => tyV K T x H1 /\ t σ H1 fun xs H2 => r x xs H2 Q
variable {o e : Expr} {es : List Expr} {to : TE} {t : TA} {name : Str} {apos cpos : Pos} {T id : String} {r : V -> List V -> Hp -> VK -> Prop}
theorem pe_bm0 (pa : PlainAttrs T) (slot : Slot T name id) (hty : typeOf (.builtin id) = pure (.type "method_descriptor")) (hm : MtR X id r) (ho : PE X o to)
    (hbase : attributeBase o name X.env (eval o X.env) = eval o X.env := by rfl) (hline : (apos.endLine == cpos.line) = true := by rfl) : PE X (.Call (.Attribute o name apos) [] [] cpos) (tBM0 X.K T r to) := by
  intro pins s σ H Q I h
  refine wpAny_Call_method0_late hbase hline (thn (ho pins s σ H _ I h) fun v s1 ⟨x, H1, I1, r1, ty, q1⟩ => ?_)
  obtain ⟨h1, h2⟩ := tyV_is I1 r1 ty
  exact ⟨T, id, pa, slot, hty, h1, h2, Calls.callWith_builtin rfl (PySem.evalArgs_none (hm pins s1 σ H1 x [] v [] Q I1 r1 .nil q1))⟩
theorem pe_bm (pa : PlainAttrs T) (slot : Slot T name id) (hty : typeOf (.builtin id) = pure (.type "method_descriptor")) (hm : MtR X id r) (ho : PE X o to) (ha : PA X (e :: es) t)
    (hbase : attributeBase o name X.env (eval o X.env) = eval o X.env := by rfl)
    (hfew : ((backTo cpos (starEach (e :: es) X.env)).all (fun x => !x.1) && (backToKw cpos (keywordEach [] X.env)).all (fun x => x.1.isSome)
      && decide ((e :: es).length + ([] : List Keyword).length + (if ([] : List Keyword).isEmpty then 0 else 1) < 30)) = true := by rfl)
    (hline : (apos.endLine == cpos.line) = true := by rfl) (hs : starEach (e :: es) X.env = (false, eval e X.env) :: starEach es X.env := by rfl) (hplain : (backTo cpos (starEach es X.env)).any (·.1) = false := by rfl) :
    PE X (.Call (.Attribute o name apos) (e :: es) [] cpos) (tBM X.K T r to t) := by
  intro pins s σ H Q I h
  refine wpAny_Call_method_late hbase hfew hline rfl (thn (ho pins s σ H _ I h) fun v s1 ⟨x, H1, I1, r1, ty, q1⟩ => ?_)
  obtain ⟨h1, h2⟩ := tyV_is I1 r1 ty
  refine ⟨T, id, pa, slot, hty, h1, h2, ?_⟩
  have hA := ha cpos pins s1 σ H1 _ I1 q1
  rw [hs] at hA ⊢
  refine Calls.callWith_builtin (by show (false || (backTo cpos (starEach es X.env)).any (·.1)) = false; rw [hplain] <;> rfl) (Calls.evalArgs_plain ?_)
  exact thn hA fun us s2 ⟨vs, H2, I2, r2, q2⟩ => hm pins s2 σ H2 x vs v us Q I2 r1 r2 q2
/- xs.append(e), list.index on a module's tuple .. are MtR facts of 06m -/
end
def MtM (X : Cx) (id : String) (r : V -> List V -> Hp -> VK -> Prop) : Prop :=
  ∀ (pins : List (Addr × Obj)) (s : Shared) (σ : St) (H : Hp) (x : V) (xs : List V) (v : Value) (us : List Value) (Q : VK), Inv X pins σ H s -> RelV x v -> Vals xs us -> r x xs H Q ->
    wpAny (model X.prog X.w) X.A (call (.builtin id) (v :: us)) (EP X pins σ Q) X.xe s
theorem Vals.one : ∀ {x : V} {us : List Value}, Vals [x] us -> ∃ u, us = [u] /\ RelV x u
  | _, _, .cons r .nil => ⟨_, rfl, r⟩
theorem Vals.zero : ∀ {us : List Value}, Vals [] us -> us = []
  | _, .nil => rfl
theorem Vals.dropLast {xs : List V} {us : List Value} (h : Vals xs us) : Vals xs.dropLast us.dropLast := by
  induction h with
  | nil => exact .nil
  | cons r t ih =>
    cases t with
    | nil => exact .nil
    | cons q t' => exact .cons r ih
theorem Vals.rep {xs : List V} {us : List Value} (h : Vals xs us) : ∀ k : Nat, Vals (List.replicate k xs).flatten (List.replicate k us).flatten
  | 0 => .nil
  | k + 1 => by
    rw [List.replicate_succ, List.replicate_succ, List.flatten_cons, List.flatten_cons]
    exact Vals.append h (Vals.rep h k)
theorem erase_last {α : Type} (l : List α) : l.eraseIdx (l.length - 1) = l.dropLast := by
  induction l with
  | nil => rfl
  | cons a r ih =>
    cases r with
    | nil => rfl
    | cons b r =>
      have e : (a :: b :: r).length - 1 = ((b :: r).length - 1) + 1 := by
        have h1 : (a :: b :: r).length = r.length + 2 := rfl
        have h2 : (b :: r).length = r.length + 1 := rfl
        omega
      rw [e, List.eraseIdx_cons_succ, ih]
      all_goals rfl
theorem foldl_rep (its : List Value) : ∀ (k : Nat) (acc : List Value),
    List.foldl (fun x1 x2 => x1 ++ x2) acc.toArray (List.replicate k its.toArray) = (acc ++ (List.replicate k its).flatten).toArray
  | 0, acc => by simp
  | k + 1, acc => by
    have e : acc.toArray ++ its.toArray = (acc ++ its).toArray := by simp
    have e2 : (acc ++ its) ++ (List.replicate k its).flatten = acc ++ (List.replicate (k + 1) its).flatten := by
      rw [List.replicate_succ, List.flatten_cons, List.append_assoc]
    rw [<- e2, <- foldl_rep its k (acc ++ its), <- e, List.replicate_succ, List.foldl_cons]
section
variable {X : Cx} {pins : List (Addr × Obj)} {σ : St} {H : Hp} {s : Shared} {l b : Addr} {xs ys zs : List V}
theorem Inv.lset {its its' : List Value} {n : Nat} {f : Array Value -> Array Value} {t' : Nat} (I : Inv X pins σ H s) (hH : H l = some (.lst xs))
    (e : s.heap.get? l = some { cls := .type "list", data := .seq its.toArray n }) (hf : f its.toArray = its'.toArray) (hv : Vals ys its') (hz : ys.length <= sizeLine) :
    Inv X pins σ (upd H l (.lst ys)) { s with heap := s.heap.update l (Obj.mapSeq f), toks := t' } := by
  have q := PySem.IsL.update e f
  rw [hf] at q
  refine I.write (x := l) (e := l) (by rw [hH]; exact trivial) (.inl rfl) (fun b' u hb hu => (Heap.get?_update_other s.heap (Obj.mapSeq f) (Ne.symm hb)).trans hu) ⟨_, q⟩ ?_
  exact ⟨hz, its', _, hv, q⟩
theorem Inv.lnew {its : List Value} {t' : Nat} (I : Inv X pins σ H s) (hv : Vals ys its) (hz : ys.length <= sizeLine) :
    Inv X pins σ (upd H s.heap.objs.size (.lst ys)) { s with heap := s.heap.push { cls := .type "list", data := .seq its.toArray }, toks := t' } :=
  I.laid (fun _ _ q => Heap.get?_push_of_some _ q) (Nat.le_refl _) ⟨hz, its, 0, hv, Heap.get?_push_size _ rfl⟩
theorem Inv.fresh (I : Inv X pins σ H s) : H s.heap.objs.size = none := I.hok.fresh (Nat.le_refl _)
theorem Inv.lstM (I : Inv X pins σ H s) (hH : H l = some (.lst xs)) : xs.length <= sizeLine /\ ∃ (its : List Value) (n : Nat), Vals xs its /\ xs.length = its.length /\ s.heap.get? l = some { cls := .type "list", data := .seq its.toArray n } := by
  obtain ⟨z, its, n, r, e⟩ := I.hok l _ hH
  exact ⟨z, its, n, r, r.length, e⟩
theorem notLongL {n : Nat} (h : n <= sizeLine) : Builtin.List.listTooLong n = false := by
  unfold Builtin.List.listTooLong
  exact decide_eq_false (by omega)
end
section
variable {X : Cx}
def rAppend : V -> List V -> Hp -> VK -> Prop := fun x vs H Q => ∃ l xs y, x = .ref l /\ vs = [y] /\ H l = some (.lst xs) /\ xs.length < sizeLine /\ Q .non (upd H l (.lst (xs ++ [y])))
theorem mt_append : MtM X "list.append" rAppend := by
  intro pins s σ H x vs v us Q I rx rv h
  obtain ⟨l, xs, y, rfl, rfl, hH, hz, q⟩ := h
  cases rx
  obtain ⟨u, rfl, ru⟩ := rv.one
  obtain ⟨z, its, n, r, hl, e⟩ := I.lstM hH
  refine call_meets F.slot_list_append ⟨_, e, rfl⟩ F.entry_list_append (F.args_list_append_2 _ _) (PySem.list_append l its.toArray n u (by rw [List.size_toArray]; omega)) ⟨e, ?_⟩
  refine ⟨.non, _, I.lset (its' := its ++ [u]) hH e (by simp) (r.append (.cons ru .nil)) ?_, rfl, q⟩
  rw [List.length_append, List.length_singleton]
  omega
def rPop : V -> List V -> Hp -> VK -> Prop := fun x vs H Q => ∃ l xs y, x = .ref l /\ vs = [] /\ H l = some (.lst xs) /\ xs[xs.length - 1]? = some y /\ Q y (upd H l (.lst xs.dropLast))
theorem mt_pop : MtM X "list.pop" rPop := by
  intro pins s σ H x vs v us Q I rx rv h
  obtain ⟨l, xs, y, rfl, rfl, hH, hy, q⟩ := h
  cases rx
  have hus := rv.zero
  subst hus
  obtain ⟨z, its, n, r, hl, e⟩ := I.lstM hH
  obtain ⟨u, hu, ru⟩ := r.get hy
  have hy' : its.toArray[its.toArray.size - 1]? = some u := by
    show its.toArray[its.length - 1]? = some u
    rw [<- Array.getElem?_toList, <- hl]
    exact hu
  refine call_meets F.slot_list_pop ⟨_, e, rfl⟩ F.entry_list_pop (F.args_list_pop_1 _) (MeetsSeq.list_pop_last l its.toArray n u hy' (by rw [List.size_toArray]; omega)) ⟨e, ?_⟩
  refine ⟨y, _, I.lset (its' := its.dropLast) hH e ?_ r.dropLast ?_, ru, q⟩
  . show its.toArray.eraseIdxIfInBounds (its.toArray.size - 1) = its.dropLast.toArray
    rw [List.size_toArray, List.eraseIdxIfInBounds_toArray, erase_last]
  . rw [List.length_dropLast]
    omega
def rRep : R2 := fun x y H Q => ∃ l k xs, x = .ref l /\ y = .int k /\ H l = some (.lst xs) /\ -(2 ^ 63) <= k /\ k < 2 ^ 63 /\ xs.length * k.toNat <= sizeLine /\
  ∀ p, H p = none -> Q (.ref p) (upd H p (.lst (List.replicate k.toNat xs).flatten))
theorem len_rep {α : Type} (xs : List α) (k : Nat) : (List.replicate k xs).flatten.length = k * xs.length := by
  induction k with
  | zero => simp
  | succ k ih => rw [List.replicate_succ, List.flatten_cons, List.length_append, ih, Nat.succ_mul, Nat.add_comm]
theorem op_rep : OpR X (binaryOp .Mult) rRep := by
  intro pins s σ H x y v u Q I rx ry h
  obtain ⟨l, k, xs, rfl, rfl, hH, h1, h2, hz, q⟩ := h
  cases rx
  obtain ⟨t, rfl⟩ := ry
  obtain ⟨z, its, n, r, hl, e⟩ := I.lstM hH
  have hlen : its.toArray.size * k.toNat <= sizeLine := by rw [List.size_toArray, <- hl]; exact hz
  have hcap : ¬ its.toArray.size * k.toNat > (2 ^ 63 - 1) / 8 := by
    have : (sizeLine : Nat) <= (2 ^ 63 - 1) / 8 := by decide
    omega
  have hfit : ¬ (!Builtin.List.listFitsIndex k) = true := by
    rw [fitsIndex_both h1 h2]
    exact Bool.false_ne_true
  have hlong : ¬ Builtin.List.listTooLong (its.toArray.size * k.toNat) = true := by
    rw [notLongL hlen]
    exact Bool.false_ne_true
  have hnew : List.foldl (fun x1 x2 => x1 ++ x2) #[] (List.replicate (if its.toArray.isEmpty = true then 0 else k.toNat) its.toArray) = (List.replicate k.toNat its).flatten.toArray := by
    have f0 : ∀ m : Nat, List.foldl (fun x1 x2 => x1 ++ x2) #[] (List.replicate m its.toArray) = (List.replicate m its).flatten.toArray := fun m => by
      have := foldl_rep its m []
      rw [List.nil_append] at this
      exact this
    rw [f0]
    cases its with
    | nil => simp
    | cons a r' => rw [if_neg (by simp)]
  refine wpAny_binaryOp_repeat_ref (T := "list") (U := "int") (by decide) ⟨_, e, rfl⟩ (fun s' => typeIs_int s' k t) noFill_list_mul F.fills_int_mul F.slot_int_rmul repeat_list F.slot_int_index.lookup
    (call_meets F.slot_int_rmul (typeIs_int s k t) F.entry_int_rmul (F.args_int_rmul_2 _ _) (int___rmul___int_list k t l its.toArray n)
      ⟨e, rfl, ⟨_, e, rfl⟩, call_meets F.slot_list_mul ⟨_, e, rfl⟩ F.entry_list_mul (F.args_list_mul_2 _ _) (AutoListH.list___mul___list_int_3 l its.toArray n k t hfit hcap hlong) ⟨e, ?_⟩⟩)
  rw [hnew]
  exact ⟨.ref _, _, I.lnew (t' := s.toks) (r.rep k.toNat) (by rw [len_rep, Nat.mul_comm]; exact hz), rfl, q _ I.fresh⟩
end
end L2
namespace Att
open PySem PySem.W PySem.Calls PyProof.Rows
theorem ints_of_wellAll {P : Params} {h : Heap} : ∀ (ns : List Int) (vs : List Value), WellAll P h vs (ns.map WData.int) -> IntsAre vs ns := by
  intro ns
  induction ns with
  | nil =>
    intro vs w
    rw [List.map_nil] at w
    cases w
    exact .nil
  | cons n ns ih =>
    intro vs w
    rw [List.map_cons] at w
    cases w with
    | cons a b =>
      cases a
      exact .cons _ _ (ih _ b)
theorem script_of {l : OpenLaw} {n : Nat} (hn : l.most = some n) {P : Params} {h : Heap} {args : List WData} {vals : List Value}
    (hpre : l.row.toRowW.claim.pre args = true) (hwl : WellAll P h vals args) :
    ∃ a vs ns, vals = [Value.ref a] /\ args = [WData.list (ns.map WData.int)] /\ h.get? a = some { cls := .type "list", data := .seq vs.toArray } /\ IntsAre vs ns /\ ns.length <= n := by
  have hsh : WShape.hasAll [] args [.list .int] = true := (pre_splitW hpre).1
  have hc : l.pre.holds [] { args := args } = true := (pre_splitW hpre).2
  obtain ⟨d, r, rfl, h1, h2⟩ := hasAllW_cons hsh
  obtain rfl := hasAllW_nil h2
  obtain ⟨xs, rfl, h3⟩ := hasW_list h1
  obtain ⟨ns, rfl⟩ := items_int h3
  have hlen : ns.length <= n := by
    unfold OpenLaw.pre at hc
    have h4 : (WTm.not (.lt (.lit (.int (n : Int))) (.len (.arg 0)))).holds [] { args := [.list (ns.map .int)] } = true := by
      have h4 := (holds_andW hc).1
      rw [hn] at h4
      exact h4
    have h5 := condW_of h4 (w_not (w_lt w_lit (w_len_list (w_arg rfl))))
    rw [List.length_map] at h5
    refine Nat.le_of_not_lt fun q => ?_
    have q' : (n : Int) < ((ns.length : Nat) : Int) := by omega
    first
      | (rw [decide_eq_true q'] at h5; exact absurd h5 (by decide))
      | (simp at h5; omega)
  cases hwl with
  | cons w1 w2 =>
    cases w2
    cases w1 with
    | list ho hall => exact ⟨_, _, ns, rfl, rfl, ho, ints_of_wellAll ns _ hall, hlen⟩
theorem post_true (l : OpenLaw) (args : List WData) : l.row.toRowW.claim.post args (.bool true) args = true :=
  postW_of (r := l.row.toRowW) (X := (true == true))
    (show WShape.has [] (.bool true) .bool = true by first | rfl | decide | simp [WShape.has, WShape.arms, WShape.armsAll])
    (show (WTm.eq .res (.lit (.bool true))).value [] { args := args, res := some (.bool true), after := args } = some (.bool (true == true)) from w_eq_bool (w_res rfl) w_lit) rfl
section
variable {prog : Program} {w : World} {A : Around} {E : Value -> Shared -> Prop} {s : Shared} {K : Frag}
def ledger (h : Heap) (L d : Addr) : List (Addr × Obj) := (List.range h.objs.size).filterMap fun a => if a = L \/ a = d then none else (h.get? a).map fun o => (a, o)
end
end Att
namespace L2
open PySem PySem.Spec PyProof.Rows
theorem vals_ints : ∀ {vs : List Value} {ns : List Int}, IntsAre vs ns -> Vals (ns.map V.int) vs
  | _, _, .nil => .nil
  | _, _, .cons n t h => .cons ⟨t, rfl⟩ (vals_ints h)
def tabsH (K : PySem.W.Frag) : Hp := fun b => match (lamsIn K).find? fun x => x.2.1 == b with
  | some x => some (.tbl ⟨x.2.2, #[]⟩)
  | none => none
theorem tabsH_of {K : PySem.W.Frag} {b : Addr} {o : HO} (h : tabsH K b = some o) : ∃ x ∈ lamsIn K, x.2.1 = b /\ o = .tbl ⟨x.2.2, #[]⟩ := by
  unfold tabsH at h
  split at h
  . rename_i x e
    exact ⟨x, List.mem_of_find?_eq_some e, by simpa using List.find?_some e, (Option.some.inj h).symm⟩
  . cases h
structure LamOk (K : PySem.W.Frag) (h : Heap) : Prop where
  e : ∀ x ∈ lamsIn K, h.get? x.2.1 = some (PySem.W.tabObj #[])
  n : ∀ x ∈ lamsIn K, K.lookup x.2.1 = none
  u : ∀ x ∈ lamsIn K, ∀ y ∈ lamsIn K, x.2.1 = y.2.1 -> x.2.2 = y.2.2
theorem lamsIn_hd {K : PySem.W.Frag} {x : Addr × Addr × Str} (h : x ∈ lamsIn K) : PySem.W.codeHdIn K x.1 x.2.1 = true := by
  obtain ⟨y, _, e⟩ := List.mem_filterMap.mp h
  repeat' split at e
  all_goals first
    | (cases e; assumption)
    | cases e
theorem tabsH_at {K : PySem.W.Frag} {h : Heap} (L : LamOk K h) {x : Addr × Addr × Str} (hx : x ∈ lamsIn K) : tabsH K x.2.1 = some (.tbl ⟨x.2.2, #[]⟩) := by
  unfold tabsH
  split
  . rename_i y e
    have e1 : y.2.1 = x.2.1 := by simpa using List.find?_some e
    rw [L.u y (List.mem_of_find?_eq_some e) x hx e1]
  . rename_i e
    have := List.find?_eq_none.mp e x hx
    simp at this
theorem law_call {P : Program} {w : World} {K : PySem.W.Frag} {mg mb : Str -> Option Value} {CX : CXT} {k : Nat} {fa a : Addr} {fd : FuncData} {x : Str} {sp : Sp} {s₁ : Shared} {vs : List Value} {ns : List Int}
    (KX : K.In s₁.heap) (hns : s₁.heap.Ns mainGlobals mg) (hb : s₁.heap.Ns builtinsNs mb) (hbb : ∀ x : Str, x ≠ "__name__" -> mb x = bootBuiltins x) (hlim : s₁.heap.NoLimit) (hg : s₁.gens = #[])
    (ha : s₁.heap.get? a = some { cls := .type "list", data := .seq vs.toArray }) (hi : IntsAre vs ns) (hl : ns.length <= sizeLine) (hr : Room k callerA) (LO : LamOk K s₁.heap) (BM : BltM mg s₁.heap)
    (F : ∀ base : Heap, K.In base -> base.Ns mainGlobals mg -> FnOk P w K mg base CX k fa fd [x] sp) (hbind : ∀ (s : Shared) (u : Value), BindsTo s fd ⟨[u], []⟩ [(x, u)])
    (hsp : ∀ H : Hp, SqL K H a (ns.map V.int) -> sp [.ref a] H (fun v _ => v = .bl true) fun _ _ _ => False)
    (hCX : ∀ H e s', CX [] H s₁ (fun _ _ _ => False) e s' -> False) :
    codeAny (model P w) callerA (.call (.ref fa) ⟨[.ref a], []⟩) (fun r s' => r = .ok (.ret (.bool true)) /\ OldK s₁.heap s'.heap /\ s'.os = s₁.os /\ AllBare s'.gens) s₁ := by
  have rv := vals_ints hi
  have lenV := hi.length
  have nat : ∀ {b : Addr} {o : HO}, tabsH K b = some o -> b ≠ a := fun {b o} h z => by
    obtain ⟨x, hx, e, _⟩ := tabsH_of h
    have := LO.e x hx
    rw [e, z, ha] at this
    cases this
  have core : ∀ H : Hp, (∀ b, b ≠ a -> H b = tabsH K b) -> SqL K H a (ns.map V.int) -> HOk P w H s₁.heap -> (H a ≠ none -> K.lookup a = none /\ ∃ o xs, H a = some (.frz o (.lst xs))) ->
      codeAny (model P w) callerA (.call (.ref fa) ⟨[.ref a], []⟩) (fun r s' => r = .ok (.ret (.bool true)) /\ OldK s₁.heap s'.heap /\ s'.os = s₁.os /\ AllBare s'.gens) s₁ := by
    intro H hT hS hok hK
    have base_of : ∀ {b : Addr} {o : Obj}, s₁.heap.get? b = some o -> H b = none -> (hidT s₁.heap H).get? b = some o := fun e n => hidT_get e n
    have noA : ∀ {b : Addr} {o : Obj} {es : Array DictEntry} {ep : Nat}, s₁.heap.get? b = some o -> o.data = .dict es ep -> H b = none := fun {b o es ep} e d => by
      by_cases hba : b = a
      . subst hba
        rw [ha] at e; cases e
        have d' : Data.seq vs.toArray _ = Data.dict es ep := d
        cases d'
      . rw [hT b hba]
        cases q : tabsH K b with
        | none => rfl
        | some u =>
          obtain ⟨x, hx, e1, _⟩ := tabsH_of q
          have := LO.e x hx
          rw [e1, e] at this
          cases this
          cases d
    have noB : ∀ {b : Addr} {o : Obj}, s₁.heap.get? b = some o -> o.cls = .type "module" -> H b = none := fun {b o} e d => by
      by_cases hba : b = a
      . subst hba
        rw [ha] at e; cases e
        injection d with z
        exact absurd z (by decide)
      . rw [hT b hba]
        cases q : tabsH K b with
        | none => rfl
        | some u =>
          obtain ⟨x, hx, e1, _⟩ := tabsH_of q
          have := LO.e x hx
          rw [e1, e] at this
          cases this
          cases d
    have nsK : ∀ {b : Addr} {m : Str -> Option Value}, s₁.heap.Ns b m -> (hidT s₁.heap H).Ns b m := fun {b m} ⟨o, es, ep, e, d, r⟩ => ⟨o, es, ep, base_of e (noA e d), d, r⟩
    have hKb : K.In (hidT s₁.heap H) := fun b o e => base_of (KX b o e) (by
      by_cases hba : b = a
      . subst hba
        cases q : H b with
        | none => rfl
        | some u =>
          rw [(hK (by rw [q]; simp)).1] at e; cases e
      . rw [hT b hba]
        cases q : tabsH K b with
        | none => rfl
        | some u =>
          obtain ⟨x, hx, e1, _⟩ := tabsH_of q
          have := LO.n x hx
          rw [e1, e] at this
          cases this)
    have hM : Mod K mg (hidT s₁.heap H) := ⟨hKb, nsK hns, ⟨mb, nsK hb, hbb⟩, let ⟨mc, h1, h2⟩ := hlim; ⟨mc, nsK h1, h2⟩, let ⟨bm, ob, b1, b2, b3, b4, b5⟩ := BM; ⟨bm, ob, b1, b2, base_of b3 (noB b3 b4), b4, b5⟩⟩
    have e0 : Env0 P w K mg (hidT s₁.heap H) callerA [] s₁ H := ⟨rfl, hM, fun b o e => of_hidT e, Nat.le_of_eq (hidT_size _ _), trivial, ⟨fun b hb => absurd (show b ∈ ([] : List Addr) from hb) (by simp), fun x hx => ⟨#[], by rw [hT _ (nat (tabsH_at LO hx))]; exact tabsH_at LO hx⟩⟩, hok, .of_eq hg⟩
    refine codeAny_mono ((F _ hKb (nsK hns)).run callerA [] s₁ H ⟨[.ref a], []⟩ [.ref a] [.ref a] _ _ hr e0 (hbind s₁ (.ref a)) (.cons rfl .nil) (hsp H hS)) fun r s' h => ?_
    cases r with
    | error e => exact (hCX H e s' h).elim
    | ok fl =>
      cases fl with
      | next => exact False.elim h
      | brk => exact False.elim h
      | cont => exact False.elim h
      | ret u =>
        obtain ⟨v, H', os, bare, un, hok', r', q⟩ := h
        have q' : v = .bl true := q
        subst q'
        obtain rfl : u = Value.bool true := r'
        have all : ∀ b o, s₁.heap.get? b = some o -> s'.heap.get? b = some o \/ ∃ x ∈ lamsIn K, x.2.1 = b /\ o = PySem.W.tabObj #[] /\ ∃ more, s'.heap.get? b = some (PySem.W.tabObj (#[] ++ more)) := fun b o e => by
          by_cases hba : b = a
          . subst hba
            cases q : H b with
            | none => exact .inl (un.keep b o e q (by intro z; exact absurd (show b ∈ ([] : List Addr) from z) (by simp)) (by simp))
            | some u =>
              obtain ⟨_, ob, xs, z⟩ := hK (by rw [q]; simp)
              have z2 := un.frzs b ob _ z
              obtain ⟨e1, _⟩ := hok b _ z
              obtain ⟨e2, _⟩ := hok' b _ z2
              rw [e] at e1; cases e1
              exact .inl e2
          . cases q : tabsH K b with
            | none => exact .inl (un.keep b o e (by rw [hT b hba]; exact q) (by intro z; exact absurd (show b ∈ ([] : List Addr) from z) (by simp)) (by simp))
            | some u =>
              obtain ⟨x, hx, e1, rfl⟩ := tabsH_of q
              obtain ⟨more, e2⟩ := un.tbls b _ (by rw [hT b hba]; exact q)
              obtain ⟨e3, _⟩ := hok' b _ e2
              have e4 := LO.e x hx
              rw [e1, e] at e4
              exact .inr ⟨x, hx, e1, Option.some.inj e4, more, e3⟩
        refine ⟨rfl, ⟨fun b o e => ?_, fun b o e => ?_⟩, os, bare⟩
        . rcases all b o e with z | ⟨x, hx, e1, rfl, more, e2⟩
          . exact .inl z
          . have C : PySem.W.CodeHd s₁.heap x.1 x.2.1 := PySem.W.codeHd_of_K KX (lamsIn_hd hx)
            exact .inr (.inl ⟨e1 ▸ (C.tab (LO.e x hx)).isCodeTable, rfl, #[], more, rfl, e2⟩)
        . rcases all b o e with z | ⟨x, hx, e1, rfl, more, e2⟩
          . exact ⟨_, z⟩
          . exact ⟨_, e2⟩
  have tabOk : ∀ (H : Hp) b u, tabsH K b = some u -> ObjOk P w H s₁.heap b u := fun H b u q => by
    obtain ⟨x, hx, e1, rfl⟩ := tabsH_of q
    have e4 := LO.e x hx
    rw [e1] at e4
    exact ⟨e4, trivial, fun p cv hc => by cases hc⟩
  cases hk : K.lookup a with
  | some o =>
    have e := KX a o hk
    rw [ha] at e
    cases e
    refine core (tabsH K) (fun _ _ => rfl) (.inr ⟨_, vs.toArray, _, hk, rfl, rfl, rfl, by rw [List.size_toArray, lenV]; exact hl, by simpa using rv⟩) (fun b u z => tabOk _ b u z) fun z => ?_
    cases q : tabsH K a with
    | none => exact absurd q z
    | some u => exact absurd rfl (nat q)
  | none =>
    refine core (fun b => if b = a then some (.frz { cls := .type "list", data := .seq vs.toArray } (.lst (ns.map V.int))) else tabsH K b) (fun b hb => if_neg hb) (.inl (.inr ⟨{ cls := .type "list", data := .seq vs.toArray }, if_pos rfl⟩)) (fun b u z => ?_) fun _ => ⟨hk, _, _, if_pos rfl⟩
    by_cases hb : b = a
    . have z' := (if_pos hb).symm.trans z
      cases z'
      subst hb
      exact ⟨ha, by rw [List.length_map]; exact hl, vs, _, rv, ha⟩
    . exact tabOk _ b u ((if_neg hb).symm.trans z)
abbrev KOf {K : PySem.W.Frag} {h : Heap} (_ : K.In h) : PySem.W.Frag := K
end L2
/- THE LAST THEOREM (shape; LID, My.* are yours):
   My.Adr: a structure of the addresses that your layer names (classes, functions); My.Txt K t: a structure (Prop) of the equations over K;
   My.txt_mk : {K} {implicit addresses ..} (e1 : nsIn K mainGlobals "law" = some (some (.ref f))) (e2 : K.lookup f = some ⟨oc, od, .func (fnOf "law" "law" params body scope dV kV doc pm an cdv ct), sl⟩) (e3 : codeIn K cdv "law" = true) .. : ∃ t, My.Txt K t
set_option maxRecDepth 100000 in
set_option maxHeartbeats 0 in
theorem PySem.Challenge.cw_LID_holds : PySem.Challenge.rw_LID.Holds := by
  w_on; o_law; k_head; (case hw => w_witness2)
  k_fill
  refine L2.walk_of (l := PySem.Challenge.rw_LID) (n := 63) (k := 40) (x := "script") (CX := fun w => ..) (sp := fun _ => My.sp_law) rfl (by decide) rfl ⟨rfl, by decide, by decide⟩ (fun w h Y => PySem.W.kIn_of Y) ?F ?S ?C
  case F =>
    intro w mg fa h KX G hmg
    have T : ∃ t, My.Txt (L2.KOf KX) t := by
      dsimp only [L2.KOf]                          -- K must stand as «<heap const> w.params» for k_is
      refine' My.txt_mk ?e1 ?e2 ?e3 ..
      (case e1 => PySem.W.k_is)                    -- in the order: a name -> its address -> its object -> its parts
      (case e2 => PySem.W.k_is)
      ..
    obtain ⟨t, T⟩ := T
    have e0 := hmg.symm.trans (PySem.W.mg_of KX G T.law)
    cases e0                                       -- fa is the law's own address
    exact ⟨_, fun s u => .of_eq rfl, fun base kb nb => My.law_fn T kb nb⟩     -- if «.of_eq rfl» comes too early: refine' ⟨_, ?b, fun base kb nb => My.law_fn T kb nb⟩; exact fun s u => .of_eq rfl
  case S => exact fun w H a ns hl hO hS => ..
  case C => exact ..
(the tactic k_is has no namespace: write k_is) -/
namespace L2
open PySem PySem.Spec PyProof.Rows
def inClass (s : Stmt) (j : Nat) : Stmt := match s with
  | .ClassDef _ _ _ body _ _ _ _ _ _ _ => body.getD j (.Pass ⟨0, 0, 0, 0⟩)
  | _ => .Pass ⟨0, 0, 0, 0⟩
def defArgs (s : Stmt) : Arguments := match s with
  | .FunctionDef _ a _ _ _ _ _ _ _ _ => a
  | _ => { posonlyargs := [], args := [], vararg := none, kwonlyargs := [], kw_defaults := [], kwarg := none, defaults := [] }
def defBody (s : Stmt) : List Stmt := match s with
  | .FunctionDef _ _ b _ _ _ _ _ _ _ => b
  | _ => []
def defScope (s : Stmt) : Scope := match s with
  | .FunctionDef _ _ _ _ _ _ sc _ _ _ => sc
  | _ => { kind := .function, names := [], isGenerator := false, isCoroutine := false }
abbrev CX0 : CXT := fun _ _ _ _ _ _ => False
abbrev E0 : XK := fun _ _ _ => False
theorem pass0 {X : Cx} : Passes CX0 X E0 := fun _ _ _ _ _ _ _ h => h.elim
structure Fun (K : PySem.W.Frag) (x qual : Str) (st : Stmt) (f : Addr) (fd : FuncData) : Prop where
  ex : ∃ (oc : Value) (od : Option Addr) (kV doc pm : Value) (an : Option Addr) (cdv ct : Value) (osl : Array (Option Value)),
    fd = PySem.W.fnOf x qual (defArgs st) (defBody st) (defScope st) .none kV doc pm an cdv ct /\ K.lookup f = some ⟨oc, od, .func fd, osl⟩ /\ PySem.W.codeIn K cdv qual = true
  kp : PySem.W.keepIn K (.ref f) = true
section
variable {P : Program} {w : World} {K : PySem.W.Frag} {mg : Str -> Option Value} {base : Heap}
theorem Fun.ok {x qual : Str} {st : Stmt} {f : Addr} {fd : FuncData} {N ps : List Str} {k : Nat} {sp : Sp} (F : Fun K x qual st f fd) (S : FnScope N ps (defScope st)) (len : ∀ vs H Q E, sp vs H Q E -> vs.length = ps.length)
    (hbody : ∀ (cdv : Value) (A : Around) (outer : List Env) (s : Shared) (H : Hp) (vs : List V) (Q : VK) (E : XK), Room k (A.deeper (envOfC qual (defScope st) s.heap.objs.size f cdv)) -> sp vs H Q E ->
      ∃ t, PSs (cxOf CX0 P w K mg base N qual (defScope st) f cdv A outer s H E).nox (defBody st) t /\ t { nx := fun _ H' => Q .non H', rt := Q } (start N vs) H) : FnOk P w K mg base CX0 (k + 1) f fd ps sp := by
  obtain ⟨oc, od, kV, doc, pm, an, cdv, ct, osl, rfl, lk, hcd⟩ := F.ex
  refine fn_of lk hcd S len fun A outer s H vs Q E hr hsp => ?_
  obtain ⟨t, h, q⟩ := hbody cdv A outer s H vs Q E hr hsp
  exact ⟨t, h.nox, q⟩
theorem Fun.binds {x qual : Str} {st : Stmt} {f : Addr} {fd : FuncData} {ps : List Str} (F : Fun K x qual st f fd)
    (h : ∀ (kV doc pm : Value) (an : Option Addr) (cdv ct : Value) (us : List Value), us.length = ps.length -> bindArgs (PySem.W.fnOf x qual (defArgs st) (defBody st) (defScope st) .none kV doc pm an cdv ct) ⟨us, []⟩ = pure (ps.zip us)) : Binds K fd ps [] := by
  obtain ⟨oc, od, kV, doc, pm, an, cdv, ct, osl, rfl, lk, hcd⟩ := F.ex
  exact .all (h kV doc pm an cdv ct)
theorem fun_mk {x qual : Str} {st : Stmt} {f : Addr} {oc : Value} {od an : Option Addr} {osl : Array (Option Value)} {kV doc pm cdv ct : Value} (l : K.lookup f = some ⟨oc, od, .func (PySem.W.fnOf x qual (defArgs st) (defBody st) (defScope st) .none kV doc pm an cdv ct), osl⟩)
    (c : PySem.W.codeIn K cdv qual = true) (k : PySem.W.keepIn K (.ref f) = true) : Fun K x qual st f (PySem.W.fnOf x qual (defArgs st) (defBody st) (defScope st) .none kV doc pm an cdv ct) := ⟨⟨oc, od, kV, doc, pm, an, cdv, ct, osl, rfl, l, c⟩, k⟩
end
theorem small1000 {n : Nat} (h : n <= 1000) : n < sizeLine := Nat.lt_of_le_of_lt h (by decide)
section
variable {X : Cx}
theorem pv (i : Nat) {x : Str} {pos : Pos} (hN : X.N[i]? = some x := by rfl) (hv : Vis X.env.scope x := by first | exact Or.inl rfl | exact Or.inr (Or.inl rfl) | exact Or.inr (Or.inr rfl)) (hd : (x == ("__debug__" : Str)) = false := by decide)
    (hcd : (x == ("__classdict__" : Str)) = false := by decide) : PE X (.Name x pos) (tVar i) := pe_var hN hv hd hcd
end
theorem iteF {A B : Prop} (h : B) : if false = true then A else B := by
  rw [if_neg Bool.false_ne_true]
  exact h
theorem iteT {A B : Prop} (h : A) : if true = true then A else B := by
  rw [if_pos rfl]
  exact h
def Nx (x : Option HO) : HO -> Prop
  | .tbl t => ∃ ps, x = some (.tbl ⟨t.q, ps⟩)
  | o => x = some o
def Same (H H' : Hp) : Prop := ∀ b o, H b = some o -> Nx (H' b) o
theorem Nx.of {x : Option HO} {o : HO} (h : x = some o) : Nx x o := by
  cases o <;> first | exact h | exact ⟨_, h⟩
theorem Nx.some {x : Option HO} {o : HO} (h : Nx x o) : ∃ u, x = some u := by
  cases o <;> first | exact ⟨_, h⟩ | (obtain ⟨ps, h⟩ := h; exact ⟨_, h⟩)
theorem same_mk {H H' : Hp} (h : ∀ b o, H b = some o -> H' b = some o) : Same H H' := fun b o e => .of (h b o e)
theorem Same.refl (H : Hp) : Same H H := same_mk fun _ _ h => h
theorem Same.trans {H H1 H2 : Hp} (a : Same H H1) (b : Same H1 H2) : Same H H2 := fun c o h => by
  have q := a c o h
  cases o <;> first | exact b c _ q | (obtain ⟨ps, q⟩ := q; have z := b c _ q; exact z)
theorem Same.free {H H' : Hp} (e : Same H H') {l : Addr} (h : H' l = Option.none) : H l = Option.none := by
  cases q : H l with
  | none => rfl
  | some o =>
    obtain ⟨u, z⟩ := (e l o q).some
    rw [z] at h
    cases h
theorem Same.seq {K : PySem.W.Frag} {H H' : Hp} {a : Addr} {xs : List V} (e : Same H H') (h : SqL K H a xs) : SqL K H' a xs := by
  rcases h with (h | ⟨o, h⟩) | h
  . exact .inl (.inl (e _ _ h))
  . exact .inl (.inr ⟨o, e _ _ h⟩)
  . exact .inr h
def gI (σ : St) (i : Nat) : Int := match σ[i]? with
  | some (some (.int n)) => n
  | _ => 0
def hI (σ : St) (i : Nat) : Prop := σ[i]? = some (some (.int (gI σ i)))
def tN (C : St -> Hp -> Prop) (g : St -> Int) : TE := fun σ H Q => C σ H /\ Q (.int (g σ)) H
def tP (C : St -> Hp -> Prop) (p : St -> Prop) [∀ σ, Decidable (p σ)] : TT := fun σ H Q => C σ H /\ Q (decide (p σ)) H
def tV (C : St -> Hp -> Prop) (p : St -> Prop) [∀ σ, Decidable (p σ)] : TE := fun σ H Q => C σ H /\ Q (.bl (decide (p σ))) H
def tNs (C : St -> Hp -> Prop) (g : St -> List Int) : TA := fun σ H Q => C σ H /\ Q ((g σ).map V.int) H
section
variable {X : Cx} {a b : Expr} {pos : Pos} {Ca Cb : St -> Hp -> Prop} {ga gb : St -> Int}
theorem pn_var (i : Nat) {x : Str} (hN : X.N[i]? = some x := by rfl) (hv : Vis X.env.scope x := by first | exact Or.inl rfl | exact Or.inr (Or.inl rfl) | exact Or.inr (Or.inr rfl))
    (hd : (x == ("__debug__" : Str)) = false := by decide) (hcd : (x == ("__classdict__" : Str)) = false := by decide) : PE X (.Name x pos) (tN (fun σ _ => hI σ i) (fun σ => gI σ i)) :=
  fun pins s σ H Q I h => pe_var hN hv hd hcd pins s σ H Q I ⟨_, h.1, h.2⟩
theorem pn_int {i : Int} {j : Nat} : PE X (.Constant (.int i) j pos) (tN (fun _ _ => True) (fun _ => i)) := fun pins s σ H Q I h => pe_int pins s σ H Q I h.2
theorem pn_glob {x : Str} {i : Int} (hg : Gl X x) (hm : ∃ tk, X.mg x = some (.int i tk)) (hd : (x == ("__debug__" : Str)) = false := by decide) : PE X (.Name x pos) (tN (fun _ _ => True) (fun _ => i)) :=
  fun pins s σ H Q I h => let ⟨_, hm⟩ := hm; pe_glob hg hm (v := .int i) ⟨_, rfl⟩ hd pins s σ H Q I h.2
theorem pn_op {op : Operator} {C : Int -> Int -> Prop} {g : Int -> Int -> Int} (ho : OpR X (binaryOp op) (rI C fun i j => .int (g i j))) (ha : PE X a (tN Ca ga)) (hb : PE X b (tN Cb gb)) :
    PE X (.BinOp a op b pos) (tN (fun σ H => Ca σ H /\ Cb σ H /\ C (ga σ) (gb σ)) (fun σ => g (ga σ) (gb σ))) :=
  fun pins s σ H Q I h => pe_op ho ha hb pins s σ H Q I ⟨h.1.1, h.1.2.1, _, _, rfl, rfl, h.1.2.2, h.2⟩
theorem pn_op0 {op : Operator} {g : Int -> Int -> Int} (ho : OpR X (binaryOp op) (rI0 fun i j => .int (g i j))) (ha : PE X a (tN Ca ga)) (hb : PE X b (tN Cb gb)) :
    PE X (.BinOp a op b pos) (tN (fun σ H => Ca σ H /\ Cb σ H) (fun σ => g (ga σ) (gb σ))) :=
  fun pins s σ H Q I h => pe_op ho ha hb pins s σ H Q I ⟨h.1.1, h.1.2, _, _, rfl, rfl, h.2⟩
theorem op_mulB : OpR X (binaryOp .Mult) (rI IntMulOk fun i j => .int (i * j)) := opI fun _ _ _ _ _ _ _ hc q => mul_int q hc
theorem iop_mulB : OpR X (inplaceOp .Mult) (rI IntMulOk fun i j => .int (i * j)) := opI fun _ _ _ _ _ _ _ hc q => imul_int q hc
def CDivB (_ j : Int) : Prop := 0 < j /\ j.natAbs.log2 < 9000
theorem op_fdivB : OpR X (binaryOp .FloorDiv) (rI CDivB fun i j => .int (i / j)) := opI fun i j _ _ _ _ _ hc q => by
  have h1 : (0 : Int) < j := hc.1
  exact floordiv_int (by omega) (by rw [Int.fdiv_eq_ediv_of_nonneg i (by omega)]; exact q) (.inl (PyProof.noPylong_of_log2 hc.2))
theorem pn_add (ha : PE X a (tN Ca ga)) (hb : PE X b (tN Cb gb)) : PE X (.BinOp a .Add b pos) (tN (fun σ H => Ca σ H /\ Cb σ H) (fun σ => ga σ + gb σ)) := pn_op0 op_add ha hb
theorem pn_mul (ha : PE X a (tN Ca ga)) (hb : PE X b (tN Cb gb)) : PE X (.BinOp a .Mult b pos) (tN (fun σ H => Ca σ H /\ Cb σ H /\ IntMulOk (ga σ) (gb σ)) (fun σ => ga σ * gb σ)) := pn_op op_mulB ha hb
theorem pn_mod (ha : PE X a (tN Ca ga)) (hb : PE X b (tN Cb gb)) : PE X (.BinOp a .Mod b pos) (tN (fun σ H => Ca σ H /\ Cb σ H /\ 0 < gb σ) (fun σ => ga σ % gb σ)) := pn_op op_mod ha hb
theorem pn_neg (ha : PE X a (tN Ca ga)) : PE X (.UnaryOp .USub a pos) (tN Ca (fun σ => -ga σ)) :=
  fun pins s σ H Q I h => pe_un un_neg ha pins s σ H Q I ⟨h.1, _, rfl, h.2⟩
theorem pt_cmpN {op : CmpOp} {p : Int -> Int -> Prop} [∀ i j, Decidable (p i j)] (ho : OpR X (compareOp op) (rI0 fun i j => .bl (decide (p i j)))) (hm : behindInMarks op b = false) (ha : PE X a (tN Ca ga)) (hb : PE X b (tN Cb gb)) :
    PT X (.Compare a [op] [b] pos) (tP (fun σ H => Ca σ H /\ Cb σ H) (fun σ => p (ga σ) (gb σ))) :=
  fun pins s σ H Q I h => pt_cmpR ho ha hb hm pins s σ H Q I ⟨h.1.1, h.1.2, _, _, rfl, rfl, _, rfl, h.2⟩
theorem op_eqI : OpR X (compareOp .Eq) (rI0 fun i j => .bl (decide (i = j))) := fun pins s σ H x y v u Q I rx ry h => by
  obtain ⟨i, j, rfl, rfl, q⟩ := h
  have q : Q (.bl (decide (i = j))) H := q
  refine op_eq pins s σ H _ _ v u Q I rx ry ⟨rfl, ?_⟩
  rw [dec_int, Bool.beq_eq_decide_eq]
  exact q
theorem op_neI : OpR X (compareOp .NotEq) (rI0 fun i j => .bl (decide (¬ i = j))) := fun pins s σ H x y v u Q I rx ry h => by
  obtain ⟨i, j, rfl, rfl, q⟩ := h
  have q : Q (.bl (decide (¬ i = j))) H := q
  rw [decide_not] at q
  refine op_ne pins s σ H _ _ v u Q I rx ry ⟨rfl, ?_⟩
  rw [dec_int, Bool.beq_eq_decide_eq]
  exact q
theorem ptn_lt (ha : PE X a (tN Ca ga)) (hb : PE X b (tN Cb gb)) : PT X (.Compare a [.Lt] [b] pos) (tP (fun σ H => Ca σ H /\ Cb σ H) (fun σ => ga σ < gb σ)) := pt_cmpN op_lt (nomark _) ha hb
theorem ptn_le (ha : PE X a (tN Ca ga)) (hb : PE X b (tN Cb gb)) : PT X (.Compare a [.LtE] [b] pos) (tP (fun σ H => Ca σ H /\ Cb σ H) (fun σ => ga σ <= gb σ)) := pt_cmpN op_le (nomark _) ha hb
theorem ptn_gt (ha : PE X a (tN Ca ga)) (hb : PE X b (tN Cb gb)) : PT X (.Compare a [.Gt] [b] pos) (tP (fun σ H => Ca σ H /\ Cb σ H) (fun σ => gb σ < ga σ)) := pt_cmpN (p := fun i j => j < i) op_gt (nomark _) ha hb
theorem ptn_eq (ha : PE X a (tN Ca ga)) (hb : PE X b (tN Cb gb)) : PT X (.Compare a [.Eq] [b] pos) (tP (fun σ H => Ca σ H /\ Cb σ H) (fun σ => ga σ = gb σ)) := pt_cmpN op_eqI (nomark _) ha hb
variable {pa pb : St -> Prop} [∀ σ, Decidable (pa σ)] [∀ σ, Decidable (pb σ)] {rest : List Expr}
theorem pt_notP (ha : PT X a (tP Ca pa)) : PT X (.UnaryOp .Not a pos) (tP Ca (fun σ => ¬ pa σ)) :=
  fun pins s σ H Q I h => pt_not ha pins s σ H Q I ⟨h.1, by have q := h.2; rw [decide_not] at q; exact q⟩
theorem pw_or1P (ha : PT X a (tP Ca pa)) : PW X (.BoolOp .Or [a] pos) (tP Ca pa) := pw_or1 ha
theorem pw_orP (ha : PT X a (tP Ca pa)) (hb : PW X (.BoolOp .Or (b :: rest) pos) (tP Cb pb)) : PW X (.BoolOp .Or (a :: b :: rest) pos) (tP (fun σ H => Ca σ H /\ (¬ pa σ -> Cb σ H)) (fun σ => pa σ \/ pb σ)) :=
  fun wh pins s σ H Q I h => pw_or ha hb wh pins s σ H Q I ⟨h.1.1, by
    have q := h.2
    by_cases c : pa σ
    . rw [decide_eq_true (Or.inl c : pa σ \/ pb σ)] at q
      rw [decide_eq_true c]; refine iteT ?_; exact q
    . rw [decide_eq_false c]; refine iteF ?_
      refine ⟨h.1.2 c, ?_⟩
      have e : decide (pa σ \/ pb σ) = decide (pb σ) := by simp [c]
      rw [e] at q; exact q⟩
theorem pt_V {e : Expr} (h : PE X e (tV Ca pa)) (he : ∀ whole, isTrue e X.env whole = (do let v <- whole; standAt e.pos; holding [v] (truthy v)) := by intro _; rfl) : PT X e (tP Ca pa) :=
  fun pins s σ H Q I q => pt_val h he pins s σ H Q I ⟨q.1, _, rfl, q.2⟩
def tIfP (C : St -> Hp -> Prop) (p : St -> Prop) (t u : TS) : TS := fun D σ H => C σ H /\ (p σ -> t D σ H) /\ (¬ p σ -> u D σ H)
theorem ps_ifP {c : Expr} {x y : List Stmt} {t u : TS} (hc : PT X c (tP Ca pa)) (hx : PSs X x t) (hy : PSs X y u) : PS X (.If c x y pos) (tIfP Ca pa t u) :=
  fun pins s σ H D I h => ps_if hc hx hy pins s σ H D I ⟨h.1, by
    by_cases c : pa σ
    . rw [decide_eq_true c]; refine iteT ?_; exact h.2.1 c
    . rw [decide_eq_false c]; refine iteF ?_; exact h.2.2 c⟩
def tSetN (i : Nat) (C : St -> Hp -> Prop) (g : St -> Int) : TS := fun D σ H => C σ H /\ ∀ n, n = g σ -> D.nx (σ.set i (some (.int n))) H
theorem ps_setN {i : Nat} {x : Str} {e : Expr} {pos' : Pos} (hN : X.N.Nodup) (hi : X.N[i]? = some x) (hx : Loc X.env.scope x) (he : PE X e (tN Ca ga)) (hs : swapsWith e (some (.Name x pos')) pos.line X.env = pure false := by rfl)
    (hf : X.fn x = true \/ X.env.scope.names.lookup x = some .local := by first | exact .inl rfl | exact .inr rfl | assumption) : PS X (.Assign [.Name x pos'] e pos) (tSetN i Ca ga) :=
  fun pins s σ H D I h => ps_set hN hi hx he hs hf pins s σ H D I ⟨h.1, h.2 _ rfl⟩
def tAugN (i : Nat) (C : St -> Hp -> Prop) (g : St -> Int) (P : Int -> Int -> Prop) (f : Int -> Int -> Int) : TS := fun D σ H => hI σ i /\ C σ H /\ P (gI σ i) (g σ) /\ ∀ n, n = f (gI σ i) (g σ) -> D.nx (σ.set i (some (.int n))) H
theorem ps_augN {i : Nat} {x : Str} {e : Expr} {op : Operator} {pos' : Pos} {P : Int -> Int -> Prop} {f : Int -> Int -> Int} (hN : X.N.Nodup) (hi : X.N[i]? = some x) (hx : Loc X.env.scope x) (he : PE X e (tN Ca ga)) (ho : OpR X (inplaceOp op) (rI P fun i j => .int (f i j)))
    (hf : X.fn x = true \/ X.env.scope.names.lookup x = some .local := by first | exact .inl rfl | exact .inr rfl | assumption) : PS X (.AugAssign (.Name x pos') op e pos) (tAugN i Ca ga P f) :=
  fun pins s σ H D I h => ps_aug hN hi hx he ho hf pins s σ H D I ⟨_, h.1, h.2.1, _, _, rfl, rfl, h.2.2.1, h.2.2.2 _ rfl⟩
theorem iop_addT : OpR X (inplaceOp .Add) (rI (fun _ _ => True) fun i j => .int (i + j)) := fun pins s σ H x y v u Q I rx ry h => by
  obtain ⟨i, j, e1, e2, _, q⟩ := h
  exact iop_add pins s σ H x y v u Q I rx ry ⟨i, j, e1, e2, q⟩
def tWhileP (C : St -> Hp -> Prop) (p : St -> Prop) (tb : TS) : TS := fun D σ H => ∃ (W : St -> Hp -> Prop) (μ : St -> Hp -> Nat), W σ H /\
  ∀ σ H, W σ H -> C σ H /\ (p σ -> tb { D with nx := fun σ' H' => W σ' H' /\ μ σ' H' < μ σ H, ct := fun σ' H' => W σ' H' /\ μ σ' H' < μ σ H, bk := D.nx } σ H) /\ (¬ p σ -> D.nx σ H)
theorem ps_whileP {c : Expr} {body : List Stmt} {tb : TS} (hp : PassesOwn (model X.prog X.w) X.A X.env X.xe) (hc : PT X c (tP Ca pa)) (hb : PSs X body tb) : PS X (.While c body [] pos) (tWhileP Ca pa tb) :=
  fun pins s σ H D I h => ps_while hp hc hb pins s σ H D I (by
    obtain ⟨W, μ, w0, st⟩ := h
    refine while_by W μ w0 (fun σ H w => ?_) (fun σ H Q Q' m q => ⟨q.1, m _ _ q.2⟩)
    obtain ⟨c1, c2, c3⟩ := st σ H w
    refine ⟨c1, ?_⟩
    by_cases c : pa σ
    . rw [decide_eq_true c]; refine iteT ?_; exact c2 c
    . rw [decide_eq_false c]; refine iteF ?_; exact c3 c)
end
section
variable {X : Cx} {b : Expr} {es : List Expr} {pos p1 : Pos} {Cb C : St -> Hp -> Prop} {gb : St -> Int}
theorem atI_int {ns : List Int} {i : Int} (h0 : 0 <= i) (h1 : i < (ns.length : Int)) : atI (ns.map V.int) i = some (V.int (ns.getD i.toNat 0)) := by
  have e : i = ((i.toNat : Nat) : Int) := by omega
  have l : i.toNat < ns.length := by omega
  have q : atI (ns.map V.int) ((i.toNat : Nat) : Int) = some (V.int (ns.getD i.toNat 0)) := atI_nat (by rw [List.getElem?_map, List.getElem?_eq_getElem l, gQ, List.getElem?_eq_getElem l]; rfl)
  rw [<- e] at q
  exact q
def tItem (K : PySem.W.Frag) (j : Nat) (C : St -> Hp -> Prop) (g : St -> Int) : TE := fun σ H Q => C σ H /\ ∃ (a : Addr) (ns : List Int) (n : Int), σ[j]? = some (some (.ref a)) /\ SqL K H a (ns.map V.int) /\ atI (ns.map V.int) (g σ) = some (.int n) /\ Q (.int n) H
theorem pe_item (j : Nat) {x : Str} {px : Pos} (hb : PE X b (tN C gb)) (hs : PlainIx b) (hN : X.N[j]? = some x := by rfl) (hv : Vis X.env.scope x := by first | exact Or.inl rfl | exact Or.inr (Or.inl rfl) | exact Or.inr (Or.inr rfl))
    (hd : (x == ("__debug__" : Str)) = false := by decide) (hcd : (x == ("__classdict__" : Str)) = false := by decide) : PE X (.Subscript (.Name x px) b pos) (tItem X.K j C gb) := by
  intro pins s σ H Q I h
  obtain ⟨c, a, ns, n, e1, e2, e3, q⟩ := h
  exact pe_ix ix_list (pe_var hN hv hd hcd) hb hs pins s σ H Q I ⟨_, e1, c, a, _, _, _, rfl, rfl, e2, e3, q⟩
theorem pn_item (j : Nat) (a : Addr) (ns : List Int) {x : Str} {px : Pos} (hb : PE X b (tN C gb)) (hs : PlainIx b) (hN : X.N[j]? = some x := by rfl) (hv : Vis X.env.scope x := by first | exact Or.inl rfl | exact Or.inr (Or.inl rfl) | exact Or.inr (Or.inr rfl))
    (hd : (x == ("__debug__" : Str)) = false := by decide) (hcd : (x == ("__classdict__" : Str)) = false := by decide) :
    PE X (.Subscript (.Name x px) b pos) (tN (fun σ H => C σ H /\ σ[j]? = some (some (.ref a)) /\ SqL X.K H a (ns.map V.int) /\ -(ns.length : Int) <= gb σ /\ gb σ < (ns.length : Int)) (fun σ => ns.getD (if 0 <= gb σ then gb σ else gb σ + ns.length).toNat 0)) := by
  intro pins s σ H Q I h
  obtain ⟨⟨c, e1, e2, b1, b2⟩, q⟩ := h
  refine pe_ix ix_list (pe_var hN hv hd hcd) hb hs pins s σ H Q I ⟨_, e1, c, a, _, _, _, rfl, rfl, e2, ?_, q⟩
  show atI (ns.map V.int) (gb σ) = some (V.int (ns.getD (if 0 <= gb σ then gb σ else gb σ + ns.length).toNat 0))
  by_cases c0 : 0 <= gb σ
  . rw [if_pos c0]; exact atI_int c0 b2
  . rw [if_neg c0]
    have q2 := atI_int (ns := ns) (i := gb σ + ns.length) (by omega) (by omega)
    unfold atI ixN at q2 ⊢
    rw [List.length_map] at q2 ⊢
    rw [if_pos (show 0 <= gb σ + (ns.length : Int) by omega), if_pos (show gb σ + (ns.length : Int) < (ns.length : Int) by omega)] at q2
    rw [if_neg c0, if_pos b1]
    exact q2
theorem pn_len (j : Nat) (a : Addr) (xs : List V) {x : Str} {px p : Pos} (hm : X.mg "len" = none) (hN : X.N[j]? = some x := by rfl) (hg : Gl X "len" := by rfl) (hv : Vis X.env.scope x := by first | exact Or.inl rfl | exact Or.inr (Or.inl rfl) | exact Or.inr (Or.inr rfl))
    (hd : (x == ("__debug__" : Str)) = false := by decide) (hcd : (x == ("__classdict__" : Str)) = false := by decide) (he : starEach [.Name x px] X.env = [(false, eval (.Name x px) X.env)] := by rfl) :
    PE X (.Call (.Name "len" p) [.Name x px] [] pos) (tN (fun σ H => σ[j]? = some (some (.ref a)) /\ SqL X.K H a xs) (fun _ => (xs.length : Int))) := by
  intro pins s σ H Q I h
  exact pe_callB call_len_seq hg hm PySem.boot_len (pa_cons (pe_var hN hv hd hcd) pa_nil he) (by decide) (by decide) he rfl pins s σ H Q I ⟨_, h.1.1, a, _, rfl, .inl h.1.2, h.2⟩
end
section
variable {X : Cx} {e : Expr} {es : List Expr} {pos p : Pos} {Ca Cb : St -> Hp -> Prop} {ga : St -> Int} {gs : St -> List Int}
theorem pns_nil : PA X [] (tNs (fun _ _ => True) (fun _ => [])) := fun pos pins s σ H Q I h => pa_nil pos pins s σ H Q I h.2
theorem pns_cons (ha : PE X e (tN Ca ga)) (hr : PA X es (tNs Cb gs)) (hs : starEach (e :: es) X.env = (false, eval e X.env) :: starEach es X.env := by rfl) : PA X (e :: es) (tNs (fun σ H => Ca σ H /\ Cb σ H) (fun σ => ga σ :: gs σ)) :=
  fun pos pins s σ H Q I h => pa_cons ha hr hs pos pins s σ H Q I ⟨h.1.1, h.1.2, h.2⟩
end
def spB (n : Nat) (pre : List Int -> Prop) (F : List Int -> Bool) : Sp := fun vs H Q _ => ∃ ns : List Int, ns.length = n /\ vs = ns.map V.int /\ pre ns /\ Q (.bl (F ns)) H
structure Ok (P : Program) (w : World) (K : PySem.W.Frag) (mg : Str -> Option Value) (base : Heap) (k : Nat) (x : Str) (ps : List Str) (sp : Sp) : Prop where
  ex : ∃ f fd, FnOk P w K mg base CX0 k f fd ps sp /\ Binds K fd ps [] /\ PySem.W.keepIn K (.ref f) = true /\ mg x = some (.ref f)
theorem Ok.imp {P : Program} {w : World} {K : PySem.W.Frag} {mg : Str -> Option Value} {base : Heap} {k : Nat} {x : Str} {ps : List Str} {sp sp' : Sp} (o : Ok P w K mg base k x ps sp) (h : ∀ vs H Q E, sp' vs H Q E -> sp vs H Q E) : Ok P w K mg base k x ps sp' := by
  obtain ⟨f, fd, a, b⟩ := o.ex
  exact ⟨f, fd, a.imp h, b⟩
section
variable {X : Cx} {e : Expr} {es : List Expr} {pos p : Pos} {j k : Nat} {x : Str} {ps : List Str} {sp : Sp} {t : TA}
theorem pe_callO (o : Ok X.prog X.w X.K X.mg X.base j x ps sp) (hr : Room k X.A) (ha : PA X (e :: es) t) (hj : j <= k := by decide) (hg : Gl X x := by rfl) (hdb : (x == ("__debug__" : Str)) = false := by decide)
    (he : starEach (e :: es) X.env = (false, eval e X.env) :: starEach es X.env := by rfl) (hpl : (backTo pos (starEach es X.env)).any (·.1) = false := by rfl) : PE X (.Call (.Name x p) (e :: es) [] pos) (tCall sp [] E0 t) := by
  obtain ⟨f, fd, F, b, kp, m⟩ := o.ex
  exact pe_call (F.mono hj) hr hg m kp b .nil pass0 ha hdb he hpl
variable {C : St -> Hp -> Prop} {g : St -> List Int} {n : Nat} {pre : List Int -> Prop}
theorem pv_call {F : List Int -> Bool} (o : Ok X.prog X.w X.K X.mg X.base j x ps (spB n pre F)) (hr : Room k X.A) (ha : PA X (e :: es) (tNs C g)) (hn : ∀ σ, (g σ).length = n := by intro _; rfl) (hj : j <= k := by decide) (hg : Gl X x := by rfl)
    (hdb : (x == ("__debug__" : Str)) = false := by decide) (he : starEach (e :: es) X.env = (false, eval e X.env) :: starEach es X.env := by rfl) (hpl : (backTo pos (starEach es X.env)).any (·.1) = false := by rfl) :
    PE X (.Call (.Name x p) (e :: es) [] pos) (tV (fun σ H => C σ H /\ pre (g σ)) (fun σ => F (g σ) = true)) :=
  fun pins s σ H Q I h => pe_callO o hr ha hj hg hdb he hpl pins s σ H Q I ⟨h.1.1, g σ, hn σ, by rw [List.append_nil], h.1.2, by have q := h.2; rw [Bool.decide_eq_true] at q; exact q⟩
end
structure Def (K : PySem.W.Frag) (mg : Str -> Option Value) (x : Str) (st : Stmt) (ps : List Str) : Prop where
  ex : ∃ f fd, Fun K x x st f fd /\ Binds K fd ps [] /\ mg x = some (.ref f)
section
variable {P : Program} {w : World} {K : PySem.W.Frag} {mg : Str -> Option Value} {base : Heap}
theorem Def.ok {x : Str} {st : Stmt} {N ps : List Str} {k : Nat} {sp : Sp} (d : Def K mg x st ps) (S : FnScope N ps (defScope st)) (len : ∀ vs H Q E, sp vs H Q E -> vs.length = ps.length)
    (hbody : ∀ (f : Addr) (cdv : Value) (A : Around) (outer : List Env) (s : Shared) (H : Hp) (vs : List V) (Q : VK) (E : XK), Room k (A.deeper (envOfC x (defScope st) s.heap.objs.size f cdv)) -> sp vs H Q E ->
      ∃ t, PSs (cxOf CX0 P w K mg base N x (defScope st) f cdv A outer s H E).nox (defBody st) t /\ t { nx := fun _ H' => Q .non H', rt := Q } (start N vs) H) : Ok P w K mg base (k + 1) x ps sp := by
  obtain ⟨f, fd, F, b, m⟩ := d.ex
  exact ⟨f, fd, F.ok S len fun cdv A outer s H vs Q E hr h => hbody f cdv A outer s H vs Q E hr h, b, F.kp, m⟩
theorem Def.mk' {x : Str} {st : Stmt} {ps : List Str} {f : Addr} {fd : FuncData} (F : Fun K x x st f fd) (b : Binds K fd ps []) (m : mg x = some (.ref f)) : Def K mg x st ps := ⟨f, fd, F, b, m⟩
end
theorem bt_int : bootBuiltins "int" = some (.type "int") := by decide +kernel
theorem bt_bool : bootBuiltins "bool" = some (.type "bool") := by decide +kernel
theorem bt_list : bootBuiltins "list" = some (.type "list") := by decide +kernel
theorem bt_tuple : bootBuiltins "tuple" = some (.type "tuple") := by decide +kernel
theorem bt_len : bootBuiltins "len" = some (.builtin "len") := by decide +kernel
theorem bt_isinstance : bootBuiltins "isinstance" = some (.builtin "isinstance") := by decide +kernel
theorem bt_min : bootBuiltins "min" = some (.builtin "min") := by decide +kernel
theorem bt_max : bootBuiltins "max" = some (.builtin "max") := by decide +kernel
def clsV : V -> Option Value
  | .ty n => some (.type n)
  | .ref a => some (.ref a)
  | _ => none
theorem clsV_rel {c : V} {u cv : Value} (h : clsV c = some cv) (r : RelV c u) : u = cv := by
  cases c with
  | ty n => cases h; exact r
  | ref a => cases h; exact r
  | non => cases h
  | bl _ => cases h
  | int _ => cases h
  | str _ => cases h
  | byt _ => cases h
  | flt _ => cases h
section
variable {X : Cx}
theorem call_isinst : CallR X (.builtin "isinstance") (fun xs H Q => ∃ x c t cv b, xs = [x, c] /\ clsV c = some cv /\ TyOf X.K H x t /\ PySem.W.kitOne X.K t cv = some b /\ Q (.bl b) H) := by
  intro pins s σ H xs us Q I r h
  obtain ⟨x, c, t, cv, b, rfl, hc, ty, e, q⟩ := h
  obtain ⟨u, w', rfl, r1, r2⟩ := vals2 r
  obtain rfl := clsV_rel hc r2
  exact isinst_ok I r1 ty e fun tk => ⟨.bl b, H, I.tok tk, rfl, q⟩
end
theorem len1 {ns : List Int} (h : ns.length = 1) : ∃ a, ns = [a] := match ns, h with | [a], _ => ⟨a, rfl⟩
theorem len2 {ns : List Int} (h : ns.length = 2) : ∃ a b, ns = [a, b] := match ns, h with | [a, b], _ => ⟨a, b, rfl⟩
theorem same_new {H : Hp} {p : Addr} (h : H p = none) (o : HO) : Same H (upd H p o) := same_mk fun b u q => by rw [upd_ne (ne_of_none q h)]; exact q
theorem bits_le {k : Int} {n : Nat} (h : k.natAbs < 2 ^ n) : Builtin.Int.intBits k <= n := by
  unfold Builtin.Int.intBits
  split
  . exact Nat.zero_le _
  . have hk : k.natAbs ≠ 0 := by
      rename_i c
      intro z
      apply c
      first | exact z | (have : k = 0 := by omega
                         simp [this]) | omega
    have := (Nat.log2_lt hk).mpr h
    omega
theorem mul_ok {a b : Int} {n m : Nat} (ha : a.natAbs < 2 ^ n) (hb : b.natAbs < 2 ^ m) (hn : n <= 1048576 := by decide) (hm : m <= 1048576 := by decide) : IntMulOk a b :=
  .of_bits (Nat.le_trans (bits_le ha) (Nat.le_trans hn (by decide))) (Nat.le_trans (bits_le hb) (Nat.le_trans hm (by decide)))
theorem mul_okR {a b : Int} (h : -(2 ^ 64) < b /\ b < 2 ^ 64) : IntMulOk a b := .of_right (intBits_le_64 h.1 h.2)
theorem mul_okL {a b : Int} (h : -(2 ^ 64) < a /\ a < 2 ^ 64) : IntMulOk a b := .of_left (intBits_le_64 h.1 h.2)
abbrev NoX : Value -> Shared -> Prop := fun _ _ => False
def testsTree (cs : List Expr) (ev : Env) : Sem Bool := forIn cs true fun c r => if r = true then do let ok <- isTrue c ev (eval c ev); pure (ForInStep.yield ok) else pure (ForInStep.yield r)
section
variable {P : Program} {w : World} {A : Around} {R : Result -> Shared -> Prop} {s : Shared}
theorem comp_loop {el tg src : Expr} {cs : List Expr} {sc : Scope} {at' : Pos} {it acc : Value} {ev : Env} (I : Nat -> Shared -> Prop)
    (turn : ∀ n s, I n s -> wpAny (model P w) A (pyNext it) (fun r s1 => (r = none /\ R (.ok .next) s1) \/ ∃ v, r = some v /\
      wpAny (model P w) A (letOwnedTupleGo tg it v) (fun _ s2 => wpAny (model P w) A (assign tg ev v) (fun _ s3 => wpAny (model P w) A (testsTree cs ev) (fun ok s4 =>
        if ok = true then wpAny (model P w) A (eval el ev) (fun x s5 => wpAny (model P w) A (call (.builtin "list.append") [acc, x]) (fun _ s6 => ∃ m, m < n /\ I m s6) NoX s5) NoX s4
        else ∃ m, m < n /\ I m s4) NoX s3) NoX s2) NoX s1) NoX s)
    (n : Nat) (h : I n s) : codeAny (model P w) A (.compLoop (.ListComp el [⟨tg, src, cs, 0⟩] sc at') 0 it acc ev) R s := by
  refine codeAny_loop rfl I (fun n s hI => ?_) n h
  show wpAny _ A ((compTurn (.ListComp el [⟨tg, src, cs, 0⟩] sc at') 0 it acc ev).onRaise (fun z => do noteFrame z ev; theTreesLotGoes z)) _ _ s
  refine wpAny_noted (wpAny_noRaise ?_)
  rw [compTurn_list]
  refine wpAny_bind (wpAny_standAt (wpAny_bind (thn (turn n s hI) fun r s1 h1 => ?_)))
  rcases h1 with ⟨rfl, h1⟩ | ⟨v, rfl, h1⟩
  . exact wpAny_pure h1
  . refine wpAny_bind (thn h1 fun _ s2 h2 => wpAny_bind (thn h2 fun _ s3 h3 => wpAny_bind (thn h3 fun ok s4 h4 => ?_)))
    cases ok with
    | false => exact wpAny_pure ⟨rfl, h4⟩
    | true => exact wpAny_bind (wpAny_bind (thn h4 fun x s5 h5 => wpAny_bind (thn h5 fun _ s6 h6 => wpAny_pure (wpAny_pure ⟨rfl, h6⟩))))
end
def CapOk (X : Cx) (sc : Scope) (cl : List (Str × Addr)) : List Str -> List (Option Nat) -> Prop
  | [], [] => True
  | _ :: xs, none :: cs => CapOk X sc cl xs cs
  | x :: xs, some i :: cs => (X.N[i]? = some x /\ Vis X.env.scope x /\ X.env.kindOf x ≠ some .local /\ ((relabel sc X.env).names.lookup x = some .cell \/ (relabel sc X.env).names.lookup x = some .free) /\ ∃ c, cl.lookup x = some c /\ X.env.cells.lookup x = some c) /\ CapOk X sc cl xs cs
  | _, _ => False
def SubC (ev : Env) : List (Str × Addr) -> Prop
  | [] => True
  | (x, c) :: r => ev.cells.lookup x = some c /\ SubC ev r
theorem SubC.look {ev : Env} : ∀ {cl : List (Str × Addr)}, SubC ev cl -> ∀ {x : Str} {c : Addr}, cl.lookup x = some c -> ev.cells.lookup x = some c
  | [], _, x, c, h => by simp at h
  | (y, d) :: r, q, x, c, h => by
    rw [List.lookup_cons] at h
    cases e : x == y with
    | true =>
      rw [e] at h
      have e' : x = y := by simpa using e
      subst e'
      cases h
      exact q.1
    | false => rw [e] at h; exact SubC.look q.2 h
def capS (cap : List (Option Nat)) (σ : St) : St := cap.map fun o => match o with
  | some i => (σ[i]?).join
  | none => none
def cxComp (X : Cx) (N' : List Str) (sc : Scope) (cl : List (Str × Addr)) (s : Shared) (H : Hp) (fp : List Addr) : Cx :=
  { X with N := N', s₀ := s, H₀ := H, env := compEnvC sc cl s.heap.objs.size X.env, outer := X.stack, ex := fp, fn := fun _ => false, pn := [], xe := NoX }
section
variable {X : Cx} {pins : List (Addr × Obj)} {σ : St} {H : Hp} {s : Shared} {N' : List Str} {sc : Scope} {cl : List (Str × Addr)} {cap : List (Option Nat)} {fp : List Addr}
theorem CapOk.length {X : Cx} {sc : Scope} {cl : List (Str × Addr)} : ∀ {N' : List Str} {cap : List (Option Nat)}, CapOk X sc cl N' cap -> cap.length = N'.length
  | [], [], _ => rfl
  | _ :: xs, none :: cs, h => by
    have := CapOk.length (X := X) (sc := sc) (cl := cl) (N' := xs) (cap := cs) h
    simp [this]
  | _ :: xs, some i :: cs, h => by
    have := CapOk.length (X := X) (sc := sc) (cl := cl) (N' := xs) (cap := cs) h.2
    simp [this]
  | [], _ :: _, h => h.elim
  | _ :: _, [], h => h.elim
theorem CapOk.at {X : Cx} {sc : Scope} {cl : List (Str × Addr)} {i : Nat} {x : Str} : ∀ {N' : List Str} {cap : List (Option Nat)} {j : Nat}, CapOk X sc cl N' cap -> N'[j]? = some x -> cap[j]? = some (some i) ->
    X.N[i]? = some x /\ Vis X.env.scope x /\ X.env.kindOf x ≠ some .local /\ ((relabel sc X.env).names.lookup x = some .cell \/ (relabel sc X.env).names.lookup x = some .free) /\ ∃ c, cl.lookup x = some c /\ X.env.cells.lookup x = some c
  | [], [], j, _, h, _ => by simp at h
  | _ :: xs, none :: cs, 0, _, _, h => by simp at h
  | _ :: xs, none :: cs, j + 1, q, h1, h2 => CapOk.at (N' := xs) (cap := cs) (j := j) q (by simpa using h1) (by simpa using h2)
  | y :: xs, some k :: cs, 0, q, h1, h2 => by
    have e1 : y = x := by simpa using h1
    have e2 : k = i := by simpa using h2
    subst e1 e2
    exact q.1
  | _ :: xs, some _ :: cs, j + 1, q, h1, h2 => CapOk.at (N' := xs) (cap := cs) (j := j) q.2 (by simpa using h1) (by simpa using h2)
  | [], _ :: _, _, h, _, _ => h.elim
  | _ :: _, [], _, h, _, _ => h.elim
theorem Inv.block (I : Inv X pins σ H s) (hk : sc.kind = .function) (hcap : CapOk X sc cl N' cap) (sub : SubC X.env cl)
    (has : ∀ x, ((relabel sc X.env).names.lookup x = some .cell \/ (relabel sc X.env).names.lookup x = some .free) -> ∃ c, cl.lookup x = some c)
    (hf : ∀ b ∈ fp, FpOk X pins H b) (hfo : ∀ b ∈ fp, ∃ o, s.heap.get? b = some o) {h' : Heap} {m : Str -> Option Value} {o : Obj} {tk : Nat} (hns : h'.Ns s.heap.objs.size m) (hsb : Heap.SameBut s.heap.objs.size (s.heap.push o) h') :
    Inv (cxComp X N' sc cl s H fp) [] (capS cap σ) H { s with heap := h', toks := tk } := by
  have keep : ∀ b u, s.heap.get? b = some u -> h'.get? b = some u := fun b u e =>
    (hsb.2 b (Nat.ne_of_lt (Heap.lt_size e))).trans (Heap.get?_push_of_some _ e)
  refine ⟨⟨I.ok.mod, hk, I.ok.glob, I.ok.blt, Nat.le_refl _, fun x y c h1 h2 => I.ok.inj x y c (sub.look h1) (sub.look h2), has, (fun x c h _ => nomatch h), I.ok.hd, I.ok.frames, .inl rfl,
    fun b hb => ⟨?_, fun x c e => (hf b hb).2.2.2.2.1 x c (sub.look e)⟩, I.bs, Nat.le_trans I.ok.bsz I.sz, fun b u e hb => ?_, fun b hb hb' => ?_, I.stack, I.env0.frf⟩,
    rfl, I.bare, Un.kept keep, ⟨m, hns, fun j x v h1 h2 h3 => ?_⟩, fun x c e => ?_, I.hok.fresh (Nat.le_refl _), fun x c e => I.freeC x c (sub.look e), fun p hp => absurd (show p ∈ ([] : List (Addr × Obj)) from hp) (by simp), I.hok.kept keep, ?_⟩
  . obtain ⟨u, e⟩ := hfo b hb
    exact Nat.ne_of_lt (Heap.lt_size e)
  . rcases (hf b hb).2.2.2.1 with z | z
    . exact I.ok.noex b u e z
    . exact absurd (Nat.lt_of_lt_of_le (Heap.lt_size e) (Nat.le_trans I.ok.bsz z)) (Nat.lt_irrefl _)
  . rcases List.mem_cons.mp (I.stkSub b hb') with z | z
    . exact (hf b hb).2.1 z
    . exact (hf b hb).2.2.1 z
  . obtain ⟨m0, hn0, hl0⟩ := I.loc
    have h2' : ((cap.map fun o => match o with | some i => (σ[i]?).join | none => none) : St)[j]? = some (some v) := h2
    rw [List.getElem?_map] at h2'
    cases e : cap[j]? with
    | none => rw [e] at h2'; cases h2'
    | some oi =>
      rw [e] at h2'
      cases oi with
      | none => cases h2'
      | some i =>
        have h4 : (σ[i]?).join = some v := Option.some.inj h2'
        have h5 : σ[i]? = some (some v) := by
          cases z : σ[i]? with
          | none => rw [z] at h4; cases h4
          | some y => rw [z] at h4; cases h4; rfl
        obtain ⟨a1, a2, a3, a4, c, a5, a6⟩ := hcap.at h1 e
        obtain ⟨u, r, l⟩ := hl0 i x v a1 h5 a2
        refine ⟨u, r, .inr ⟨a4, c, a5, ?_⟩⟩
        rcases l with ⟨k, _⟩ | ⟨_, c', e', ic⟩
        . exact absurd k a3
        . rw [a6] at e'
          cases e'
          obtain ⟨oc, h7, h8⟩ := ic
          exact ⟨oc, keep _ _ h7, h8⟩
  . obtain ⟨v, oc, h7, h8⟩ := I.cell x c (sub.look e)
    exact ⟨v, oc, keep _ _ h7, h8⟩
  . show (capS cap σ).length = N'.length
    unfold capS
    rw [List.length_map]
    exact hcap.length
theorem Inv.unblock {σ' : St} {H' : Hp} {s' : Shared} {pins' : List (Addr × Obj)} (I : Inv X pins σ H s) (hf : ∀ b ∈ fp, FpOk X pins H b) (J : Inv (cxComp X N' sc cl s H fp) pins' σ' H' s') : Inv X pins σ H' s' :=
  I.call' (ch := fp) J.os J.base J.hok J.bare fun b hb => ⟨(hf b hb).2.2.2.1, (hf b hb).2.1, (hf b hb).2.2.2.2.1, (hf b hb).2.2.2.2.2⟩
end
def ExtS : St -> St -> Prop
  | [], [] => True
  | none :: a, _ :: b => ExtS a b
  | some v :: a, y :: b => y = some v /\ ExtS a b
  | _, _ => False
theorem ExtS.at : ∀ {a b : St}, ExtS a b -> ∀ (i : Nat) (v : V), a[i]? = some (some v) -> b[i]? = some (some v)
  | [], [], _, i, v, h => by simp at h
  | none :: a, _ :: b, q, 0, v, h => by simp at h
  | none :: a, _ :: b, q, i + 1, v, h => by
    have := ExtS.at (a := a) (b := b) q i v (by simpa using h)
    simpa using this
  | some u :: a, y :: b, q, 0, v, h => by
    have e : u = v := by simpa using h
    rw [q.1, e]
    rfl
  | some u :: a, y :: b, q, i + 1, v, h => by
    have := ExtS.at (a := a) (b := b) q.2 i v (by simpa using h)
    simpa using this
  | [], _ :: _, q, _, _, _ => q.elim
  | none :: _, [], q, _, _, _ => q.elim
  | some _ :: _, [], q, _, _, _ => q.elim
def PTs (X : Cx) (cs : List Expr) (t : TT) : Prop :=
  ∀ (pins : List (Addr × Obj)) (s : Shared) (σ : St) (H : Hp) (Q : Bool -> Hp -> Prop), Inv X pins σ H s -> t σ H Q -> wpAny (model X.prog X.w) X.A (testsTree cs X.env) (TP X pins σ Q) X.xe s
theorem pts_nil {X : Cx} : PTs X [] (fun _ H Q => Q true H) := fun _ _ _ H _ I h => wpAny_tests_nil ⟨H, I, h⟩
def lcW (D : Addr) (J : It) (σ : St) (g : TG) (tt : TT) (te : TE) (Q : VK) (W : Nat -> Nat -> List V -> Hp -> Prop) : Prop :=
  ∀ i m ys H, W i m ys H -> H D = some (.lst ys) /\ ys.length < sizeLine /\
    ((J.stop i H /\ Q (.ref D) H) \/ (J.go i H /\ ∀ x H', J.yld i H x H' -> g x σ H' fun σ2 H2 => ExtS σ σ2 /\ tt σ2 H2 fun ok H3 =>
      if ok = true then te σ2 H3 fun y H4 => H4 D = some (.lst ys) /\ ∃ m', m' < m /\ W (i + 1) m' (ys ++ [y]) (upd H4 D (.lst (ys ++ [y])))
      else ∃ m', m' < m /\ W (i + 1) m' ys H3))
def tLC (cap : List (Option Nat)) (wi : TI) (g : TG) (tt : TT) (te : TE) : TE := fun σ H Q => wi σ H fun J H1 => ∀ D, H1 D = none -> ∃ W : Nat -> Nat -> List V -> Hp -> Prop, (∃ m, W 0 m [] (upd H1 D (.lst []))) /\ lcW D J (capS cap σ) g tt te Q W
section
variable {X : Cx} {pins : List (Addr × Obj)} {σ : St} {H : Hp} {s : Shared} {N' : List Str} {sc : Scope} {cl : List (Str × Addr)} {cap : List (Option Nat)} {fp : List Addr}
  {el tg src : Expr} {cs : List Expr} {at' : Pos} {g : TG} {tt : TT} {te : TE} {J : It} {it : Addr} {tn : Nat -> Heap -> Prop} {Q : VK}
structure LcOk (X : Cx) (N' : List Str) (sc : Scope) (cl : List (Str × Addr)) (cap : List (Option Nat)) : Prop where
  kind : sc.kind = .function
  clos : closureFor sc X.env = pure cl
  nocell : ∀ y ∈ sc.names, y.2 ≠ .cell
  names : ∀ y ∈ sc.names, y.2 = .local -> sc.names.lookup y.1 = some .local
  cap : CapOk X sc cl N' cap
  sub : SubC X.env cl
  has : ∀ x, ((relabel sc X.env).names.lookup x = some .cell \/ (relabel sc X.env).names.lookup x = some .free) -> ∃ c, cl.lookup x = some c
theorem lc_ok (kind : sc.kind = .function) (clos : closureFor sc X.env = pure cl) (h1 : (sc.names.all fun y => y.2 != .cell) = true) (h2 : (sc.names.all fun y => y.2 != .local || sc.names.lookup y.1 == some .local) = true)
    (hcap : CapOk X sc cl N' cap) (sub : SubC X.env cl) (h3 : ((relabel sc X.env).names.all fun y => (y.2 != .cell && y.2 != .free) || (cl.lookup y.1).isSome) = true) : LcOk X N' sc cl cap := by
  refine ⟨kind, clos, fun y hy e => ?_, fun y hy e => ?_, hcap, sub, fun x hx => ?_⟩
  . have q := List.all_eq_true.mp h1 y hy
    rw [e] at q
    exact absurd q (by decide)
  . have q := List.all_eq_true.mp h2 y hy
    rw [e] at q
    simpa using q
  . have key : ∀ k, (k = NameKind.cell \/ k = NameKind.free) -> (relabel sc X.env).names.lookup x = some k -> ∃ c, cl.lookup x = some c := fun k hk e => by
      have q := List.all_eq_true.mp h3 _ (PySem.mem_of_lookup e)
      rcases hk with rfl | rfl
      . exact Option.isSome_iff_exists.mp (by simpa using q)
      . exact Option.isSome_iff_exists.mp (by simpa using q)
    rcases hx with e | e
    . exact key _ (.inl rfl) e
    . exact key _ (.inr rfl) e
theorem comp_main (L : LcOk X N' sc cl cap) (hc : X.calm = true) (I : Inv X pins σ H s) (T : Turn X.prog X.w X.K tg J fp it tn) (st : tn 0 s.heap) (hf : ∀ b ∈ fp, FpOk X pins H b)
    (hg : ∀ s H fp, PG (cxComp X N' sc cl s H fp) tg g) (ht : ∀ s H fp, PTs (cxComp X N' sc cl s H fp) cs tt) (he : ∀ s H fp, PE (cxComp X N' sc cl s H fp) el te)
    (rd : ∀ D, H D = none -> ∃ W : Nat -> Nat -> List V -> Hp -> Prop, (∃ m, W 0 m [] (upd H D (.lst []))) /\ lcW D J (capS cap σ) g tt te Q W)
    {Ex : Value -> Shared -> Prop} {RR : Value -> Addr -> Result -> Shared -> Prop} (hR : ∀ D C m H' s', Inv X pins σ H' s' -> s'.heap.Ns C m -> FpOk X pins H' C -> Q (.ref D) H' -> RR (.ref D) C (.ok .next) s') :
    wpAny (model X.prog X.w) X.A (newList []) (fun acc s3 => wpAny (model X.prog X.w) X.A (newFunctionEnv sc X.env.globals cl [] X.env.qual none .none (some X.env)) (fun cv s4 =>
      codeAny (model X.prog X.w) X.A (.compStart (.ListComp el [⟨tg, src, cs, 0⟩] sc at') 0 (.ref it) acc { cv with scope := relabel sc X.env }) (RR acc cv.locals) s4) Ex s3) Ex s := by
  obtain ⟨W, ⟨m0, w0⟩, step⟩ := rd _ I.fresh
  refine wpAny_newObj_type (wpAny_newFunctionEnv L.nocell (by intro y hy; simp at hy) (fun h1 hns hsb => ?_) L.kind)
  have I3 : Inv X pins σ (upd H s.heap.objs.size (.lst [])) { s with heap := s.heap.push { cls := .type "list", dict := none, data := .seq ([] : List Value).toArray } } := I.lnew (its := []) (t' := s.toks) .nil (by show 0 <= sizeLine; decide)
  have hfo : ∀ b ∈ fp, ∃ o, s.heap.get? b = some o := fun b hb => let ⟨o, e, _⟩ := T.obj 0 s.heap st b hb; ⟨o, e⟩
  have hf3 : ∀ b ∈ fp, FpOk X pins (upd H s.heap.objs.size (.lst [])) b := fun b hb => by
    obtain ⟨o, e⟩ := hfo b hb
    exact ⟨by rw [upd_ne (Nat.ne_of_lt (Heap.lt_size e))]; exact (hf b hb).1, (hf b hb).2⟩
  dsimp only at hns hsb ⊢
  generalize hs3 : ({ s with heap := s.heap.push { cls := .type "list", dict := none, data := .seq ([] : List Value).toArray } } : Shared) = s3 at I3 hns hsb ⊢
  have hh3 : s3.heap = s.heap.push { cls := .type "list", dict := none, data := .seq ([] : List Value).toArray } := by rw [<- hs3]
  have hns : h1.Ns s3.heap.objs.size (fun x => List.lookup x ([] : List (Str × Value)).reverse) := by rw [hh3]; exact hns
  have hsb : Heap.SameBut s3.heap.objs.size (s3.heap.push { cls := .type (if (some X.env).isSome = true then "dict" else "frame"), data := .dict #[] }) h1 := by rw [hh3]; exact hsb
  have hk3 : ∀ b o, s.heap.get? b = some o -> s3.heap.get? b = some o := fun b o e => by rw [hh3]; exact Heap.get?_push_of_some _ e
  have J0 := I3.block (N' := N') (cap := cap) (fp := fp) (tk := s3.toks + ([] : List (Str × Value)).length) L.kind L.cap L.sub L.has hf3 (fun b hb => let ⟨o, e⟩ := hfo b hb; ⟨o, hk3 b o e⟩) hns hsb
  have st1 : tn 0 h1 := T.keep 0 s.heap h1 st fun b hb o e => (hsb.2 b (Nat.ne_of_lt (Heap.lt_size (hk3 b o e)))).trans (Heap.get?_push_of_some _ (hk3 b o e))
  have fpx : ∀ {H' : Hp}, (∀ b ∈ fp, H' b = none) -> ∀ b ∈ fp, FpOk (cxComp X N' sc cl s3 (upd H s.heap.objs.size (.lst [])) fp) [] H' b := fun hn b hb => by
    obtain ⟨o, e⟩ := hfo b hb
    refine ⟨hn b hb, Nat.ne_of_lt (Heap.lt_size (hk3 b o e)), fun hb' => ?_, .inl hb, fun x c q => (hf b hb).2.2.2.2.1 x c (L.sub.look q), fun p hp => absurd (show p ∈ ([] : List (Addr × Obj)) from hp) (by simp)⟩
    rcases List.mem_cons.mp (I.stkSub b hb') with z | z
    . exact (hf b hb).2.1 z
    . exact (hf b hb).2.2.1 z
  have loop : ∀ s4 : Shared, s4 = { s3 with heap := h1, toks := s3.toks + ([] : List (Str × Value)).length } ->
      codeAny (model X.prog X.w) X.A (.compLoop (.ListComp el [⟨tg, src, cs, 0⟩] sc at') 0 (.ref it) (.ref s.heap.objs.size) (compEnvC sc cl s3.heap.objs.size X.env)) (RR (.ref s.heap.objs.size) s3.heap.objs.size) s4 := by
    rintro s4 rfl
    refine comp_loop (fun n s' => ∃ i ys H', Inv (cxComp X N' sc cl s3 (upd H s.heap.objs.size (.lst [])) fp) [] (capS cap σ) H' s' /\ tn i s'.heap /\ (∀ b ∈ fp, H' b = none) /\ W i n ys H') ?_ m0 ⟨0, [], _, J0, st1, fun b hb => (hf3 b hb).1, w0⟩
    rintro n s' ⟨i, ys, H', Ji, sti, fri, wi⟩
    obtain ⟨hD, hlen, hgo⟩ := step i n ys H' wi
    rcases hgo with ⟨hstop, hq⟩ | ⟨hgo, hbody⟩
    . refine thn (T.done (cxComp X N' sc cl s3 (upd H s.heap.objs.size (.lst [])) fp) rfl rfl rfl hc i [] s' _ H' NoX Ji (fpx fri) sti hstop) fun r s1 ⟨hr, J1⟩ => .inl ⟨hr, ?_⟩
      obtain ⟨m1, hm1, _⟩ := J1.loc
      exact hR _ _ m1 H' s1 (I3.unblock hf3 J1) hm1 (I3.fpOk (Nat.le_refl _) J1.free) hq
    . refine thn (T.item (cxComp X N' sc cl s3 (upd H s.heap.objs.size (.lst [])) fp) rfl rfl rfl hc i [] s' _ H' NoX Ji (fpx fri) sti hgo) fun r s1 ⟨u, hr, h4⟩ => .inr ⟨u, hr, thn h4 fun _ s5 ⟨x, H5, J5, r5, y5, st5, fr5⟩ => ?_⟩
      have J5' := J5.pinned (fpx fr5) (T.obj _ _ st5)
      refine thn (hg _ _ _ _ s5 _ H5 x u _ J5' r5 (hbody x H5 y5)) fun _ s6 ⟨σ6, H6, J6, ext, q6⟩ => ?_
      have endT : ∀ {ys' : List V} {H7 : Hp} {s7 : Shared} {m' : Nat}, Inv (cxComp X N' sc cl s3 (upd H s.heap.objs.size (.lst [])) fp) ([] ++ pinsAt fp s5.heap) σ6 H7 s7 -> m' < n -> W (i + 1) m' ys' H7 ->
          ∃ m, m < n /\ ∃ i ys H', Inv (cxComp X N' sc cl s3 (upd H s.heap.objs.size (.lst [])) fp) [] (capS cap σ) H' s7 /\ tn i s7.heap /\ (∀ b ∈ fp, H' b = none) /\ W i m ys H' := fun {ys' H7 s7 m'} J7 hm w7 => by
        refine ⟨m', hm, i + 1, ys', H7, (J7.unpinned).weak ?_ fun j v z => ext.at j v z, T.keep _ _ _ st5 fun b hb o e => (J7.pin (b, o) (List.mem_append_right _ (List.mem_append_right _ (mem_pinsAt hb e)))).1, fun b hb => ?_, w7⟩
        . rw [J7.len, Ji.len]
        . obtain ⟨o, e, _⟩ := T.obj _ _ st5 b hb
          exact (J7.pin (b, o) (List.mem_append_right _ (List.mem_append_right _ (mem_pinsAt hb e)))).2.1
      refine thn (ht _ _ _ _ s6 _ H6 _ J6 q6) fun ok s7 ⟨H7, J7, q7⟩ => ?_
      cases ok with
      | false =>
        obtain ⟨m', hm, w7⟩ := q7
        exact endT J7 hm w7
      | true =>
        refine thn (he _ _ _ _ s7 _ H7 _ J7 q7) fun y s8 ⟨yv, H8, J8, r8, hD8, m', hm, w8⟩ => ?_
        exact thn (mt_append _ s8 _ H8 (.ref s.heap.objs.size) [yv] (.ref s.heap.objs.size) [y] (fun v H9 => H9 = upd H8 s.heap.objs.size (.lst (ys ++ [yv]))) J8 rfl (.cons r8 .nil) ⟨_, ys, yv, rfl, rfl, hD8, hlen, rfl⟩) fun _ s9 ⟨_, H9, J9, _, e9⟩ => by
          subst e9
          exact endT J9 hm w8
  subst hs3
  exact codeAny_compStart_list (loop _ rfl) (T.self _ 0 _ _ _ st1 (loop _ rfl))
theorem pe_lc {wi : TI} (L : LcOk X N' sc cl cap) (hc : X.calm = true) (hi : PI X tg src wi) (hg : ∀ s H fp, PG (cxComp X N' sc cl s H fp) tg g) (ht : ∀ s H fp, PTs (cxComp X N' sc cl s H fp) cs tt) (he : ∀ s H fp, PE (cxComp X N' sc cl s H fp) el te)
    (hs : ∀ x, foldedSetIterable src X.env x = pure x := by intro _; rfl) : PE X (.ListComp el [⟨tg, src, cs, 0⟩] sc at') (tLC cap wi g tt te) := by
  intro pins s σ H Q I h
  rw [eval_ListComp]
  refine wpAny_comprehension_free (use := none) rfl hs L.clos L.kind L.names (thn (hi pins s σ H _ I h) fun v s1 h1 => thn h1 fun itv s2 h2 => ?_)
  obtain ⟨it, fp, tn, J, H2, rfl, I2, T, st2, f2, rd⟩ := h2
  refine comp_main L hc I2 T st2 f2 hg ht he rd (RR := fun acc C => compPost (model X.prog X.w) X.A X.xe none (EP X pins σ Q) acc C) fun D C m H' s' J' hn fC q => ?_
  refine ⟨m, hn, fun h' sb => ⟨.ref D, H', J'.turned (t' := s'.toks) (fun b o hb e => (sb.2 b hb).trans e) fC.1 fC.2.1 fC.2.2.2.1 fC.2.2.2.2.1 fC.2.2.2.2.2, rfl, q⟩⟩
theorem ps_lc {wi : TI} {i : Nat} {x : Str} {px spos : Pos} (hN : X.N.Nodup) (hi' : X.N[i]? = some x) (hx : X.env.scope.names.lookup x = some .local) (L : LcOk X N' sc cl cap) (hc : X.calm = true) (hi : PI X tg src wi) (hg : ∀ s H fp, PG (cxComp X N' sc cl s H fp) tg g)
    (ht : ∀ s H fp, PTs (cxComp X N' sc cl s H fp) cs tt) (he : ∀ s H fp, PE (cxComp X N' sc cl s H fp) el te) (hsw : swapsWith (.ListComp el [⟨tg, src, cs, 0⟩] sc at') (some (.Name x px)) spos.line X.env = pure true)
    (hs : ∀ x, foldedSetIterable src X.env x = pure x := by intro _; rfl) : PS X (.Assign [.Name x px] (.ListComp el [⟨tg, src, cs, 0⟩] sc at') spos) (tAsg (tLC cap wi g tt te) (gName i)) := by
  intro pins s σ H D I h
  rw [exec_Assign_Name_used _ _ _ _ hsw]
  refine wpAny_bind (wpAny_standAt (wpAny_bind ?_))
  show wpAny _ X.A (do let _ <- comprehension (.ListComp el [⟨tg, src, cs, 0⟩] sc at') sc X.env _ (newList []) false (eval src X.env) (some (assign (.Name x px) X.env))) _ _ s
  refine wpAny_bind (thn (wpAny_comprehension_free (use := some (assign (.Name x px) X.env)) (Q := fun _ s' => SP X pins D .next s') rfl hs L.clos L.kind L.names (thn (hi pins s σ H _ I h) fun v s1 h1 => thn h1 fun itv s2 h2 => ?_)) fun _ s' q => wpAny_pure (wpAny_pure q))
  obtain ⟨it, fp, tn, J, H2, rfl, I2, T, st2, f2, rd⟩ := h2
  refine comp_main L hc I2 T st2 f2 hg ht he rd (RR := fun acc C => compPost (model X.prog X.w) X.A X.xe (some (assign (.Name x px) X.env)) (fun _ s' => SP X pins D .next s') acc C) fun D' C m H' s' J' hn fC q => ?_
  obtain ⟨oC, es, ep, hoC, hdC, hr⟩ := hn
  have Jp : Inv X (pins ++ [(C, oC)]) σ H' s' := J'.pins_of fun p hp => by
    rcases List.mem_append.mp hp with z | z
    . exact J'.pin p (List.mem_append_right _ z)
    . have e : p = (C, oC) := by simpa using z
      subst e
      exact ⟨hoC, fC.1, fC.2.1, fC.2.2.1, fun v z => by rw [hdC] at z; cases z⟩
  show wpAny _ X.A (assign (.Name x px) X.env (.ref D')) _ _ s'
  refine thn (pg_name (i := i) hN hi' (.inl hx) (.inr hx) _ s' σ H' (.ref D') (.ref D') (fun σ' H'' => D.nx σ' H'') Jp rfl q) fun _ s'' ⟨σ', H'', J2, q2⟩ => ?_
  obtain ⟨p1, p2, p3, p4, p5⟩ := J2.pin (C, oC) (List.mem_append_right _ (List.mem_append_right _ (by simp)))
  refine ⟨m, ⟨oC, es, ep, p1, hdC, hr⟩, fun h' sb => ⟨σ', H'', (J2.pins_of (pins' := pins) fun p hp => J2.pin p (List.mem_append_right _ (List.mem_append_left _ hp))).turned (t' := s''.toks) (fun b o hb e => (sb.2 b hb).trans e) p2 fC.2.1 fC.2.2.2.1 fC.2.2.2.2.1 fC.2.2.2.2.2, q2⟩⟩
end
theorem ObjOk.get {P : Program} {w : World} {H : Hp} {h : Heap} {a : Addr} {o : HO} (x : ObjOk P w H h a o) : ∃ ob, h.get? a = some ob := by
  cases o with
  | lst xs => obtain ⟨_, _, _, _, e⟩ := x; exact ⟨_, e⟩
  | tup xs => obtain ⟨_, _, _, ob, e, _⟩ := x; exact ⟨ob, e⟩
  | dK kvs => obtain ⟨_, _, _, _, o, _, _, e, _⟩ := x; exact ⟨o, e⟩
  | dT kvs => obtain ⟨_, _, _, _, o, _, _, e, _⟩ := x; exact ⟨o, e⟩
  | set S n => obtain ⟨o, _, _, _, e, _⟩ := x; exact ⟨o, e⟩
  | ins C dx fs => obtain ⟨_, _, _, e, _⟩ := x; exact ⟨_, e⟩
  | own y => exact x
  | xd fs => obtain ⟨_, ⟨o, _, _, e, _⟩, _⟩ := x; exact ⟨o, e⟩
  | rng lo hi => obtain ⟨_, _, _, e⟩ := x; exact ⟨_, e⟩
  | frz ob u => obtain ⟨e, _⟩ := x; exact ⟨ob, e⟩
  | tbl ps => exact ⟨_, x.1⟩
  | met f y => exact ⟨_, (show h.get? a = some _ from x)⟩
  | ext φ => obtain ⟨_, e, _⟩ := x; exact e
structure Lft (fr as : List Addr) (h h2 : Heap) (a : Addr) (cls : Value) : Prop where
  keep : ∀ b o, h.get? b = some o -> b ∉ as -> h2.get? b = some o
  slot : ∀ b o, b ∈ fr -> h.get? b = some o -> ∃ sl, h2.get? b = some { o with slots := sl }
  ex : ∃ oe vs T oT ts, h2.get? a = some oe /\ oe.cls = cls /\ oe.dict = none /\ oe.data = .fields vs /\ vs[1]? = some (.ref T) /\ h.get? T = none /\ T ≠ a /\ h2.get? T = some oT /\ oT.data = .fields ts /\ ts[3]? = some .none
theorem dict_mapFields (f : Array Value -> Array Value) (o : Obj) : (Obj.mapFields f o).dict = o.dict := by
  unfold Obj.mapFields
  split <;> rfl
section
variable {M : Model} {A : Around} {E : Value -> Shared -> Prop} {s : Shared} {base : Heap} {env : Env} {outer : List Env} {L a : Addr} {oe : Obj} {vs : Array Value} {as : List Addr} {Q : Unit -> Shared -> Prop}
theorem note_core {head : Value} {hadNext : Bool} (hfr : A.frames = some (env :: outer)) (hl : s.heap.FunFrames base (env :: outer)) (hf : env.frame = some L) (he : s.heap.get? a = some oe) (hdn : oe.dict = none) (hd : oe.data = .fields vs) (hsz : 1 < vs.size)
    (haa : a ∈ as) (hfs : ∀ b ∈ frs (env :: outer), b ∈ as) (h : ∀ h', Lft (frs (env :: outer)) as s.heap h' a oe.cls -> Q () { s with heap := h' }) :
    wpAny M A (do let x <- frameOf env; let pl <- entryPlaceOf L hadNext; let b <- EntryCells.newEntry head x .none (rawInt L) .none pl; setField (.ref a) 1 b) (fun _ s' => wpAny M A (setFlight (.ref a) none) Q E s') E s := by
  have hna : a ∉ frs (env :: outer) := fun z => by
    obtain ⟨_, o, e, d⟩ := hl.mem z
    rw [he] at e; cases e; exact d vs hd
  refine wpAny_bind (wpAny_frameOf_fun hfr hl hf fun h1 so => wpAny_bind (wpAny_entryPlaceOf fun pl hpl => ?_))
  unfold EntryCells.newEntry newFields
  refine wpAny_bind (wpAny_newObj_type ?_ (hpl.sizeOk5 _ _ _ _ _))
  have e1 : h1.get? a = some oe := (so.2.1 a hna).trans he
  have nT : h1.objs.size ≠ a := Nat.ne_of_gt (Heap.lt_size e1)
  generalize hts : ([head, Value.ref L, Value.none, rawInt L, Value.none] ++ (if pl.isEmpty then List.replicate 6 Value.none else pl)).toArray = ts
  have lt3 : 3 < ts.size := by rw [<- hts]; simp
  have e2 := Heap.get?_push_of_some (h := h1) { cls := .type "traceback", dict := none, data := .fields ts } e1
  have t2 := Heap.get?_push_size h1 (o := { cls := .type "traceback", dict := none, data := .fields ts }) rfl
  refine wpAny_setField e2 hd hsz ?_
  have d3 := Obj.data_mapFields hd (·.setIfInBounds 1 (Value.ref h1.objs.size))
  have e3 := Heap.get?_update_self (Obj.mapFields (·.setIfInBounds 1 (Value.ref h1.objs.size))) e2 (Obj.isFreed_of_fields d3)
  have t3 := (Heap.get?_update_other (h1.push { cls := .type "traceback", dict := none, data := .fields ts }) (Obj.mapFields (·.setIfInBounds 1 (Value.ref h1.objs.size))) (Ne.symm nT)).trans t2
  refine wpAny_setFlight_none (vs := vs.setIfInBounds 1 (.ref h1.objs.size)) e3 d3 (by simp [hsz]) t3 rfl lt3 (h _ ⟨fun b o q nb => ?_, fun b o q eb => ?_, ?_⟩)
  . have q1 : h1.get? b = some o := (so.2.1 b fun z => nb (hfs b z)).trans q
    have ba : b ≠ a := fun z => nb (z ▸ haa)
    rw [Heap.get?_update_other _ _ (Nat.ne_of_gt (Heap.lt_size q1)), Heap.get?_update_other _ _ (Ne.symm ba)]
    exact Heap.get?_push_of_some _ q1
  . obtain ⟨sl, q1⟩ := so.2.2 b o eb
    have ba : b ≠ a := fun z => hna (z ▸ q)
    refine ⟨sl, ?_⟩
    rw [Heap.get?_update_other _ _ (Nat.ne_of_gt (Heap.lt_size q1)), Heap.get?_update_other _ _ (Ne.symm ba)]
    exact Heap.get?_push_of_some _ q1
  . refine ⟨_, _, h1.objs.size, _, _, (Heap.get?_update_other _ _ nT).trans e3, Obj.cls_mapFields _ _, ?_, d3, by simp [hsz], ?_, nT, Heap.get?_update_self _ t3 (Obj.isFreed_of_fields (Obj.data_mapFields rfl _)), Obj.data_mapFields rfl _, by simp [lt3]⟩
    . rw [dict_mapFields]; exact hdn
    . cases q : s.heap.get? h1.objs.size with
      | none => rfl
      | some o =>
        obtain ⟨sl, q1⟩ := so.2.2 _ o q
        exact absurd (Heap.lt_size q1) (Nat.lt_irrefl _)
theorem note_first (hfr : A.frames = some (env :: outer)) (hl : s.heap.FunFrames base (env :: outer)) (hf : env.frame = some L) (he : s.heap.get? a = some oe) (hdn : oe.dict = none) (hd : oe.data = .fields vs) (h1 : vs[1]? = some .none)
    (haa : a ∈ as) (hfs : ∀ b ∈ frs (env :: outer), b ∈ as) (h : ∀ h', Lft (frs (env :: outer)) as s.heap h' a oe.cls -> Q () { s with heap := h' }) :
    wpAny M A (noteFrame (.ref a) env) (fun _ s' => wpAny M A (setFlight (.ref a) none) Q E s') E s := by
  unfold noteFrame
  simp only [hf]
  refine wpAny_bind (wpAny_field he hd h1 ?_)
  rw [if_neg (by decide)]
  exact note_core hfr hl hf he hdn hd (Array.getElem?_eq_some_iff.mp h1).1 haa hfs h
theorem note_next {T : Addr} {oT : Obj} {ts : Array Value} (hfr : A.frames = some (env :: outer)) (hl : s.heap.FunFrames base (env :: outer)) (hf : env.frame = some L) (he : s.heap.get? a = some oe) (hdn : oe.dict = none) (hd : oe.data = .fields vs) (h1 : vs[1]? = some (.ref T))
    (hTa : T ≠ a) (hT : s.heap.get? T = some oT) (hdT : oT.data = .fields ts) (h3 : ts[3]? = some .none)
    (haa : a ∈ as) (hTT : T ∈ as) (hfs : ∀ b ∈ frs (env :: outer), b ∈ as) (h : ∀ h', Lft (frs (env :: outer)) as s.heap h' a oe.cls -> Q () { s with heap := h' }) :
    wpAny M A (noteFrame (.ref a) env) (fun _ s' => wpAny M A (setFlight (.ref a) none) Q E s') E s := by
  unfold noteFrame
  simp only [hf]
  refine wpAny_bind (wpAny_field he hd h1 ?_)
  rw [if_pos (show (Value.ref T != Value.none) = true from by simp)]
  refine wpAny_bind (wpAny_field hT hdT h3 ?_)
  rw [if_neg (show ¬ ((Value.none == rawInt L) = true) from by simp [rawInt])]
  refine wpAny_bind (wpAny_setField hT hdT (Array.getElem?_eq_some_iff.mp h3).1 ?_)
  have nT : T ∉ frs (env :: outer) := fun z => by
    obtain ⟨_, o, e, d⟩ := hl.mem z
    rw [hT] at e; cases e; exact d ts hdT
  have oth : ∀ b, b ≠ T -> (s.heap.update T (Obj.mapFields (·.setIfInBounds 3 Value.none))).get? b = s.heap.get? b := fun b hb => Heap.get?_update_other _ _ (Ne.symm hb)
  have selfT := Heap.get?_update_self (Obj.mapFields (·.setIfInBounds 3 Value.none)) hT (Obj.isFreed_of_fields (Obj.data_mapFields hdT _))
  refine note_core hfr (hl.of_keeps fun b o hb hnf => ⟨o, (oth b (fun z => by rw [z, hT] at hb; cases hb; exact hnf ts hdT)).trans hb, rfl⟩) hf ((oth a (Ne.symm hTa)).trans he) hdn hd (Array.getElem?_eq_some_iff.mp h1).1 haa hfs fun h' q => h h' ⟨fun b o e nb => ?_, fun b o z e => ?_, ?_⟩
  . exact q.keep b o ((oth b fun z => nb (z ▸ hTT)).trans e) nb
  . exact q.slot b o z ((oth b fun y => nT (y ▸ z)).trans e)
  . obtain ⟨oe', vs', T', oT', ts', x1, x2, x3, x4, x5, x6, x7⟩ := q.ex
    refine ⟨oe', vs', T', oT', ts', x1, x2, x3, x4, x5, ?_, x7⟩
    rw [<- oth T' (fun z => by rw [z, selfT] at x6; cases x6)]
    exact x6
end
structure Fly (h0 : Heap) (H : Hp) (h : Heap) (a : Addr) (cls : Value) : Prop where
  ex : ∃ oe vs T oT ts, h.get? a = some oe /\ oe.cls = cls /\ oe.dict = none /\ oe.data = .fields vs /\ vs[1]? = some (.ref T) /\ T ≠ a /\ h.get? T = some oT /\ oT.data = .fields ts /\ ts[3]? = some .none /\ H T = none /\ h0.get? T = none
  un : H a = none
  new : h0.get? a = none
def CXe (P : Program) (w : World) : CXT := fun outer H s E e s' => ∃ a cls H', e = .ref a /\ s'.os = s.os /\ AllBare s'.gens /\ Un (frs outer) [] H H' s.heap s'.heap /\ HOk P w H' s'.heap /\ Fly s.heap H' s'.heap a cls /\ E cls none H'
section
variable {X : Cx} {pins : List (Addr × Obj)} {σ : St} {H1 H' : Hp} {s1 s' : Shared} {a : Addr} {cls : Value} {E : XK}
theorem funFrames_slots {base h h' : Heap} : ∀ {l : List Env}, h.FunFrames base l -> (∀ b ∈ frs l, ∀ o, h.get? b = some o -> ∃ sl, h'.get? b = some { o with slots := sl }) -> h'.FunFrames base l
  | [], _, _ => tT
  | ev :: r, hl, k => by
    obtain ⟨hk, ⟨L, o, hf, hn, ho, hd⟩, hr⟩ := hl
    have e : frs (ev :: r) = L :: frs r := by unfold frs; rw [List.filterMap_cons, hf]
    obtain ⟨sl, q⟩ := k L (by rw [e]; exact List.mem_cons_self) o ho
    exact ⟨hk, ⟨L, _, hf, hn, q, hd⟩, funFrames_slots hr fun b hb => k b (by rw [e]; exact List.mem_cons_of_mem _ hb)⟩
theorem Inv.stackE (I : Inv X pins σ H1 s1) (u : Un (frs X.stack) [] H1 H' s1.heap s'.heap) : s'.heap.FunFrames X.base X.stack :=
  funFrames_slots I.stack fun b hb o e => u.slot b o e (I.stkFree b hb) hb (by simp)
theorem fin_leave {as : List Addr} {h2 : Heap} (I : Inv X pins σ H1 s1) (hst : X.stack = X.env :: X.outer) (hfr : X.env.frame = some X.env.locals) (hex : X.ex = []) (ho : s'.os = s1.os) (hb : AllBare s'.gens)
    (u : Un (frs X.stack) [] H1 H' s1.heap s'.heap) (hok : HOk X.prog X.w H' s'.heap) (has : ∀ b ∈ as, b ∈ frs X.stack \/ (H' b = none /\ s1.heap.get? b = none)) (hfs : ∀ b ∈ frs X.stack, b ∈ as) (haa : a ∈ as) (hna : H' a = none /\ s1.heap.get? a = none)
    (L : Lft (frs X.stack) as s'.heap h2 a cls) (hE : E cls none H') : CXe X.prog X.w X.outer X.H₀ X.s₀ E (.ref a) { s' with heap := h2 } := by
  have hfs' : frs X.stack = X.env.locals :: frs X.outer := by rw [hst]; unfold frs; rw [List.filterMap_cons, hfr]
  have noex : ∀ b : Addr, b ∉ X.ex := fun b => by rw [hex]; simp
  have FF := I.stackE u
  have keep2 := L.keep
  have slot2 := L.slot
  have below : ∀ b o, X.s₀.heap.get? b = some o -> b ≠ X.env.locals := fun b o e => Nat.ne_of_lt (Nat.lt_of_lt_of_le (Heap.lt_size e) I.ok.above)
  have out : ∀ b o, s1.heap.get? b = some o -> b ∈ as -> b ∈ frs X.stack := fun b o e z => by
    rcases has b z with q | ⟨_, q⟩
    . exact q
    . rw [e] at q; cases q
  have here : ∀ b o, X.s₀.heap.get? b = some o -> ∃ o', s1.heap.get? b = some o' := fun b o e => I.base.there b o e (noex b)
  obtain ⟨oe, vs, T, oT, ts, he, hcls, hdi, hd, h1, hnT, hTe, hT, hdT, h3⟩ := L.ex
  have hT0 : T ∈ as \/ s'.heap.get? T = none := .inr hnT
  have freeAs : ∀ b ∈ as, H' b = none := fun b z => by
    rcases has b z with q | ⟨q, _⟩
    . obtain ⟨_, o, e, _⟩ := I.stack.mem q
      exact u.free b o e (I.stkFree b q) (by simp)
    . exact q
  refine ⟨a, cls, H', rfl, ho.trans I.os, hb, ⟨fun b o e n hbf _ => ?_, fun b o e n hbf _ => ?_, fun b o e n _ => ?_, fun b o e _ => ?_, fun b xs e => u.tups b xs (I.base.tups b xs e), fun b o v e => u.frzs b o v (I.base.frzs b o v e), fun b ps e => ?_⟩, fun b o e => ?_, ⟨⟨oe, vs, T, oT, ts, he, hcls, hdi, hd, h1, hTe, hT, hdT, h3, ?_, ?_⟩, hna.1, ?_⟩, hE⟩
  . have e1 := I.base.keep b o e n hbf (noex b)
    have n1 := I.base.free b o e n (noex b)
    have b1 : b ∉ frs X.stack := fun z => by rw [hfs'] at z; exact (List.mem_cons.mp z).elim (below b o e) hbf
    exact keep2 b o (u.keep b o e1 n1 b1 (by simp)) fun z => b1 (out b o e1 z)
  . obtain ⟨sl1, e1⟩ := I.base.slot b o e n hbf (noex b)
    have n1 := I.base.free b o e n (noex b)
    have b1 : b ∈ frs X.stack := by rw [hfs']; exact List.mem_cons_of_mem _ hbf
    obtain ⟨sl2, e2⟩ := u.slot b _ e1 n1 b1 (by simp)
    obtain ⟨sl3, e3⟩ := slot2 b _ b1 e2
    exact ⟨sl3, e3⟩
  . obtain ⟨o1, e1⟩ := here b o e
    exact u.free b o1 e1 (I.base.free b o e n (noex b)) (by simp)
  . obtain ⟨o1, e1⟩ := here b o e
    obtain ⟨o2, e2⟩ := u.there b o1 e1 (by simp)
    by_cases z : b ∈ as
    . obtain ⟨sl, e3⟩ := slot2 b o2 (out b o1 e1 z) e2
      exact ⟨_, e3⟩
    . exact ⟨o2, keep2 b o2 e2 z⟩
  . obtain ⟨m1, e1⟩ := I.base.tbls b ps e
    obtain ⟨m2, e2⟩ := u.tbls b _ e1
    exact ⟨m1 ++ m2, by rw [e2, TabD.append_assoc]⟩
  . refine (hok b o e).stay (fun c v hc q => keep2 c v q fun z => ?_) (fun _ q => q) fun _ _ q => q
    have := freeAs c z
    rcases hc with rfl | hc
    . rw [this] at e; cases e
    . rw [this] at hc; cases hc
  . rcases hT0 with z | z
    . exact freeAs T z
    . cases q : H' T with
      | none => rfl
      | some v => obtain ⟨ob, e⟩ := (hok T v q).get; rw [z] at e; cases e
  . cases q : X.s₀.heap.get? T with
    | none => rfl
    | some o =>
      obtain ⟨o1, e1⟩ := here T o q
      obtain ⟨o2, e2⟩ := u.there T o1 e1 (by simp)
      rcases hT0 with z | z
      . obtain ⟨sl, e3⟩ := slot2 T o2 (out T o1 e1 z) e2
        obtain ⟨_, o4, e4, d4⟩ := FF.mem (out T o1 e1 z)
        rw [e2] at e4; cases e4
        rw [hT] at e3; cases e3
        exact absurd hdT (d4 ts)
      . rw [z] at e2; cases e2
  . cases q : X.s₀.heap.get? a with
    | none => rfl
    | some o => obtain ⟨o1, e1⟩ := here a o q; rw [hna.2] at e1; cases e1
theorem leave_new {oe : Obj} {vs : Array Value} {Q : Unit -> Shared -> Prop} (I : Inv X pins σ H1 s1) (hst : X.stack = X.env :: X.outer) (hfr : X.env.frame = some X.env.locals) (hex : X.ex = []) (ho : s'.os = s1.os) (hb : AllBare s'.gens)
    (u : Un (frs X.stack) [] H1 H' s1.heap s'.heap) (hok : HOk X.prog X.w H' s'.heap) (hna : H' a = none /\ s1.heap.get? a = none) (he : s'.heap.get? a = some oe) (hc : oe.cls = cls) (hdi : oe.dict = none) (hd : oe.data = .fields vs) (h1 : vs[1]? = some .none) (hE : E cls none H')
    (hQ : ∀ s2, CXe X.prog X.w X.outer X.H₀ X.s₀ E (.ref a) s2 -> Q () s2) {M : Model} {E' : Value -> Shared -> Prop} : wpAny M X.A (leaving X.env (.ref a)) Q E' s' := by
  subst hc
  have hA : X.A.frames = some (X.env :: X.outer) := by rw [<- hst]; exact I.ok.frames
  have FF := I.stackE u
  refine wpAny_bind (note_first (as := a :: frs X.stack) hA (by rw [<- hst]; exact FF) hfr he hdi hd h1 List.mem_cons_self (fun b z => List.mem_cons_of_mem _ (by rw [hst]; exact z)) fun h2 L => hQ _ ?_)
  rw [<- hst] at L
  exact fin_leave I hst hfr hex ho hb u hok (fun b z => (List.mem_cons.mp z).elim (fun q => .inr (by rw [q]; exact hna)) .inl) (fun b z => List.mem_cons_of_mem _ z) List.mem_cons_self hna L hE
theorem leave_on {Q : Unit -> Shared -> Prop} (I : Inv X pins σ H1 s1) (hst : X.stack = X.env :: X.outer) (hfr : X.env.frame = some X.env.locals) (hex : X.ex = []) (ho : s'.os = s1.os) (hb : AllBare s'.gens)
    (u : Un (frs X.stack) [] H1 H' s1.heap s'.heap) (hok : HOk X.prog X.w H' s'.heap) (F : Fly s1.heap H' s'.heap a cls) (hE : E cls none H')
    (hQ : ∀ s2, CXe X.prog X.w X.outer X.H₀ X.s₀ E (.ref a) s2 -> Q () s2) {M : Model} {E' : Value -> Shared -> Prop} : wpAny M X.A (leaving X.env (.ref a)) Q E' s' := by
  obtain ⟨oe, vs, T, oT, ts, he, hcls, hdi, hd, h1, hTe, hT, hdT, h3, hHT, hsT⟩ := F.ex
  subst hcls
  have hA : X.A.frames = some (X.env :: X.outer) := by rw [<- hst]; exact I.ok.frames
  have FF := I.stackE u
  refine wpAny_bind (note_next (as := a :: T :: frs X.stack) hA (by rw [<- hst]; exact FF) hfr he hdi hd h1 hTe hT hdT h3 List.mem_cons_self (List.mem_cons_of_mem _ List.mem_cons_self) (fun b z => List.mem_cons_of_mem _ (List.mem_cons_of_mem _ (by rw [hst]; exact z))) fun h2 L => hQ _ ?_)
  rw [<- hst] at L
  refine fin_leave I hst hfr hex ho hb u hok (fun b z => ?_) (fun b z => List.mem_cons_of_mem _ (List.mem_cons_of_mem _ z)) List.mem_cons_self ⟨F.un, F.new⟩ L hE
  rcases List.mem_cons.mp z with q | z
  . exact .inr (by rw [q]; exact ⟨F.un, F.new⟩)
  . rcases List.mem_cons.mp z with q | z
    . exact .inr (by rw [q]; exact ⟨hHT, hsT⟩)
    . exact .inl z
end
theorem passE {P : Program} {w : World} {K : PySem.W.Frag} {mg : Str -> Option Value} {base : Heap} {N : List Str} {qual : Str} {scope : Scope} {f : Addr} {cd : Value} {A : Around} {outer : List Env} {s : Shared} {H : Hp} {E : XK} :
    Passes (CXe P w) (cxOf (CXe P w) P w K mg base N qual scope f cd A outer s H E) E := fun pins σ H1 s1 e s' I h => by
  obtain ⟨a, cls, H', rfl, ho, hb, u, hok, F, hE⟩ := h
  exact leave_on I rfl rfl rfl ho hb u hok F hE (M := model P w) (E' := fun e' s2 => CXe P w outer H s E e' s2) fun s2 q => q
abbrev bmV : List Value := [.type "ValueError", .type "Exception", .type "BaseException", .type "object"]
abbrev ExcC (K : PySem.W.Frag) (C : Addr) : Prop := PySem.W.excIn K C bmV "ValueError.__new__" = true
theorem ExcC.facts {K : PySem.W.Frag} {h : Heap} {C : Addr} (X : K.In h) (q : ExcC K C) : ∃ nm qn N bs bm hd sn sub ab col dd k0 k1 k2 k3 k5 mN,
    h.get? C = some (excClassObj nm qn C N bs bm hd sn sub ab col dd k0 k1 k2 k3 k5 "ValueError.__new__") /\ h.Ns N mN /\ mN "__init__" = none /\ OwnTail h bmV bm := by
  unfold ExcC PySem.W.excIn at q
  split at q
  . rename_i dd' cd' sl' hlk
    split at q
    . rename_i C2 bm2 j0 j1 j2 j3 n2 j5 em es
      simp only [Bool.and_eq_true, beq_iff_eq, Bool.not_eq_true'] at q
      obtain ⟨⟨⟨⟨⟨e1, e2⟩, e3⟩, e4⟩, e5⟩, e6⟩ := q
      subst e1 e2
      obtain ⟨nm, bs, mr, ns, qn, hd, sn, sub, ab, col, del⟩ := cd'
      dsimp only at em e3 e5 e6
      subst em e3
      have e7 : sl' = #[j0, j1, j2, j3, some (.builtin "ValueError.__new__"), j5] := by
        obtain ⟨l⟩ := sl'
        simp only at es
        rw [es]
      subst e7
      exact ⟨nm, qn, ns, bs, bm2, hd, sn, sub, ab, col, dd', j0, j1, j2, j3, j5, _, X _ _ hlk, .of_isNs (PySem.W.isNs_of_in X e5), PySem.W.nsMap_none_of_in X e5 e6, PySem.W.tail_of_in X e4⟩
    . cases q
  . cases q
def NewTo (X : Cx) (E : XK) : Prop := ∀ (pins : List (Addr × Obj)) (σ : St) (H : Hp) (s : Shared) (a : Addr) (cls : Value) (vs : List Value) (h' : Heap), Inv X pins σ H s -> Heap.MadeExcOf s.heap h' a cls vs -> E cls none H -> X.xe (.ref a) { s with heap := h' }
theorem Inv.untracked {X : Cx} {pins : List (Addr × Obj)} {σ : St} {H : Hp} {s : Shared} {a : Addr} (I : Inv X pins σ H s) (h : s.heap.get? a = none) : H a = none := by
  cases q : H a with
  | none => rfl
  | some o => obtain ⟨ob, e⟩ := (I.hok a o q).get; rw [h] at e; cases e
theorem newE {P : Program} {w : World} {K : PySem.W.Frag} {mg : Str -> Option Value} {base : Heap} {N : List Str} {qual : Str} {scope : Scope} {f : Addr} {cd : Value} {A : Around} {outer : List Env} {s : Shared} {H : Hp} {E : XK} :
    NewTo (cxOf (CXe P w) P w K mg base N qual scope f cd A outer s H E) E := fun pins σ H1 s1 a cls vs h' I hm hE => by
  obtain ⟨t, e, _⟩ := hm.there
  exact leave_new (s' := { s1 with heap := h' }) I rfl rfl rfl rfl I.bare (Un.kept hm.keeps) (I.hok.kept hm.keeps) ⟨I.untracked hm.new, hm.new⟩ e rfl rfl rfl rfl hE (M := model P w) (E' := fun e' s2 => CXe P w outer H s E e' s2) fun s2 q => q
def tRaise (C : Addr) (E : XK) (t : TA) : TS := fun _ σ H => t σ H fun _ H1 => E (.ref C) none H1
theorem ps_raise {X : Cx} {E : XK} {x : Str} {np cpos pos : Pos} {e : Expr} {es : List Expr} {C : Addr} {t : TA} (hn : NewTo X E) (hc : X.calm = true) (q : ExcC X.K C) (hg : Gl X x) (hm : X.mg x = some (.ref C)) (ha : PA X (e :: es) t) (hz : (e :: es).length <= 1000 := by decide)
    (hdb : (x == ("__debug__" : Str)) = false := by decide) (he : starEach (e :: es) X.env = (false, eval e X.env) :: starEach es X.env := by rfl) (hpl : (backTo cpos (starEach (e :: es) X.env)).any (·.1) = false := by rfl)
    (hl : ∀ σ H Q, t σ H Q -> t σ H fun vs H1 => vs.length = (e :: es).length /\ Q vs H1) : PS X (.Raise (some (.Call (.Name x np) (e :: es) [] cpos)) none pos) (tRaise C E t) := by
  intro pins s σ H D I h
  obtain ⟨nm, qn, N, bs, bm, hd, sn, sub, ab, col, dd, k0, k1, k2, k3, k5, mN, hC, hns, hni, tl⟩ := q.facts I.ok.mod.kin
  have hbase : bm.contains (.type "BaseException") = true := tl.hasType (by decide +kernel)
  refine wpAny_Raise_call_subU (nm := nm) (q := qn) (C := C) (N := N) (bs := bs) (bm := bm) (hdct := hd) (sn := sn) (sub := sub) (ab := ab) (col := col) (dd := dd) (k0 := k0) (k1 := k1) (k2 := k2) (k3 := k3) (k5 := k5) (mN := mN)
    PySem.F.excBase_ValueError (by decide +kernel) PySem.F.excBase_ValueError hbase (I.ok.hd hc) hpl hni (ld_glob I hg hm ⟨rfl, ?_⟩ hdb)
  have ev : wpAny (model X.prog X.w) X.A (spliced (backTo cpos (starEach (e :: es) X.env))) (AP X pins σ fun vs H1 => vs.length = (e :: es).length /\ E (.ref C) none H1) X.xe s := ha cpos pins s σ H _ I (hl σ H _ h)
  rw [he] at ev ⊢
  refine Calls.evalArgs_plain (thn ev fun us s1 ⟨vs, H1, I1, r, l1, q1⟩ => ⟨rfl, ?_, ?_⟩)
  . show us.length <= sizeLine
    rw [<- r.length, l1]
    exact Nat.le_of_lt (small1000 hz)
  . exact ⟨I1.bk _ _ hC, hns.keeps I1.bk, tl.keeps I1.bk, fun h' a hm' => hn pins σ H1 s1 a (.ref C) _ h' I1 hm' q1⟩
structure ClsFn (K : PySem.W.Frag) (C : Addr) (m : Str) (f : Addr) : Prop where
  ga : PySem.W.specialIn K (.ref C) "__getattribute__" = some (some (.builtin "type.__getattribute__"))
  rd : PySem.W.readsIn K C (.type "type") = true
  fc : PySem.W.findCls K (.ref C) (.type "type") m = some (.val (.ref f))
  kp : PySem.W.keepIn K (.ref f) = true
section
variable {X : Cx} {CX : CXT} {k : Nat} {f C : Addr} {fd : FuncData} {ps : List Str} {sp : Sp} {dvs : List V} {ds : List Value} {E : XK} {x m : Str} {p pos apos : Pos} {e o : Expr} {es : List Expr} {ta : TE} {t : TA}
theorem pe_clsM {pl : Sem Bool} (hg : Gl X x) (hm : X.mg x = some (.ref C)) (c : ClsFn X.K C m f) (F : FnOk X.prog X.w X.K X.mg X.base CX k f fd ps sp) (hr : Room k X.A) (hb : Binds X.K fd ps ds) (hd : Vals dvs ds) (hx : Passes CX X E) (ha : PA X (e :: es) t)
    (hdb : (x == ("__debug__" : Str)) = false := by decide) (hst : starEach (e :: es) X.env = (false, eval e X.env) :: starEach es X.env := by rfl) (hpl : (backTo pos (starEach es X.env)).any (·.1) = false := by rfl)
    (ht : eval (.Call (.Attribute (.Name x p) m apos) (e :: es) [] pos) X.env = (do
      let ov <- eval (.Name x p) X.env
      standAt apos.atName
      let (f, first) <- holding [ov] (getMethod ov m pl)
      callWith pos f first (backTo pos (starEach (e :: es) X.env)) (backToKw pos (keywordEach [] X.env))) := by rfl) : PE X (.Call (.Attribute (.Name x p) m apos) (e :: es) [] pos) (tCall sp dvs E t) := by
  intro pins s σ H Q I h
  refine PySem.W.methodCall_KW (pl := pl) (ld_glob I hg hm ?_ hdb) ht
  refine PySem.W.method_cls I.kIn c.ga (PySem.W.cls_value I.kIn c.rd c.fc rfl ?_)
  have I' := I.tok (s.toks + 1)
  refine PySem.W.callWith_K (first := []) (h₀ := X.base) I.ok.mod.kin c.kp (thn (ha pos pins _ σ H _ I' h) fun us s1 ⟨vs, H1, I1, r, q⟩ => ⟨I1.kIn, ?_⟩) hst hpl
  exact run_fn F hr hb hd hx I1 r q
end
structure OkM (P : Program) (w : World) (K : PySem.W.Frag) (mg : Str -> Option Value) (base : Heap) (CX : CXT) (k : Nat) (C : Addr) (m : Str) (ps : List Str) (sp : Sp) : Prop where
  ex : ∃ f fd, FnOk P w K mg base CX k f fd ps sp /\ Binds K fd ps [] /\ Meth K C m f /\ Cls K C
def spKM (KA : Hp -> Addr -> Int -> Prop) (a : Addr) (z : Int) (n : Nat) (pre : Int -> List Int -> Prop) (F : Int -> List Int -> Int) : Sp := fun vs H Q _ => ∃ ns : List Int, ns.length = n /\ vs = .ref a :: ns.map V.int /\ KA H a z /\ pre z ns /\ Q (.int (F z ns)) H
structure KM (P : Program) (w : World) (K : PySem.W.Frag) (mg : Str -> Option Value) (base : Heap) (k : Nat) (KA : Hp -> Addr -> Int -> Prop) (m : Str) (n : Nat) (pre : Int -> List Int -> Prop) (F : Int -> List Int -> Int) : Prop where
  ex : ∀ H a z, KA H a z -> ∃ C dx fs ps, H a = some (.ins C dx fs) /\ fs.lookup m = none /\ OkM P w K mg base CX0 k C m ps (spKM KA a z n pre F)
structure OkC (P : Program) (w : World) (K : PySem.W.Frag) (mg : Str -> Option Value) (base : Heap) (CX : CXT) (k : Nat) (x : Str) (C : Addr) (m : Str) (ps : List Str) (sp : Sp) : Prop where
  ex : ∃ f fd, FnOk P w K mg base CX k f fd ps sp /\ Binds K fd ps [] /\ ClsFn K C m f /\ mg x = some (.ref C)
structure OkI (P : Program) (w : World) (K : PySem.W.Frag) (mg : Str -> Option Value) (base : Heap) (CX : CXT) (k : Nat) (x : Str) (C : Addr) (ps : List Str) (sp : Sp) : Prop where
  ex : ∃ f fd, FnOk P w K mg base CX k f fd ps sp /\ Binds K fd ps [] /\ Mk K C f /\ mg x = some (.ref C)
section
variable {X : Cx} {CX : CXT} {j k : Nat} {C : Addr} {ps : List Str} {sp : Sp} {E : XK} {x m : Str} {p pos apos : Pos} {e : Expr} {es : List Expr} {t : TA}
theorem pe_clsO {pl : Sem Bool} (o : OkC X.prog X.w X.K X.mg X.base CX j x C m ps sp) (hr : Room k X.A) (hx : Passes CX X E) (ha : PA X (e :: es) t) (hj : j <= k := by decide) (hg : Gl X x := by rfl)
    (hdb : (x == ("__debug__" : Str)) = false := by decide) (hst : starEach (e :: es) X.env = (false, eval e X.env) :: starEach es X.env := by rfl) (hpl : (backTo pos (starEach es X.env)).any (·.1) = false := by rfl)
    (ht : eval (.Call (.Attribute (.Name x p) m apos) (e :: es) [] pos) X.env = (do
      let ov <- eval (.Name x p) X.env
      standAt apos.atName
      let (f, first) <- holding [ov] (getMethod ov m pl)
      callWith pos f first (backTo pos (starEach (e :: es) X.env)) (backToKw pos (keywordEach [] X.env))) := by rfl) : PE X (.Call (.Attribute (.Name x p) m apos) (e :: es) [] pos) (tCall sp [] E t) := by
  obtain ⟨f, fd, F, b, c, mm⟩ := o.ex
  exact pe_clsM hg mm c (F.mono hj) hr b .nil hx ha hdb hst hpl ht
theorem pe_makeO (o : OkI X.prog X.w X.K X.mg X.base CX j x C ps sp) (hr : Room k X.A) (hx : Passes CX X E) (ha : PA X (e :: es) t) (hj : j + 1 <= k := by decide) (hg : Gl X x := by rfl) (hdb : (x == ("__debug__" : Str)) = false := by decide)
    (he : starEach (e :: es) X.env = (false, eval e X.env) :: starEach es X.env := by rfl) (hpl : (backTo pos (starEach es X.env)).any (·.1) = false := by rfl) : PE X (.Call (.Name x p) (e :: es) [] pos) (tMake C sp [] E t) := by
  obtain ⟨f, fd, F, b, c, mm⟩ := o.ex
  exact pe_make c F (hr.mono hj) hg mm b .nil hx ha hdb he hpl
end
def spS (K : PySem.W.Frag) (n : Nat) (pre : List Int -> List Int -> Prop) (F : List Int -> List Int -> Int) : Sp := fun vs H Q _ => ∃ (a : Addr) (xs is : List Int), is.length = n /\ vs = .ref a :: is.map V.int /\ SqL K H a (xs.map V.int) /\ pre xs is /\ Q (.int (F xs is)) H
def kMeths : List Str := ["plain", "plus", "less", "times", "over"]
def KAt (cW cR cP : Addr) (H : Hp) (a : Addr) (z : Int) : Prop := ∃ C dx fs, H a = some (.ins C dx fs) /\ ((C = cW /\ z = 0) \/ ((C = cR \/ C = cP) /\ 0 < z)) /\ fs.lookup ("size" : Str) = some (.int z) /\ ∀ m ∈ kMeths, fs.lookup m = none
def pl (z n : Int) : Int := if z = 0 then n else n % z
theorem pl_pos {z n : Int} (h : 0 < z) : pl z n = n % z := by unfold pl; rw [if_neg (by omega)]
section
variable {X : Cx} {pins : List (Addr × Obj)} {σ : St} {H : Hp} {s : Shared} {h' : Heap}
theorem Inv.turnedL {ch : List Addr} {t' : Nat} (I : Inv X pins σ H s) (hf : ∀ b ∈ ch, FpOk X pins H b) (k : ∀ b o, b ∉ ch -> s.heap.get? b = some o -> h'.get? b = some o) : Inv X pins σ H { s with heap := h', toks := t' } := by
  have nit : ∀ b u, H b = some u -> b ∉ ch := fun b u e z => by rw [(hf b z).1] at e; cases e
  refine I.step (g' := s.gens) (d' := s.drawn) (ch := ch) (fun b hb => ⟨(hf b hb).2.2.2.1, (hf b hb).2.1, (hf b hb).2.2.2.2.1, (hf b hb).2.2.2.2.2⟩) (fun b o _ _ hc e _ => k b o hc e) (fun b o _ _ hc e _ => ⟨o.slots, k b o hc e⟩) (fun _ _ _ _ n => n)
    (fun b o hc e => ⟨o, k b o hc e⟩) (fun _ _ e => e) (fun _ _ _ e => e) (fun b ps e => ⟨#[], by rw [e]; simp⟩) (fun m hm => ?_) (fun b u e => ?_) I.bare
  . obtain ⟨o, es, ep, ho, r⟩ := hm
    exact ⟨o, es, ep, k _ o (fun z => (hf _ z).2.1 rfl) ho, r⟩
  . refine (I.hok b u e).stay (fun c v hc q => k c v ?_ q) (fun _ q => q) fun _ _ q => q
    rcases hc with z | z
    . rw [z]; exact nit b u e
    . exact nit c _ z
theorem Inv.track {T : Addr} {o : HO} (I : Inv X pins σ H s) (f : FpOk X pins H T) (new : ObjOk X.prog X.w (upd H T o) s.heap T o) : Inv X pins σ (upd H T o) s := by
  obtain ⟨f0, f1, f2, f3, f4, f5⟩ := f
  have ne : ∀ {b : Addr} {u : HO}, H b = some u -> b ≠ T := fun e => ne_of_none e f0
  refine ⟨I.ok, I.os, I.bare, ⟨I.base.keep, I.base.slot, fun b ob e n x => ?_, I.base.there, fun b xs e => ?_, fun b ob u e => ?_, fun b ps e => ?_⟩, I.loc, I.cell, by rw [upd_ne (Ne.symm f1)]; exact I.free, fun x c e => ?_, fun p hp => ?_, fun b u e => ?_, I.len⟩
  . have hb : b ≠ T := fun z => by
      subst z
      rcases f3 with z | z
      . exact x z
      . exact absurd (Nat.lt_of_lt_of_le (Heap.lt_size e) z) (Nat.lt_irrefl _)
    rw [upd_ne hb]; exact I.base.free b ob e n x
  . have q := I.base.tups b xs e
    rw [upd_ne (ne q)]; exact q
  . have q := I.base.frzs b ob u e
    rw [upd_ne (ne q)]; exact q
  . obtain ⟨m, q⟩ := I.base.tbls b ps e
    exact ⟨m, by rw [upd_ne (ne q)]; exact q⟩
  . rw [upd_ne (f4 x c e)]; exact I.freeC x c e
  . obtain ⟨a1, a2, a3⟩ := I.pin p hp
    exact ⟨a1, by rw [upd_ne (f5 p hp)]; exact a2, a3⟩
  . by_cases c : b = T
    . subst c; rw [upd_same] at e; cases e; exact new
    . rw [upd_ne c] at e
      exact (I.hok b u e).stay (fun _ _ _ q => q) (fun d q => by rw [upd_ne (ne q)]; exact q) (fun d xs q => by rw [upd_ne (ne q)]; exact q) fun d _ _ q => by rw [upd_ne (ne q)]; exact q
end
def Ite (K : PySem.W.Frag) (a : Addr) : It :=
  ⟨fun i H => ∃ xs x, SqL K H a xs /\ xs[i]? = some x, fun i H v H' => ∃ T y, v = .ref T /\ H T = none /\ H' = upd H T (.tup [.int i, y]) /\ ∀ xs, SqL K H a xs -> xs[i]? = some y, fun i H => ∃ xs, SqL K H a xs /\ xs.length <= i⟩
theorem turn_enum {P : Program} {w : World} {K : PySem.W.Frag} {els : List Expr} {kk : Nat} {tp : Pos} (a e it : Addr) (hne : e ≠ it) : Turn P w K (.Tuple els kk tp) (Ite K a) [e, it] e (fun i h => (∃ old, IsEnum h e it i old) /\ h.IsListIter it a i) where
  mem := by simp
  obj := fun i h st b hb => by
    obtain ⟨⟨old, he⟩, o, ho, _, hd⟩ := st
    rcases List.mem_cons.mp hb with rfl | hb
    . exact ⟨_, he, fun v z => by cases z⟩
    . have q : b = it := by simpa using hb
      subst q
      exact ⟨o, ho, fun v z => by rw [hd] at z; cases z⟩
  keep := fun i h h' st k => by
    obtain ⟨⟨old, he⟩, hit⟩ := st
    exact ⟨⟨old, k e (by simp) _ he⟩, hit.at fun o q => k it (by simp) o q⟩
  item := by
    intro X hP hw hK hc i pins s σ H E I hf st hg
    subst hP hw hK
    obtain ⟨xs, x, hq, hx⟩ := hg
    obtain ⟨⟨old, he⟩, hit⟩ := st
    obtain ⟨its, rv, p, hz⟩ := I.list hq
    obtain ⟨u, hu, ru⟩ := rv.get hx
    refine wpAny_pyNext_enum_item he hit p.isList (x := u) (by simpa using hu) hne fun h1 ho hit1 hT hsz hk => ⟨_, rfl, ?_⟩
    refine wpAny_letOwnedTupleGo_enum ho fun h2 he2 hs2 => ?_
    have Te : s.heap.objs.size ≠ e := Nat.ne_of_gt (Heap.lt_size he)
    have keep2 : ∀ b o, b ∉ [e, it] -> s.heap.get? b = some o -> h2.get? b = some o := fun b o hb q => by
      have b1 : b ≠ e := fun z => hb (by simp [z])
      have b2 : b ≠ it := fun z => hb (by simp [z])
      exact (hs2.2 b b1).trans (hk b o b1 b2 q)
    have I1 : Inv X pins σ H { s with heap := h2, toks := s.toks + 1 } := I.turnedL hf keep2
    have fT : FpOk X pins H s.heap.objs.size := I.fpOk (Nat.le_refl _) (I.hok.fresh (Nat.le_refl _))
    have I2 := I1.track (o := .tup [.int i, x]) fT ⟨by show 2 <= sizeLine; decide, [.int i s.toks, u], .cons ⟨_, rfl⟩ (.cons ru .nil), ⟨_, (hs2.2 _ Te).trans hT, rfl, _, rfl⟩⟩
    refine ⟨.ref s.heap.objs.size, _, I2, rfl, ⟨_, x, rfl, fT.1, rfl, fun ys hy => by rw [I.list_inj hy hq]; exact hx⟩, ⟨⟨_, by exact_mod_cast he2⟩, ?_⟩, fun b hb => ?_⟩
    . obtain ⟨o, q, r⟩ := hit1
      exact ⟨o, (hs2.2 it (Ne.symm hne)).trans q, r⟩
    . rw [upd_ne]
      . exact (hf b hb).1
      . rcases List.mem_cons.mp hb with rfl | hb
        . exact Ne.symm Te
        . have q : b = it := by simpa using hb
          subst q
          obtain ⟨o, q, _⟩ := hit
          exact Nat.ne_of_lt (Heap.lt_size q)
  done := by
    intro X hP hw hK hc i pins s σ H E I hf st hg
    subst hP hw hK
    obtain ⟨xs, hq, hx⟩ := hg
    obtain ⟨⟨old, he⟩, hit⟩ := st
    obtain ⟨its, rv, p, hz⟩ := I.list hq
    have hl := rv.length
    exact wpAny_pyNext_enum_end (I.ok.hd hc) he hit p.isList (by simp; omega) fun h1 eb => ⟨rfl, I.turnedL hf fun b o hb q => eb b o (fun z => hb (by simp [z])) q⟩
  self := fun A i s Q E st h => by
    obtain ⟨⟨old, he⟩, _⟩ := st
    exact wpAny_pyIter_enum he h
theorem bt_enumerate : bootBuiltins "enumerate" = some (.type "enumerate") := by decide +kernel
def iEnum (K : PySem.W.Frag) (ta : TA) : TI := fun σ H R => ta σ H fun vs H1 => ∃ a, vs = [.ref a] /\ (∃ xs, SqL K H1 a xs) /\ R (Ite K a) H1
theorem pi_enum {X : Cx} {els : List Expr} {kk : Nat} {tp : Pos} {l : Expr} {ta : TA} {p pos : Pos} (hg : Gl X "enumerate") (hm : X.mg "enumerate" = none) (ha : PA X [l] ta) (hs : starEach [l] X.env = [(false, eval l X.env)] := by rfl) :
    PI X (.Tuple els kk tp) (.Call (.Name "enumerate" p) [l] [] pos) (iEnum X.K ta) := by
  intro pins s σ H R I h
  refine Call_ (ld_blt I hg hm bt_enumerate (PyProof.Rows.callWith_type1 (thn (ha pos pins s σ H _ I h) fun us s1 ⟨vs, H1, I1, r1, q1⟩ => ?_) hs rfl))
  obtain ⟨a, rfl, ⟨xs, hq⟩, q⟩ := q1
  obtain ⟨u, rfl, ru⟩ := vals1 r1
  cases ru
  obtain ⟨its, rv, p', hz⟩ := I1.list hq
  refine call_enumerate_list p'.isList fun h1 he hit hsz hk => ?_
  refine wpAny_pyIter_enum he ?_
  have I2 : Inv X pins σ H1 { s1 with heap := h1 } := I1.kept (t' := s1.toks) hk
  refine ⟨_, [s1.heap.objs.size + 1, s1.heap.objs.size], _, _, H1, rfl, I2, turn_enum a (s1.heap.objs.size + 1) s1.heap.objs.size (Nat.succ_ne_self _), ⟨⟨_, he⟩, hit⟩, fun b hb => ?_, q⟩
  rcases List.mem_cons.mp hb with rfl | hb
  . exact I1.fpOk (Nat.le_succ _) (I1.hok.fresh (Nat.le_succ _))
  . have e : b = s1.heap.objs.size := by simpa using hb
    subst e
    exact I1.fpOk (Nat.le_refl _) (I1.hok.fresh (Nat.le_refl _))
theorem for_enum {K : PySem.W.Frag} {a : Addr} {xs : List V} {g : TG} {tb : TS} {D : Ends} {σ : St} {H : Hp} (Pv : Nat -> St -> Hp -> Prop) (h0 : Pv 0 σ H) (hl : ∀ i σ H, i <= xs.length -> Pv i σ H -> SqL K H a xs)
    (hs : ∀ i x σ H T, xs[i]? = some x -> Pv i σ H -> H T = none -> g (.ref T) σ (upd H T (.tup [.int i, x])) fun σ2 H2 => tb { D with nx := Pv (i + 1), ct := Pv (i + 1), bk := D.nx } σ2 H2) (hd : ∀ σ H, Pv xs.length σ H -> D.nx σ H) :
    ∃ W : Nat -> Nat -> St -> Hp -> Prop, (∃ m, W 0 m σ H) /\ ∀ i m σ H, W i m σ H ->
      ((Ite K a).stop i H /\ D.nx σ H) \/ ((Ite K a).go i H /\ ∃ N : St -> Hp -> Prop, (∀ σ' H', N σ' H' -> ∃ m', m' < m /\ W (i + 1) m' σ' H') /\ ∀ x H', (Ite K a).yld i H x H' -> g x σ H' fun σ2 H2 => tb { D with nx := N, ct := N, bk := D.nx } σ2 H2) := by
  refine ⟨fun i m σ H => m = xs.length - i /\ i <= xs.length /\ Pv i σ H, ⟨xs.length, by simp, Nat.zero_le _, h0⟩, ?_⟩
  rintro i m σ H ⟨rfl, hi, p⟩
  have q := hl i σ H hi p
  by_cases hlt : i < xs.length
  . refine .inr ⟨⟨xs, xs[i], q, by simp [hlt]⟩, Pv (i + 1), fun σ' H' p' => ⟨xs.length - (i + 1), by omega, rfl, hlt, p'⟩, fun x H' y => ?_⟩
    obtain ⟨T, z, rfl, hT, rfl, hz⟩ := y
    exact hs i z σ H T (hz xs q) p hT
  . have e : i = xs.length := by omega
    subst e
    exact .inl ⟨⟨xs, q, Nat.le_refl _⟩, hd σ H p⟩
theorem int_at {ns : List Int} {i : Nat} {x : V} (h : (ns.map V.int)[i]? = some x) : ∃ n, x = .int n /\ ns[i]? = some n := by
  rw [List.getElem?_map] at h
  cases e : ns[i]? with
  | none => rw [e] at h; cases h
  | some n => rw [e] at h; exact ⟨n, (Option.some.inj h).symm, rfl⟩
theorem at_mem {ns : List Int} {i : Nat} {n : Int} (h : ns[i]? = some n) : n ∈ ns := List.mem_of_getElem? h
theorem at_lt {α : Type} {ns : List α} {i : Nat} {n : α} (h : ns[i]? = some n) : i < ns.length := (List.getElem?_eq_some_iff.mp h).1
theorem take_at {α : Type} {ns : List α} {i : Nat} {n : α} (h : ns[i]? = some n) : ns.take (i + 1) = ns.take i ++ [n] := by rw [List.take_add_one, h]; rfl
abbrev noTest : TT := fun _ H Q => Q true H
end L2
namespace FM
open L2
def IsP (n : Int) : Prop := 2 <= n /\ n <= 9973 /\ ∀ d : Int, 2 <= d -> d * d <= n -> ¬ n % d = 0
open Classical in
def isP (n : Int) : Bool := decide (IsP n)
open Classical in
theorem isP_true {n : Int} (h : IsP n) : isP n = true := by unfold isP; exact decide_eq_true h
open Classical in
theorem isP_false {n : Int} (h : ¬ IsP n) : isP n = false := by unfold isP; exact decide_eq_false h
open Classical in
theorem isP_iff {n : Int} : isP n = true ↔ IsP n := by unfold isP; exact decide_eq_true_iff
def Clean (n d : Int) : Prop := ∀ e : Int, 2 <= e -> e < d -> ¬ n % e = 0
theorem Clean.next {n d : Int} (h : Clean n d) (hd : ¬ n % d = 0) : Clean n (d + 1) := fun e h1 h2 => by
  by_cases c : e = d
  . rw [c]; exact hd
  . exact h e h1 (by omega)
theorem sq_ge {d : Int} (h : 2 <= d) : d <= d * d := by
  have := Int.mul_le_mul_of_nonneg_left (show (1 : Int) <= d by omega) (show (0 : Int) <= d by omega)
  omega
theorem sq_mono {d e : Int} (h0 : 0 <= d) (h : d <= e) : d * d <= e * e := Int.mul_le_mul h h h0 (by omega)
theorem IsP.out {n d : Int} (h : Clean n d) (h2 : 2 <= d) (lo : 2 <= n) (hi : n <= 9973) (hd : ¬ d * d <= n) : IsP n := ⟨lo, hi, fun e h1 he => by
  by_cases c : e < d
  . exact h e h1 c
  . have := sq_mono (d := d) (e := e) (by omega) (by omega)
    omega⟩
theorem isP2 : IsP 2 := ⟨by omega, by omega, fun d h1 h2 => by have := sq_mono (d := 2) (e := d) (by omega) h1; omega⟩
def F_P : List Int -> Bool := fun ns => match ns with
  | [n] => isP n
  | _ => false
def yes : List Int -> Prop := fun _ => True
theorem pl_pl (z n : Int) : pl z (pl z n) = pl z n := by
  unfold pl
  by_cases h : z = 0
  . rw [if_pos h, if_pos h]
  . rw [if_neg h, if_neg h, Int.emod_emod_of_dvd _ (Int.dvd_refl z)]
theorem pl_add (z a b : Int) : pl z (pl z a + b) = pl z (a + b) := by
  unfold pl
  by_cases h : z = 0
  . rw [if_pos h, if_pos h, if_pos h]
  . rw [if_neg h, if_neg h, if_neg h, Int.emod_add_emod]
theorem pl_mul (z a b : Int) : pl z (pl z a * b) = pl z (a * b) := by
  unfold pl
  by_cases h : z = 0
  . rw [if_pos h, if_pos h, if_pos h]
  . rw [if_neg h, if_neg h, if_neg h, Int.mul_emod, Int.emod_emod_of_dvd _ (Int.dvd_refl z), <- Int.mul_emod]
theorem pl_mul' (z a b : Int) : pl z (a * pl z b) = pl z (a * b) := by rw [Int.mul_comm, pl_mul, Int.mul_comm]
theorem pl_add' (z a b : Int) : pl z (a + pl z b) = pl z (a + b) := by rw [Int.add_comm, pl_add, Int.add_comm]
theorem pl_lt {z n : Int} (h : 0 < z) : 0 <= pl z n /\ pl z n < z := by
  rw [pl_pos h]
  exact ⟨Int.emod_nonneg _ (by omega), Int.emod_lt_of_pos _ h⟩
def trimZ (xs : List Int) : List Int := (xs.reverse.dropWhile (· == 0)).reverse
theorem trimZ_zero (xs : List Int) : trimZ (xs ++ [0]) = trimZ xs := by
  unfold trimZ
  rw [List.reverse_append]
  simp
theorem trimZ_ne (xs : List Int) {x : Int} (h : x ≠ 0) : trimZ (xs ++ [x]) = xs ++ [x] := by
  unfold trimZ
  rw [List.reverse_append]
  simp [h]
theorem trimZ_len (xs : List Int) : (trimZ xs).length <= xs.length := by
  unfold trimZ
  have := (List.dropWhile_sublist (· == 0) (l := xs.reverse)).length_le
  simpa using this
def ev : List Int -> Int -> Int
  | [], _ => 0
  | n :: r, x => n + x * ev r x
end FM
namespace L3
open PySem PySem.Spec PyProof.Rows L2
inductive PV where
  | int (n : Int) | bl (b : Bool) | non | str (s : Str) | ints (ns : List Int) | scr (ns : List Int) | lst (xs : List PV) | tup (xs : List PV) | ob (k : Nat) (z : Int) | ty (n : String) | cls (a : Addr)
structure Gx where
  ob : Nat -> Hp -> Addr -> Int -> Prop
  mono : ∀ k H H' a z, Same H H' -> ob k H a z -> ob k H' a z
mutual
def At (K : PySem.W.Frag) (G : Gx) (H : Hp) : PV -> V -> Prop
  | .int n, v => v = .int n
  | .bl b, v => v = .bl b
  | .non, v => v = .non
  | .str s, v => v = .str s
  | .ints ns, v => ∃ a, v = .ref a /\ Rd H a (.lst (ns.map V.int))
  | .scr ns, v => ∃ a, v = .ref a /\ SqL K H a (ns.map V.int)
  | .lst xs, v => ∃ a vs, v = .ref a /\ Rd H a (.lst vs) /\ AtL K G H xs vs
  | .tup xs, v => ∃ a vs, v = .ref a /\ H a = some (.tup vs) /\ AtL K G H xs vs
  | .ob k z, v => ∃ a, v = .ref a /\ G.ob k H a z
  | .ty n, v => v = .ty n
  | .cls a, v => v = .ref a
def AtL (K : PySem.W.Frag) (G : Gx) (H : Hp) : List PV -> List V -> Prop
  | [], vs => vs = []
  | p :: ps, vs => ∃ v r, vs = v :: r /\ At K G H p v /\ AtL K G H ps r
end
theorem same_rd {H H' : Hp} {a : Addr} {xs : List V} (e : Same H H') (h : Rd H a (.lst xs)) : Rd H' a (.lst xs) := by
  rcases h with h | ⟨o, h⟩
  . exact .inl (e _ _ h)
  . exact .inr ⟨o, e _ _ h⟩
theorem same_tup {K : PySem.W.Frag} {H H' : Hp} {a : Addr} {xs : List V} (e : Same H H') (h : SqT K H a xs) : SqT K H' a xs := by
  rcases h with (h | ⟨o, h⟩) | h
  . exact .inl (.inl (e _ _ h))
  . exact .inl (.inr ⟨o, e _ _ h⟩)
  . exact .inr h
mutual
theorem At.mono {K : PySem.W.Frag} {G : Gx} {H H' : Hp} (s : Same H H') : ∀ (p : PV) (v : V), At K G H p v -> At K G H' p v
  | .int _, _, h => h
  | .bl _, _, h => h
  | .non, _, h => h
  | .str _, _, h => h
  | .ints _, _, h => by obtain ⟨a, e, q⟩ := h; exact ⟨a, e, same_rd s q⟩
  | .scr _, _, h => by obtain ⟨a, e, q⟩ := h; exact ⟨a, e, s.seq q⟩
  | .lst xs, _, h => by obtain ⟨a, vs, e, q, r⟩ := h; exact ⟨a, vs, e, same_rd s q, AtL.mono s xs vs r⟩
  | .tup xs, _, h => by obtain ⟨a, vs, e, q, r⟩ := h; exact ⟨a, vs, e, s _ _ q, AtL.mono s xs vs r⟩
  | .ob _ _, _, h => by obtain ⟨a, e, q⟩ := h; exact ⟨a, e, G.mono _ _ _ _ _ s q⟩
  | .ty _, _, h => h
  | .cls _, _, h => h
theorem AtL.mono {K : PySem.W.Frag} {G : Gx} {H H' : Hp} (s : Same H H') : ∀ (ps : List PV) (vs : List V), AtL K G H ps vs -> AtL K G H' ps vs
  | [], _, h => h
  | p :: ps, _, h => by obtain ⟨v, r, e, q, t⟩ := h; exact ⟨v, r, e, At.mono s p v q, AtL.mono s ps r t⟩
end
theorem AtL.length {K : PySem.W.Frag} {G : Gx} {H : Hp} : ∀ {ps : List PV} {vs : List V}, AtL K G H ps vs -> ps.length = vs.length
  | [], _, h => by cases h; rfl
  | p :: ps, _, h => by
    obtain ⟨v, r, rfl, _, t⟩ := h
    rw [List.length_cons, List.length_cons, AtL.length t]
theorem AtL.get {K : PySem.W.Frag} {G : Gx} {H : Hp} : ∀ {ps : List PV} {vs : List V} {i : Nat} {v : V}, AtL K G H ps vs -> vs[i]? = some v -> ∃ p, ps[i]? = some p /\ At K G H p v
  | [], _, i, v, h, e => by cases h; simp at e
  | p :: ps, _, 0, v, h, e => by
    obtain ⟨w, r, rfl, q, t⟩ := h
    simp at e
    subst e
    exact ⟨p, rfl, q⟩
  | p :: ps, _, i + 1, v, h, e => by
    obtain ⟨w, r, rfl, q, t⟩ := h
    obtain ⟨p', e', q'⟩ := AtL.get (i := i) (v := v) t (by simpa using e)
    exact ⟨p', by simpa using e', q'⟩
theorem AtL.at {K : PySem.W.Frag} {G : Gx} {H : Hp} : ∀ {ps : List PV} {vs : List V} {i : Nat} {p : PV}, AtL K G H ps vs -> ps[i]? = some p -> ∃ v, vs[i]? = some v /\ At K G H p v
  | [], _, i, v, h, e => by simp at e
  | p :: ps, _, 0, v, h, e => by
    obtain ⟨w, r, rfl, q, t⟩ := h
    simp at e
    subst e
    exact ⟨w, rfl, q⟩
  | p :: ps, _, i + 1, v, h, e => by
    obtain ⟨w, r, rfl, q, t⟩ := h
    obtain ⟨v', e', q'⟩ := AtL.at (i := i) (p := v) t (by simpa using e)
    exact ⟨v', by simpa using e', q'⟩
theorem AtL.snoc {K : PySem.W.Frag} {G : Gx} {H : Hp} {p : PV} {v : V} : ∀ {ps : List PV} {vs : List V}, AtL K G H ps vs -> At K G H p v -> AtL K G H (ps ++ [p]) (vs ++ [v])
  | [], _, h, q => by cases h; exact ⟨v, [], rfl, q, rfl⟩
  | p' :: ps, _, h, q => by
    obtain ⟨w, r, rfl, q', t⟩ := h
    exact ⟨w, _, rfl, q', AtL.snoc t q⟩
def mn (H : Hp) (O : Addr -> Bool) : Hp := fun b => if O b = true then none else H b
theorem mn_get {H : Hp} {O : Addr -> Bool} {b : Addr} {o : HO} (h : mn H O b = some o) : O b = false /\ H b = some o := by
  unfold mn at h
  by_cases c : O b = true
  . rw [if_pos c] at h; cases h
  . rw [if_neg c] at h; exact ⟨by simpa using c, h⟩
theorem mn_of {H : Hp} {O : Addr -> Bool} {b : Addr} (h : O b = false) : mn H O b = H b := by unfold mn; rw [if_neg (by rw [h]; decide)]
theorem mn_le {H : Hp} {O : Addr -> Bool} : Same (mn H O) H := same_mk fun _ _ h => (mn_get h).2
theorem mn_same {H H' : Hp} {O : Addr -> Bool} (s : Same H H') : Same (mn H O) (mn H' O) := fun b o h => by
  obtain ⟨c, e⟩ := mn_get h
  rw [mn_of c]; exact s b o e
theorem mn_anti {H : Hp} {O O' : Addr -> Bool} (k : ∀ a, O a = true -> O' a = true) : Same (mn H O') (mn H O) := same_mk fun b o h => by
  obtain ⟨c, e⟩ := mn_get h
  have : O b = false := by
    cases z : O b with
    | false => rfl
    | true => rw [k b z] at c; cases c
  rw [mn_of this]; exact e
def hide (a : Addr) (O : Addr -> Bool) : Addr -> Bool := fun b => b == a || O b
theorem hide_ne {a b : Addr} {O : Addr -> Bool} (h : b ≠ a) : hide a O b = O b := by unfold hide; simp [h]
theorem hide_self {a : Addr} {O : Addr -> Bool} : hide a O a = true := by unfold hide; simp
theorem hide_le {a : Addr} {O : Addr -> Bool} : ∀ b, O b = true -> hide a O b = true := fun b h => by unfold hide; simp [h]
theorem mn_hide {H H' : Hp} {O : Addr -> Bool} {a : Addr} (s : Same H H') (ha : H a = none) : Same (mn H O) (mn H' (hide a O)) := fun b o h => by
  obtain ⟨c, e⟩ := mn_get h
  rw [mn_of (by rw [hide_ne (ne_of_none e ha)]; exact c)]; exact s b o e
theorem mn_upd {H : Hp} {O : Addr -> Bool} {a : Addr} {o : HO} (h : O a = true) : mn (upd H a o) O = mn H O := by
  funext b
  unfold mn
  by_cases c : O b = true
  . rw [if_pos c, if_pos c]
  . rw [if_neg c, if_neg c, upd_ne (fun z => c (by rw [z]; exact h))]
inductive Sl where
  | un | fr (p : PV) | ow (p : PV) | o2 (xs ys : List Int)
abbrev En := List Sl
structure Bs where
  H0 : Hp
  Oc : Addr -> Bool
def OwnAt (K : PySem.W.Frag) (G : Gx) (H : Hp) : PV -> List V -> Prop
  | .ints ns, vs => vs = ns.map V.int
  | .lst xs, vs => AtL K G H xs vs
  | _, _ => False
theorem OwnAt.mono {K : PySem.W.Frag} {G : Gx} {H H' : Hp} (s : Same H H') {p : PV} {vs : List V} (h : OwnAt K G H p vs) : OwnAt K G H' p vs := by
  cases p <;> first | exact h | exact AtL.mono s _ _ h
structure O2At (B : Bs) (σ : L2.St) (H : Hp) (Z : En) (O : Addr -> Bool) (i : Nat) (xs ys : List Int) (D a b : Addr) : Prop where
  at_ : σ[i]? = some (some (.ref D))
  oD : O D = true
  oa : O a = true
  ob : O b = true
  nD : B.H0 D = none
  na : B.H0 a = none
  nb : B.H0 b = none
  hD : H D = some (.lst [.ref a, .ref b])
  ha : H a = some (.lst (xs.map V.int))
  hb : H b = some (.lst (ys.map V.int))
  ab : a ≠ b
  un : ∀ (j : Nat) q c, Z[j]? = some (.ow q) -> σ[j]? = some (some (.ref c)) -> c ≠ D /\ c ≠ a /\ c ≠ b
  one : ∀ (j : Nat) xs' ys', Z[j]? = some (.o2 xs' ys') -> j = i
structure Rep (K : PySem.W.Frag) (G : Gx) (B : Bs) (σ : L2.St) (H : Hp) (Z : En) (O : Addr -> Bool) : Prop where
  same : Same B.H0 H
  cd : ∀ a, B.Oc a = true -> B.H0 a ≠ none
  hid : ∀ a, B.Oc a = true -> O a = true
  dom : ∀ a, O a = true -> H a ≠ none
  vis : ∀ a, O a = true -> B.Oc a = true \/ B.H0 a = none
  fr : ∀ (i : Nat) p, Z[i]? = some (.fr p) -> ∃ v, σ[i]? = some (some v) /\ At K G (mn H O) p v
  ow : ∀ (i : Nat) p, Z[i]? = some (.ow p) -> ∃ a vs, σ[i]? = some (some (.ref a)) /\ O a = true /\ B.H0 a = none /\ H a = some (.lst vs) /\ OwnAt K G (mn H O) p vs
  inj : ∀ (i j : Nat) p q a, Z[i]? = some (.ow p) -> Z[j]? = some (.ow q) -> σ[i]? = some (some (.ref a)) -> σ[j]? = some (some (.ref a)) -> i = j
  len : σ.length = Z.length
  o2 : ∀ (i : Nat) xs ys, Z[i]? = some (.o2 xs ys) -> ∃ D a b, O2At B σ H Z O i xs ys D a b
section
variable {K : PySem.W.Frag} {G : Gx} {B : Bs} {σ : L2.St} {H H' : Hp} {Z : En} {O : Addr -> Bool} {i : Nat}
theorem Rep.grow (R : Rep K G B σ H Z O) (s : Same H H') : Rep K G B σ H' Z O := by
  refine ⟨R.same.trans s, R.cd, R.hid, fun a h z => R.dom a h (s.free z), R.vis, fun i p e => ?_, fun i p e => ?_, R.inj, R.len, fun i xs ys e => let ⟨D, a, b, q⟩ := R.o2 i xs ys e; ⟨D, a, b, q.at_, q.oD, q.oa, q.ob, q.nD, q.na, q.nb, s _ _ q.hD, s _ _ q.ha, s _ _ q.hb, q.ab, q.un, q.one⟩⟩
  . obtain ⟨v, e1, e2⟩ := R.fr i p e
    exact ⟨v, e1, At.mono (mn_same s) _ _ e2⟩
  . obtain ⟨a, vs, e1, e2, e3, e4, e5⟩ := R.ow i p e
    exact ⟨a, vs, e1, e2, e3, s _ _ e4, e5.mono (mn_same s)⟩
theorem set_at {α : Type} {l : List α} {i j : Nat} {x y : α} (h : (l.set i x)[j]? = some y) : (i = j /\ y = x /\ i < l.length) \/ (i ≠ j /\ l[j]? = some y) := by
  rw [List.getElem?_set] at h
  by_cases c : i = j
  . rw [if_pos c] at h
    by_cases c2 : i < l.length
    . rw [if_pos c2] at h; exact .inl ⟨c, (Option.some.inj h).symm, c2⟩
    . rw [if_neg c2] at h; cases h
  . rw [if_neg c] at h; exact .inr ⟨c, h⟩
theorem set_ne {α : Type} {l : List α} {i j : Nat} {x : α} (h : i ≠ j) : (l.set i x)[j]? = l[j]? := by rw [List.getElem?_set, if_neg h]
theorem set_eq {α : Type} {l : List α} {i : Nat} {x : α} (h : i < l.length) : (l.set i x)[i]? = some x := by rw [List.getElem?_set, if_pos rfl, if_pos h]
theorem Rep.set (R : Rep K G B σ H Z O) {p : PV} {v : V} (h : At K G (mn H O) p v) : Rep K G B (σ.set i (some v)) H (Z.set i (.fr p)) O := by
  refine ⟨R.same, R.cd, R.hid, R.dom, R.vis, fun j q e => ?_, fun j q e => ?_, fun j k q r a e1 e2 e3 e4 => ?_, by rw [List.length_set, List.length_set]; exact R.len, fun j xs ys e => ?_⟩
  . rcases set_at e with ⟨rfl, e, l⟩ | ⟨n, e⟩
    . cases e; exact ⟨v, set_eq (by rw [R.len]; exact l), h⟩
    . rw [set_ne n]; exact R.fr j q e
  . rcases set_at e with ⟨rfl, e, l⟩ | ⟨n, e⟩
    . cases e
    . rw [set_ne n]; exact R.ow j q e
  . rcases set_at e1 with ⟨rfl, e, l⟩ | ⟨n, e⟩
    . cases e
    . rcases set_at e2 with ⟨rfl, e', l'⟩ | ⟨n', e'⟩
      . cases e'
      . rw [set_ne n] at e3; rw [set_ne n'] at e4
        exact R.inj j k q r a e e' e3 e4
  . rcases set_at e with ⟨rfl, e, l⟩ | ⟨n, e⟩
    . cases e
    . obtain ⟨D, a, b, q⟩ := R.o2 j xs ys e
      refine ⟨D, a, b, by rw [set_ne n]; exact q.at_, q.oD, q.oa, q.ob, q.nD, q.na, q.nb, q.hD, q.ha, q.hb, q.ab, fun k r c e1 e2 => ?_, fun k xs' ys' e1 => ?_⟩
      . rcases set_at e1 with ⟨_, e', _⟩ | ⟨n', e'⟩
        . cases e'
        . rw [set_ne n'] at e2; exact q.un k r c e' e2
      . rcases set_at e1 with ⟨_, e', _⟩ | ⟨n', e'⟩
        . cases e'
        . exact q.one k xs' ys' e'
theorem Rep.new (R : Rep K G B σ H Z O) {p : PV} {a : Addr} {vs : List V} (s : Same H H') (ha : H a = none) (he : H' a = some (.lst vs)) (h : OwnAt K G (mn H' (hide a O)) p vs) : Rep K G B (σ.set i (some (.ref a))) H' (Z.set i (.ow p)) (hide a O) := by
  refine ⟨R.same.trans s, R.cd, fun b z => hide_le b (R.hid b z), fun b z y => ?_, fun b z => ?_, fun j q e => ?_, fun j q e => ?_, fun j k q r b e1 e2 e3 e4 => ?_, by rw [List.length_set, List.length_set]; exact R.len, fun j xs ys e => ?_⟩
  . by_cases c : b = a
    . subst c; rw [he] at y; cases y
    . rw [hide_ne c] at z; exact R.dom b z (s.free y)
  . by_cases c : b = a
    . subst c; exact .inr (R.same.free ha)
    . rw [hide_ne c] at z; exact R.vis b z
  . rcases set_at e with ⟨rfl, e, l⟩ | ⟨n, e⟩
    . cases e
    . obtain ⟨v, e1, e2⟩ := R.fr j q e
      exact ⟨v, by rw [set_ne n]; exact e1, At.mono (mn_hide s ha) _ _ e2⟩
  . rcases set_at e with ⟨rfl, e, l⟩ | ⟨n, e⟩
    . cases e
      exact ⟨a, vs, set_eq (by rw [R.len]; exact l), hide_self, R.same.free ha, he, h⟩
    . obtain ⟨b, us, e1, e2, e3, e4, e5⟩ := R.ow j q e
      exact ⟨b, us, by rw [set_ne n]; exact e1, hide_le b e2, e3, s _ _ e4, e5.mono (mn_hide s ha)⟩
  . have old : ∀ (m : Nat) q, Z[m]? = some (.ow q) -> σ[m]? = some (some (.ref a)) -> False := fun m q e z => by
      obtain ⟨b, us, e1, _, _, e4, _⟩ := R.ow m q e
      rw [z] at e1; cases e1
      rw [ha] at e4; cases e4
    rcases set_at e1 with ⟨rfl, e, l⟩ | ⟨n, e⟩
    . rcases set_at e2 with ⟨rfl, e', l'⟩ | ⟨n', e'⟩
      . rfl
      . rw [set_eq (by rw [R.len]; exact l)] at e3
        cases e3
        rw [set_ne n'] at e4
        exact (old k r e' e4).elim
    . rcases set_at e2 with ⟨rfl, e', l'⟩ | ⟨n', e'⟩
      . rw [set_eq (by rw [R.len]; exact l')] at e4
        cases e4
        rw [set_ne n] at e3
        exact (old j q e e3).elim
      . rw [set_ne n] at e3; rw [set_ne n'] at e4
        exact R.inj j k q r b e e' e3 e4
  . rcases set_at e with ⟨rfl, e, l⟩ | ⟨n, e⟩
    . cases e
    . obtain ⟨D, a1, b1, q⟩ := R.o2 j xs ys e
      refine ⟨D, a1, b1, by rw [set_ne n]; exact q.at_, hide_le _ q.oD, hide_le _ q.oa, hide_le _ q.ob, q.nD, q.na, q.nb, s _ _ q.hD, s _ _ q.ha, s _ _ q.hb, q.ab, fun k r c e1 e2 => ?_, fun k xs' ys' e1 => ?_⟩
      . rcases set_at e1 with ⟨rfl, e', l'⟩ | ⟨n', e'⟩
        . rw [set_eq (by rw [R.len]; exact l')] at e2
          cases e2
          exact ⟨Ne.symm (ne_of_none q.hD ha), Ne.symm (ne_of_none q.ha ha), Ne.symm (ne_of_none q.hb ha)⟩
        . rw [set_ne n'] at e2; exact q.un k r c e' e2
      . rcases set_at e1 with ⟨_, e', _⟩ | ⟨n', e'⟩
        . cases e'
        . exact q.one k xs' ys' e'
theorem Rep.change (R : Rep K G B σ H Z O) {p p' : PV} {a : Addr} {vs : List V} (e : Z[i]? = some (.ow p)) (ea : σ[i]? = some (some (.ref a))) (h : OwnAt K G (mn H O) p' vs) : Rep K G B σ (upd H a (.lst vs)) (Z.set i (.ow p')) O := by
  obtain ⟨a', us, e1, e2, e3, e4, e5⟩ := R.ow i p e
  rw [ea] at e1
  cases e1
  have hl : i < Z.length := (List.getElem?_eq_some_iff.mp e).1
  refine ⟨fun b o z => ?_, R.cd, R.hid, fun b z y => ?_, R.vis, fun j q ej => ?_, fun j q ej => ?_, fun j k q r b j1 j2 j3 j4 => ?_, by rw [List.length_set]; exact R.len, fun j xs ys ej => ?_⟩
  . rw [upd_ne (ne_of_none z e3)]; exact R.same b o z
  . by_cases c : b = a
    . subst c; rw [upd_same] at y; cases y
    . rw [upd_ne c] at y; exact R.dom b z y
  . rw [mn_upd e2]
    rcases set_at ej with ⟨_, e', _⟩ | ⟨_, e'⟩
    . cases e'
    . exact R.fr j q e'
  . rw [mn_upd e2]
    rcases set_at ej with ⟨rfl, e', _⟩ | ⟨n, e'⟩
    . cases e'
      exact ⟨a, vs, ea, e2, e3, upd_same, h⟩
    . obtain ⟨b, ws, f1, f2, f3, f4, f5⟩ := R.ow j q e'
      refine ⟨b, ws, f1, f2, f3, ?_, f5⟩
      rw [upd_ne]
      . exact f4
      . intro z
        subst z
        exact n (R.inj i j p q b e e' ea f1)
  . have back : ∀ (m : Nat) q, (Z.set i (.ow p'))[m]? = some (.ow q) -> ∃ q', Z[m]? = some (.ow q') := fun m q z => by
      rcases set_at z with ⟨rfl, _, _⟩ | ⟨_, z⟩
      . exact ⟨p, e⟩
      . exact ⟨q, z⟩
    obtain ⟨q', y1⟩ := back j q j1
    obtain ⟨r', y2⟩ := back k r j2
    exact R.inj j k q' r' b y1 y2 j3 j4
  . rcases set_at ej with ⟨rfl, e', _⟩ | ⟨n, e'⟩
    . cases e'
    . obtain ⟨D, a1, b1, q⟩ := R.o2 j xs ys e'
      obtain ⟨u1, u2, u3⟩ := q.un i p a e ea
      refine ⟨D, a1, b1, q.at_, q.oD, q.oa, q.ob, q.nD, q.na, q.nb, by rw [upd_ne (Ne.symm u1)]; exact q.hD, by rw [upd_ne (Ne.symm u2)]; exact q.ha, by rw [upd_ne (Ne.symm u3)]; exact q.hb, q.ab, fun k r c e1 e2 => ?_, fun k xs' ys' e1 => ?_⟩
      . rcases set_at e1 with ⟨rfl, _, _⟩ | ⟨_, e1⟩
        . exact q.un i p c e e2
        . exact q.un k r c e1 e2
      . rcases set_at e1 with ⟨_, e', _⟩ | ⟨n', e'⟩
        . cases e'
        . exact q.one k xs' ys' e'
def show' (a : Addr) (O : Addr -> Bool) : Addr -> Bool := fun b => if b = a then false else O b
theorem show_ne {a b : Addr} {O : Addr -> Bool} (h : b ≠ a) : show' a O b = O b := by unfold show'; rw [if_neg h]
theorem show_self {a : Addr} {O : Addr -> Bool} : show' a O a = false := by unfold show'; rw [if_pos rfl]
theorem show_le {a : Addr} {O : Addr -> Bool} : ∀ b, show' a O b = true -> O b = true := fun b h => by
  by_cases c : b = a
  . subst c; rw [show_self] at h; cases h
  . rw [show_ne c] at h; exact h
def frz (Z : En) (i : Nat) : En := match Z[i]? with
  | some (.ow p) => Z.set i (.fr p)
  | _ => Z
theorem Rep.freeze (R : Rep K G B σ H Z O) (i : Nat) : ∃ O', Rep K G B σ H (frz Z i) O' := by
  unfold frz
  split
  . rename_i p e
    obtain ⟨a, vs, e1, e2, e3, e4, e5⟩ := R.ow i p e
    have sub : Same (mn H O) (mn H (show' a O)) := mn_anti show_le
    have sees : Rd (mn H (show' a O)) a (.lst vs) := .inl (by rw [mn_of show_self]; exact e4)
    have hp : At K G (mn H (show' a O)) p (.ref a) := by
      cases p <;> first
        | exact False.elim e5
        | (have e5 := e5.mono sub; exact ⟨a, vs, rfl, sees, e5⟩)
        | (have e5' : vs = _ := e5; subst e5'; exact ⟨a, rfl, sees⟩)
    refine ⟨show' a O, R.same, R.cd, fun b z => ?_, fun b z => R.dom b (show_le b z), fun b z => R.vis b (show_le b z), fun j q ej => ?_, fun j q ej => ?_, fun j k q r b j1 j2 j3 j4 => ?_, by rw [List.length_set]; exact R.len, fun j xs ys ej => ?_⟩
    . rw [show_ne]
      . exact R.hid b z
      . intro y
        subst y
        exact R.cd b z e3
    . rcases set_at ej with ⟨rfl, e', _⟩ | ⟨n, e'⟩
      . cases e'
        exact ⟨.ref a, e1, hp⟩
      . obtain ⟨v, f1, f2⟩ := R.fr j q e'
        exact ⟨v, f1, At.mono sub _ _ f2⟩
    . rcases set_at ej with ⟨rfl, e', _⟩ | ⟨n, e'⟩
      . cases e'
      . obtain ⟨b, ws, f1, f2, f3, f4, f5⟩ := R.ow j q e'
        refine ⟨b, ws, f1, ?_, f3, f4, f5.mono sub⟩
        rw [show_ne]
        . exact f2
        . intro z
          subst z
          exact n (R.inj i j p q b e e' e1 f1)
    . rcases set_at j1 with ⟨_, e', _⟩ | ⟨_, y1⟩
      . cases e'
      . rcases set_at j2 with ⟨_, e', _⟩ | ⟨_, y2⟩
        . cases e'
        . exact R.inj j k q r b y1 y2 j3 j4
    . rcases set_at ej with ⟨rfl, e', _⟩ | ⟨n, e'⟩
      . cases e'
      . obtain ⟨D, a1, b1, q⟩ := R.o2 j xs ys e'
        obtain ⟨u1, u2, u3⟩ := q.un i p a e e1
        refine ⟨D, a1, b1, q.at_, by rw [show_ne (Ne.symm u1)]; exact q.oD, by rw [show_ne (Ne.symm u2)]; exact q.oa, by rw [show_ne (Ne.symm u3)]; exact q.ob, q.nD, q.na, q.nb, q.hD, q.ha, q.hb, q.ab, fun k r c e1 e2 => ?_, fun k xs' ys' e1 => ?_⟩
        . rcases set_at e1 with ⟨_, e', _⟩ | ⟨_, e1⟩
          . cases e'
          . exact q.un k r c e1 e2
        . rcases set_at e1 with ⟨_, e', _⟩ | ⟨n', e'⟩
          . cases e'
          . exact q.one k xs' ys' e'
  . exact ⟨O, R⟩
def Bs.at (B : Bs) (H : Hp) (O : Addr -> Bool) : Bs := ⟨fun b => if (O b && (B.H0 b).isNone) = true then none else H b, B.Oc⟩
theorem Bs.at_of {b : Addr} (h : O b = false \/ B.H0 b ≠ none) : (B.at H O).H0 b = H b := by
  show (if (O b && (B.H0 b).isNone) = true then none else H b) = H b
  rw [if_neg]
  rcases h with h | h
  . rw [h]; simp
  . cases e : B.H0 b with
    | none => exact absurd e h
    | some o => simp
theorem Rep.rebase (R : Rep K G B σ H Z O) : Rep K G (B.at H O) σ H Z O := by
  refine ⟨fun b o z => ?_, fun a z => ?_, R.hid, R.dom, fun a z => ?_, R.fr, fun i p e => ?_, R.inj, R.len, fun i xs ys e => ?_⟩
  . have z : (if (O b && (B.H0 b).isNone) = true then none else H b) = some o := z
    by_cases c : (O b && (B.H0 b).isNone) = true
    . rw [if_pos c] at z; cases z
    . rw [if_neg c] at z; exact .of z
  . rw [Bs.at_of (.inr (R.cd a z))]
    exact R.dom a (R.hid a z)
  . rcases R.vis a z with y | y
    . exact .inl y
    . refine .inr ?_
      show (if (O a && (B.H0 a).isNone) = true then none else H a) = none
      rw [if_pos (by rw [z, y]; rfl)]
  . obtain ⟨a, vs, e1, e2, e3, e4, e5⟩ := R.ow i p e
    refine ⟨a, vs, e1, e2, ?_, e4, e5⟩
    show (if (O a && (B.H0 a).isNone) = true then none else H a) = none
    rw [if_pos (by rw [e2, e3]; rfl)]
  . obtain ⟨D, a, b, q⟩ := R.o2 i xs ys e
    have z : ∀ c, O c = true -> B.H0 c = none -> (B.at H O).H0 c = none := fun c h1 h2 => by
      show (if (O c && (B.H0 c).isNone) = true then none else H c) = none
      rw [if_pos (by rw [h1, h2]; rfl)]
    exact ⟨D, a, b, q.at_, q.oD, q.oa, q.ob, z D q.oD q.nD, z a q.oa q.na, z b q.ob q.nb, q.hD, q.ha, q.hb, q.ab, q.un, q.one⟩
theorem Rep.base_le (R : Rep K G B σ H Z O) : Same B.H0 (B.at H O).H0 := fun b o z => by
  rw [Bs.at_of (.inr (by rw [z]; exact fun y => by cases y))]
  exact R.same b o z
theorem Rep.base_mn (B : Bs) (H : Hp) (O : Addr -> Bool) : Same (mn H O) (B.at H O).H0 := same_mk fun b o z => by
  obtain ⟨c, e⟩ := mn_get z
  rw [Bs.at_of (.inl c)]
  exact e
theorem Rep.unbase {σ' : L2.St} {Z' : En} {O' : Addr -> Bool} (R : Rep K G B σ H Z O) (R' : Rep K G (B.at H O) σ' H' Z' O') : Rep K G B σ' H' Z' O' := by
  refine ⟨R.base_le.trans R'.same, R.cd, R'.hid, R'.dom, fun a z => (R'.vis a z).imp id fun y => R.base_le.free y, R'.fr, fun i p e => ?_, R'.inj, R'.len, fun i xs ys e => ?_⟩
  . obtain ⟨a, vs, e1, e2, e3, e4, e5⟩ := R'.ow i p e
    exact ⟨a, vs, e1, e2, R.base_le.free e3, e4, e5⟩
  . obtain ⟨D, a, b, q⟩ := R'.o2 i xs ys e
    exact ⟨D, a, b, q.at_, q.oD, q.oa, q.ob, R.base_le.free q.nD, R.base_le.free q.na, R.base_le.free q.nb, q.hD, q.ha, q.hb, q.ab, q.un, q.one⟩
theorem Rep.seen {σ' : L2.St} {Z' : En} {O' : Addr -> Bool} (R : Rep K G B σ H Z O) (R' : Rep K G (B.at H O) σ' H' Z' O') : Same (mn H O) (mn H' O') := fun b o z => by
  obtain ⟨c, e⟩ := mn_get z
  have z0 : (B.at H O).H0 b = some o := by rw [Bs.at_of (.inl c)]; exact e
  rw [mn_of]
  . exact R'.same b o z0
  . cases y : O' b with
    | false => rfl
    | true =>
      rcases R'.vis b y with y | y
      . rw [R.hid b y] at c; cases c
      . rw [z0] at y; cases y
end
def getI (Z : En) (i : Nat) : Int := match Z[i]? with
  | some (.fr (.int n)) => n
  | _ => 0
def isI (Z : En) (i : Nat) : Prop := Z[i]? = some (.fr (.int (getI Z i)))
def getL (Z : En) (i : Nat) : List Int := match Z[i]? with
  | some (.fr (.ints ns)) => ns
  | some (.ow (.ints ns)) => ns
  | some (.fr (.scr ns)) => ns
  | _ => []
def isL (Z : En) (i : Nat) : Prop := Z[i]? = some (.fr (.ints (getL Z i)))
def isO (Z : En) (i : Nat) : Prop := Z[i]? = some (.ow (.ints (getL Z i)))
def isLO (Z : En) (i : Nat) : Prop := isL Z i \/ isO Z i \/ Z[i]? = some (.fr (.scr (getL Z i)))
def getP (Z : En) (i : Nat) : PV := match Z[i]? with
  | some (.fr p) => p
  | some (.ow p) => p
  | _ => .non
def isF (Z : En) (i : Nat) : Prop := Z[i]? = some (.fr (getP Z i))
def getS (Z : En) (i : Nat) : Str := match Z[i]? with
  | some (.fr (.str s)) => s
  | _ => Str.empty
def isS (Z : En) (i : Nat) : Prop := Z[i]? = some (.fr (.str (getS Z i)))
section
variable {K : PySem.W.Frag} {G : Gx} {B : Bs} {σ : L2.St} {H H' : Hp} {Z : En} {O : Addr -> Bool} {i : Nat}
theorem Rep.readL (R : Rep K G B σ H Z O) (h : isLO Z i) : ∃ a, σ[i]? = some (some (.ref a)) /\ SqL K H a ((getL Z i).map V.int) := by
  rcases h with h | h | h
  . obtain ⟨v, e1, a, e2, e3⟩ := R.fr i _ h
    subst e2
    exact ⟨a, e1, .inl (same_rd mn_le e3)⟩
  . obtain ⟨a, vs, e1, e2, e3, e4, e5⟩ := R.ow i _ h
    have e5 : vs = (getL Z i).map V.int := e5
    subst e5
    exact ⟨a, e1, .inl (.inl e4)⟩
  . obtain ⟨v, e1, a, e2, e3⟩ := R.fr i _ h
    subst e2
    exact ⟨a, e1, mn_le.seq e3⟩
end
def tX (K : PySem.W.Frag) (G : Gx) (C : En -> Prop) (g : En -> PV) : TE := fun σ H Q => ∃ B Z O, Rep K G B σ H Z O /\ C Z /\ ∀ v H', Same H H' -> At K G (mn H' O) (g Z) v -> Q v H'
def tXl (K : PySem.W.Frag) (G : Gx) (C : En -> Prop) (g : En -> List Int) : TE := fun σ H Q => ∃ B Z O, Rep K G B σ H Z O /\ C Z /\ ∀ a H', Same H H' -> H a = none -> H' a = some (.lst ((g Z).map V.int)) -> Q (.ref a) H'
def tXp (K : PySem.W.Frag) (G : Gx) (C : En -> Prop) (g : En -> List PV) : TE := fun σ H Q => ∃ B Z O, Rep K G B σ H Z O /\ C Z /\ ∀ a vs H', Same H H' -> H a = none -> H' a = some (.lst vs) -> AtL K G (mn H' (hide a O)) (g Z) vs -> Q (.ref a) H'
def tXs (K : PySem.W.Frag) (G : Gx) (C : En -> Prop) (g : En -> List PV) : TA := fun σ H Q => ∃ B Z O, Rep K G B σ H Z O /\ C Z /\ ∀ vs H', Same H H' -> AtL K G (mn H' O) (g Z) vs -> Q vs H'
def tXT (K : PySem.W.Frag) (G : Gx) (C : En -> Prop) (p : En -> Prop) [∀ Z, Decidable (p Z)] : TT := fun σ H Q => ∃ B Z O, Rep K G B σ H Z O /\ C Z /\ ∀ H', Same H H' -> Q (decide (p Z)) H'
abbrev tXI (K : PySem.W.Frag) (G : Gx) (C : En -> Prop) (g : En -> Int) : TE := tX K G C fun Z => .int (g Z)
abbrev tXL (K : PySem.W.Frag) (G : Gx) (C : En -> Prop) (g : En -> List Int) : TE := tX K G C fun Z => .ints (g Z)
abbrev tXB (K : PySem.W.Frag) (G : Gx) (C : En -> Prop) (p : En -> Prop) [∀ Z, Decidable (p Z)] : TE := tX K G C fun Z => .bl (decide (p Z))
abbrev tXS (K : PySem.W.Frag) (G : Gx) (C : En -> Prop) (g : En -> Str) : TE := tX K G C fun Z => .str (g Z)
section
variable {X : Cx} {G : Gx} {a b : Expr} {pos : Pos} {Ca Cb : En -> Prop} {ga gb : En -> Int} {i : Nat} {x : Str} {e : Expr} {t : TE} {C : En -> Prop} {g : En -> PV} {gl hl : En -> List Int}
theorem toX (h : PE X e t) (k : ∀ B σ H Z O Q, Rep X.K G B σ H Z O -> C Z -> (∀ v H', Same H H' -> At X.K G (mn H' O) (g Z) v -> Q v H') -> t σ H Q) : PE X e (tX X.K G C g) :=
  fun pins s σ H Q I ⟨B, Z, O, R, c, q⟩ => h pins s σ H Q I (k B σ H Z O Q R c q)
theorem toXl (h : PE X e t) (k : ∀ B σ H Z O Q, Rep X.K G B σ H Z O -> C Z -> (∀ a H', Same H H' -> H a = none -> H' a = some (.lst ((gl Z).map V.int)) -> Q (.ref a) H') -> t σ H Q) : PE X e (tXl X.K G C gl) :=
  fun pins s σ H Q I ⟨B, Z, O, R, c, q⟩ => h pins s σ H Q I (k B σ H Z O Q R c q)
theorem newL (h : PE X e (tXl X.K G C gl)) : PE X e (tXL X.K G C gl) := toX h fun B σ H Z O Q R c q => ⟨B, Z, O, R, c, fun a H' s n e => q _ H' s ⟨a, rfl, .inl (by
  rw [mn_of]
  . exact e
  . cases z : O a with
    | false => rfl
    | true => exact absurd n (R.dom a z))⟩⟩
theorem newP {gp : En -> List PV} (h : PE X e (tXp X.K G C gp)) : PE X e (tX X.K G C fun Z => .lst (gp Z)) := toX h fun B σ H Z O Q R c q => ⟨B, Z, O, R, c, fun a vs H' s n e al => q _ H' s ⟨a, vs, rfl, .inl (by
  rw [mn_of]
  . exact e
  . cases z : O a with
    | false => rfl
    | true => exact absurd n (R.dom a z)), AtL.mono (mn_anti hide_le) _ _ al⟩⟩
theorem xn_int {n : Int} {j : Nat} : PE X (.Constant (.int n) j pos) (tXI X.K G (fun _ => True) fun _ => n) := toX pe_int fun _ _ H _ _ _ _ _ q => q _ H (Same.refl H) rfl
theorem xb_bl {n : Bool} {j : Nat} : PE X (.Constant (.bool n) j pos) (tX X.K G (fun _ => True) fun _ => .bl n) := toX pe_bl fun _ _ H _ _ _ _ _ q => q _ H (Same.refl H) rfl
theorem xs_str {n : Str} {j : Nat} : PE X (.Constant (.str n) j pos) (tXS X.K G (fun _ => True) fun _ => n) := toX pe_str fun _ _ H _ _ _ _ _ q => q _ H (Same.refl H) rfl
theorem xv_bltn {u : String} (hg : Gl X x) (hm : X.mg x = none) (hv : bootBuiltins x = some (.type u)) (hn : x ≠ "__name__" := by decide) (hd : (x == ("__debug__" : Str)) = false := by decide) : PE X (.Name x pos) (tX X.K G (fun _ => True) fun _ => .ty u) :=
  toX (pe_bltn (v := .ty u) hg hm hv rfl hn hd) fun _ _ H _ _ _ _ _ q => q _ H (Same.refl H) rfl
theorem xv (i : Nat) {x : Str} (hN : X.N[i]? = some x := by rfl) (hv : Vis X.env.scope x := by first | exact Or.inl rfl | exact Or.inr (Or.inl rfl) | exact Or.inr (Or.inr rfl))
    (hd : (x == ("__debug__" : Str)) = false := by decide) (hcd : (x == ("__classdict__" : Str)) = false := by decide) : PE X (.Name x pos) (tX X.K G (fun Z => isF Z i) fun Z => getP Z i) :=
  toX (pe_var hN hv hd hcd) fun _ _ H _ _ _ R c q => let ⟨v, e, h⟩ := R.fr i _ c; ⟨v, e, q v H (Same.refl H) h⟩
theorem xn (i : Nat) {x : Str} (hN : X.N[i]? = some x := by rfl) (hv : Vis X.env.scope x := by first | exact Or.inl rfl | exact Or.inr (Or.inl rfl) | exact Or.inr (Or.inr rfl))
    (hd : (x == ("__debug__" : Str)) = false := by decide) (hcd : (x == ("__classdict__" : Str)) = false := by decide) : PE X (.Name x pos) (tXI X.K G (fun Z => isI Z i) fun Z => getI Z i) :=
  toX (pe_var hN hv hd hcd) fun _ _ H _ _ _ R c q => let ⟨v, e, h⟩ := R.fr i _ c; ⟨v, e, q v H (Same.refl H) h⟩
theorem xl (i : Nat) {x : Str} (hN : X.N[i]? = some x := by rfl) (hv : Vis X.env.scope x := by first | exact Or.inl rfl | exact Or.inr (Or.inl rfl) | exact Or.inr (Or.inr rfl))
    (hd : (x == ("__debug__" : Str)) = false := by decide) (hcd : (x == ("__classdict__" : Str)) = false := by decide) : PE X (.Name x pos) (tXL X.K G (fun Z => isL Z i) fun Z => getL Z i) :=
  toX (pe_var hN hv hd hcd) fun _ _ H _ _ _ R c q => let ⟨v, e, h⟩ := R.fr i _ c; ⟨v, e, q v H (Same.refl H) h⟩
theorem xr (i : Nat) {x : Str} (hN : X.N[i]? = some x := by rfl) (hv : Vis X.env.scope x := by first | exact Or.inl rfl | exact Or.inr (Or.inl rfl) | exact Or.inr (Or.inr rfl))
    (hd : (x == ("__debug__" : Str)) = false := by decide) (hcd : (x == ("__classdict__" : Str)) = false := by decide) : PE X (.Name x pos) (tX X.K G (fun Z => Z[i]? = some (.fr (.scr (getL Z i)))) fun Z => .scr (getL Z i)) :=
  toX (pe_var hN hv hd hcd) fun _ _ H _ _ _ R c q => let ⟨v, e, h⟩ := R.fr i _ c; ⟨v, e, q v H (Same.refl H) h⟩
theorem two {r : R2} {ga gb : En -> PV} {σ : L2.St} {H : Hp} {B : Bs} {Z : En} {O : Addr -> Bool} {Q : VK} (R : Rep X.K G B σ H Z O) (ca : Ca Z) (cb : Cb Z) (q : ∀ v u H1 H2, Same H H1 -> Same H1 H2 -> At X.K G (mn H2 O) (ga Z) v -> At X.K G (mn H2 O) (gb Z) u -> r v u H2 Q) :
    tOp r (tX X.K G Ca ga) (tX X.K G Cb gb) σ H Q :=
  ⟨B, Z, O, R, ca, fun v H1 s1 a1 => ⟨B, Z, O, R.grow s1, cb, fun u H2 s2 a2 => q v u H1 H2 s1 s2 (At.mono (mn_same s2) _ _ a1) a2⟩⟩
theorem xn_op {op : Operator} {C : Int -> Int -> Prop} {g : Int -> Int -> Int} (ho : OpR X (binaryOp op) (rI C fun i j => .int (g i j))) (ha : PE X a (tXI X.K G Ca ga)) (hb : PE X b (tXI X.K G Cb gb)) :
    PE X (.BinOp a op b pos) (tXI X.K G (fun Z => Ca Z /\ Cb Z /\ C (ga Z) (gb Z)) fun Z => g (ga Z) (gb Z)) :=
  toX (pe_op ho ha hb) fun _ _ _ _ _ _ R c q => two R c.1 c.2.1 fun _ _ _ H2 s1 s2 a1 a2 => ⟨_, _, a1, a2, c.2.2, q _ H2 (s1.trans s2) rfl⟩
theorem xn_op0 {op : Operator} {g : Int -> Int -> Int} (ho : OpR X (binaryOp op) (rI0 fun i j => .int (g i j))) (ha : PE X a (tXI X.K G Ca ga)) (hb : PE X b (tXI X.K G Cb gb)) :
    PE X (.BinOp a op b pos) (tXI X.K G (fun Z => Ca Z /\ Cb Z) fun Z => g (ga Z) (gb Z)) :=
  toX (pe_op ho ha hb) fun _ _ _ _ _ _ R c q => two R c.1 c.2 fun _ _ _ H2 s1 s2 a1 a2 => ⟨_, _, a1, a2, q _ H2 (s1.trans s2) rfl⟩
theorem xn_add (ha : PE X a (tXI X.K G Ca ga)) (hb : PE X b (tXI X.K G Cb gb)) : PE X (.BinOp a .Add b pos) (tXI X.K G (fun Z => Ca Z /\ Cb Z) fun Z => ga Z + gb Z) := xn_op0 op_add ha hb
theorem xn_sub (ha : PE X a (tXI X.K G Ca ga)) (hb : PE X b (tXI X.K G Cb gb)) : PE X (.BinOp a .Sub b pos) (tXI X.K G (fun Z => Ca Z /\ Cb Z) fun Z => ga Z - gb Z) := xn_op0 op_sub ha hb
theorem xn_mul (ha : PE X a (tXI X.K G Ca ga)) (hb : PE X b (tXI X.K G Cb gb)) : PE X (.BinOp a .Mult b pos) (tXI X.K G (fun Z => Ca Z /\ Cb Z /\ IntMulOk (ga Z) (gb Z)) fun Z => ga Z * gb Z) := xn_op op_mulB ha hb
theorem xn_mod (ha : PE X a (tXI X.K G Ca ga)) (hb : PE X b (tXI X.K G Cb gb)) : PE X (.BinOp a .Mod b pos) (tXI X.K G (fun Z => Ca Z /\ Cb Z /\ 0 < gb Z) fun Z => ga Z % gb Z) := xn_op op_mod ha hb
theorem xn_div (ha : PE X a (tXI X.K G Ca ga)) (hb : PE X b (tXI X.K G Cb gb)) : PE X (.BinOp a .FloorDiv b pos) (tXI X.K G (fun Z => Ca Z /\ Cb Z /\ CDivB (ga Z) (gb Z)) fun Z => ga Z / gb Z) := xn_op op_fdivB ha hb
theorem xn_neg (ha : PE X a (tXI X.K G Ca ga)) : PE X (.UnaryOp .USub a pos) (tXI X.K G Ca fun Z => -ga Z) :=
  toX (pe_un un_neg ha) fun B _ _ Z O _ R c q => ⟨B, Z, O, R, c, fun _ H1 s1 a1 => ⟨_, a1, q _ H1 s1 rfl⟩⟩
theorem xt_cmp {op : CmpOp} {p : Int -> Int -> Prop} [∀ i j, Decidable (p i j)] (ho : OpR X (compareOp op) (rI0 fun i j => .bl (decide (p i j)))) (hm : behindInMarks op b = false) (ha : PE X a (tXI X.K G Ca ga)) (hb : PE X b (tXI X.K G Cb gb)) :
    PT X (.Compare a [op] [b] pos) (tXT X.K G (fun Z => Ca Z /\ Cb Z) fun Z => p (ga Z) (gb Z)) :=
  fun pins s σ H Q I ⟨_, _, _, R, c, q⟩ => pt_cmpR ho ha hb hm pins s σ H Q I (two R c.1 c.2 fun _ _ _ H2 s1 s2 a1 a2 => ⟨_, _, a1, a2, _, rfl, q H2 (s1.trans s2)⟩)
theorem xe_cmp {op : CmpOp} {p : Int -> Int -> Prop} [∀ i j, Decidable (p i j)] (ho : OpR X (compareOp op) (rI0 fun i j => .bl (decide (p i j)))) (hm : behindInMarks op b = false) (ha : PE X a (tXI X.K G Ca ga)) (hb : PE X b (tXI X.K G Cb gb)) :
    PE X (.Compare a [op] [b] pos) (tXB X.K G (fun Z => Ca Z /\ Cb Z) fun Z => p (ga Z) (gb Z)) :=
  toX (pe_cmpR ho ha hb hm) fun _ _ _ _ _ _ R c q => two R c.1 c.2 fun _ _ _ H2 s1 s2 a1 a2 => ⟨_, _, a1, a2, q _ H2 (s1.trans s2) rfl⟩
theorem xt_lt (ha : PE X a (tXI X.K G Ca ga)) (hb : PE X b (tXI X.K G Cb gb)) : PT X (.Compare a [.Lt] [b] pos) (tXT X.K G (fun Z => Ca Z /\ Cb Z) fun Z => ga Z < gb Z) := xt_cmp op_lt (nomark _) ha hb
theorem xt_le (ha : PE X a (tXI X.K G Ca ga)) (hb : PE X b (tXI X.K G Cb gb)) : PT X (.Compare a [.LtE] [b] pos) (tXT X.K G (fun Z => Ca Z /\ Cb Z) fun Z => ga Z <= gb Z) := xt_cmp op_le (nomark _) ha hb
theorem xt_gt (ha : PE X a (tXI X.K G Ca ga)) (hb : PE X b (tXI X.K G Cb gb)) : PT X (.Compare a [.Gt] [b] pos) (tXT X.K G (fun Z => Ca Z /\ Cb Z) fun Z => gb Z < ga Z) := xt_cmp (p := fun i j => j < i) op_gt (nomark _) ha hb
theorem xt_ge (ha : PE X a (tXI X.K G Ca ga)) (hb : PE X b (tXI X.K G Cb gb)) : PT X (.Compare a [.GtE] [b] pos) (tXT X.K G (fun Z => Ca Z /\ Cb Z) fun Z => gb Z <= ga Z) := xt_cmp (p := fun i j => j <= i) op_ge (nomark _) ha hb
theorem xt_eq (ha : PE X a (tXI X.K G Ca ga)) (hb : PE X b (tXI X.K G Cb gb)) : PT X (.Compare a [.Eq] [b] pos) (tXT X.K G (fun Z => Ca Z /\ Cb Z) fun Z => ga Z = gb Z) := xt_cmp op_eqI (nomark _) ha hb
theorem xt_ne (ha : PE X a (tXI X.K G Ca ga)) (hb : PE X b (tXI X.K G Cb gb)) : PT X (.Compare a [.NotEq] [b] pos) (tXT X.K G (fun Z => Ca Z /\ Cb Z) fun Z => ¬ ga Z = gb Z) := xt_cmp (p := fun i j => ¬ i = j) op_neI (nomark _) ha hb
theorem xe_ne (ha : PE X a (tXI X.K G Ca ga)) (hb : PE X b (tXI X.K G Cb gb)) : PE X (.Compare a [.NotEq] [b] pos) (tXB X.K G (fun Z => Ca Z /\ Cb Z) fun Z => ¬ ga Z = gb Z) := xe_cmp (p := fun i j => ¬ i = j) op_neI (nomark _) ha hb
variable {pa pb : En -> Prop} [∀ Z, Decidable (pa Z)] [∀ Z, Decidable (pb Z)] {rest : List Expr}
theorem xt_V {e : Expr} (h : PE X e (tXB X.K G Ca pa)) (he : ∀ whole, isTrue e X.env whole = (do let v <- whole; standAt e.pos; holding [v] (truthy v)) := by intro _; rfl) : PT X e (tXT X.K G Ca pa) :=
  fun pins s σ H Q I ⟨B, Z, O, R, c, q⟩ => pt_val h he pins s σ H Q I ⟨B, Z, O, R, c, fun _ H1 s1 a1 => ⟨_, a1, q H1 s1⟩⟩
theorem xt_not (ha : PT X a (tXT X.K G Ca pa)) : PT X (.UnaryOp .Not a pos) (tXT X.K G Ca fun Z => ¬ pa Z) :=
  fun pins s σ H Q I ⟨B, Z, O, R, c, q⟩ => L2.pt_not ha pins s σ H Q I ⟨B, Z, O, R, c, fun H1 s1 => by have z := q H1 s1; rw [decide_not] at z; exact z⟩
theorem xw_or1 (ha : PT X a (tXT X.K G Ca pa)) : PW X (.BoolOp .Or [a] pos) (tXT X.K G Ca pa) := pw_or1 ha
theorem xw_and1 (ha : PT X a (tXT X.K G Ca pa)) : PW X (.BoolOp .And [a] pos) (tXT X.K G Ca pa) := pw_and1 ha
theorem xw_or (ha : PT X a (tXT X.K G Ca pa)) (hb : PW X (.BoolOp .Or (b :: rest) pos) (tXT X.K G Cb pb)) : PW X (.BoolOp .Or (a :: b :: rest) pos) (tXT X.K G (fun Z => Ca Z /\ (¬ pa Z -> Cb Z)) fun Z => pa Z \/ pb Z) :=
  fun wh pins s σ H Q I ⟨B, Z, O, R, c, q⟩ => pw_or ha hb wh pins s σ H Q I ⟨B, Z, O, R, c.1, fun H1 s1 => by
    by_cases d : pa Z
    . have z := q H1 s1
      rw [decide_eq_true (Or.inl d : pa Z \/ pb Z)] at z
      rw [decide_eq_true d]; refine iteT ?_; exact z
    . rw [decide_eq_false d]; refine iteF ?_
      refine ⟨B, Z, O, R.grow s1, c.2 d, fun H2 s2 => ?_⟩
      have z := q H2 (s1.trans s2)
      have e : decide (pa Z \/ pb Z) = decide (pb Z) := by simp [d]
      rw [e] at z; exact z⟩
theorem xw_and (ha : PT X a (tXT X.K G Ca pa)) (hb : PW X (.BoolOp .And (b :: rest) pos) (tXT X.K G Cb pb)) : PW X (.BoolOp .And (a :: b :: rest) pos) (tXT X.K G (fun Z => Ca Z /\ (pa Z -> Cb Z)) fun Z => pa Z /\ pb Z) :=
  fun wh pins s σ H Q I ⟨B, Z, O, R, c, q⟩ => pw_and ha hb wh pins s σ H Q I ⟨B, Z, O, R, c.1, fun H1 s1 => by
    by_cases d : pa Z
    . rw [decide_eq_true d]; refine iteT ?_
      refine ⟨B, Z, O, R.grow s1, c.2 d, fun H2 s2 => ?_⟩
      have z := q H2 (s1.trans s2)
      have e : decide (pa Z /\ pb Z) = decide (pb Z) := by simp [d]
      rw [e] at z; exact z
    . have z := q H1 s1
      rw [decide_eq_false (fun y => d y.1 : ¬ (pa Z /\ pb Z))] at z
      rw [decide_eq_false d]; refine iteF ?_; exact z⟩
theorem xe_not (ha : PE X a (tXB X.K G Ca pa)) : PE X (.UnaryOp .Not a pos) (tXB X.K G Ca fun Z => ¬ pa Z) :=
  toX (pe_not ha) fun B _ _ Z O _ R c q => ⟨B, Z, O, R, c, fun _ H1 s1 a1 => ⟨_, a1, q _ H1 s1 (by rw [decide_not]; rfl)⟩⟩
theorem xe_and (ha : PE X a (tXB X.K G Ca pa)) (hb : PE X (.BoolOp .And (b :: rest) pos) (tXB X.K G Cb pb)) : PE X (.BoolOp .And (a :: b :: rest) pos) (tXB X.K G (fun Z => Ca Z /\ (pa Z -> Cb Z)) fun Z => pa Z /\ pb Z) :=
  toX (pe_and ha hb) fun B _ _ Z O _ R c q => ⟨B, Z, O, R, c.1, fun _ H1 s1 a1 => ⟨_, a1, by
    by_cases d : pa Z
    . rw [decide_eq_true d]; refine iteT ?_
      refine ⟨B, Z, O, R.grow s1, c.2 d, fun v H2 s2 a2 => q v H2 (s1.trans s2) ?_⟩
      have e : decide (pa Z /\ pb Z) = decide (pb Z) := by simp [d]
      rw [e]; exact a2
    . have z := q (.bl false) H1 s1 (by rw [decide_eq_false (fun y => d y.1 : ¬ (pa Z /\ pb Z))]; rfl)
      rw [decide_eq_false d]; refine iteF ?_; exact z⟩⟩
variable {es : List Expr} {gs : En -> List PV}
theorem xa_nil : PA X [] (tXs X.K G (fun _ => True) fun _ => []) := fun pos pins s σ H Q I ⟨_, _, _, _, _, q⟩ => pa_nil pos pins s σ H Q I (q [] H (Same.refl H) rfl)
theorem xa_cons (ha : PE X e (tX X.K G Ca g)) (hr : PA X es (tXs X.K G Cb gs)) (hs : starEach (e :: es) X.env = (false, eval e X.env) :: starEach es X.env := by rfl) : PA X (e :: es) (tXs X.K G (fun Z => Ca Z /\ Cb Z) fun Z => g Z :: gs Z) :=
  fun pos pins s σ H Q I ⟨B, Z, O, R, c, q⟩ => pa_cons ha hr hs pos pins s σ H Q I ⟨B, Z, O, R, c.1, fun v H1 s1 a1 => ⟨B, Z, O, R.grow s1, c.2, fun vs H2 s2 a2 => q _ H2 (s1.trans s2) ⟨v, vs, rfl, At.mono (mn_same s2) _ _ a1, a2⟩⟩⟩
end
structure Ps where
  nx : En -> Prop
  rt : PV -> Prop
  rl : List Int -> Prop := fun _ => False
  rn : PV -> Prop := fun _ => False
  bk : En -> Prop := fun _ => False
  ct : En -> Prop := fun _ => False
  er : Addr -> Prop := fun _ => False
abbrev ER := Addr -> Hp -> Prop
abbrev ER0 : ER := fun _ _ => False
abbrev FS := Ps -> En -> Prop
def RepE (K : PySem.W.Frag) (G : Gx) (B : Bs) (σ : L2.St) (H : Hp) (Z : En) : Prop := ∃ O, Rep K G B σ H Z O
structure Owe (K : PySem.W.Frag) (G : Gx) (Er : ER) (B : Bs) (P : Ps) (D : Ends) : Prop where
  nx : ∀ σ H Z, RepE K G B σ H Z -> P.nx Z -> D.nx σ H
  rt : ∀ v H p, Same B.H0 H -> At K G (mn H B.Oc) p v -> P.rt p -> D.rt v H
  rl : ∀ a H ns, Same B.H0 H -> B.H0 a = none -> H a = some (.lst (ns.map V.int)) -> P.rl ns -> D.rt (.ref a) H
  rn : ∀ v H p, Same B.H0 H -> At K G (mn H fun a => (B.H0 a).isSome) p v -> P.rn p -> D.rt v H
  bk : ∀ σ H Z, RepE K G B σ H Z -> P.bk Z -> D.bk σ H
  ct : ∀ σ H Z, RepE K G B σ H Z -> P.ct Z -> D.ct σ H
  er : ∀ H C, Same B.H0 H -> P.er C -> Er C H
def ts (K : PySem.W.Frag) (G : Gx) (Er : ER) (f : FS) : TS := fun D σ H => ∃ B Z P, RepE K G B σ H Z /\ f P Z /\ Owe K G Er B P D
section
variable {X : Cx} {G : Gx} {Er : ER} {pos : Pos} {st : Stmt} {sts : List Stmt} {f f1 f2 : FS} {C : En -> Prop} {e : Expr} {t : TS}
theorem toS (h : PS X st t) (k : ∀ B σ H Z O P D, Rep X.K G B σ H Z O -> f P Z -> Owe X.K G Er B P D -> t D σ H) : PS X st (ts X.K G Er f) :=
  fun pins s σ H D I ⟨B, Z, P, ⟨O, R⟩, c, w⟩ => h pins s σ H D I (k B σ H Z O P D R c w)
theorem xss_nil : PSs X [] (ts X.K G Er fun P Z => P.nx Z) := fun pins s σ H D I ⟨_, Z, _, R, c, w⟩ => pss_nil pins s σ H D I (w.nx σ H Z R c)
theorem xss_one (h : PS X st (ts X.K G Er f)) : PSs X [st] (ts X.K G Er f) := pss_one h
theorem xss_cons (h1 : PS X st (ts X.K G Er f1)) (h2 : PSs X sts (ts X.K G Er f2)) : PSs X (st :: sts) (ts X.K G Er fun P Z => f1 { P with nx := f2 P } Z) :=
  fun pins s σ H D I ⟨B, Z, P, R, c, w⟩ => pss_cons h1 h2 pins s σ H D I ⟨B, Z, { P with nx := f2 P }, R, c, ⟨fun _ _ Z' R' c' => ⟨B, Z', P, R', c', w⟩, w.rt, w.rl, w.rn, w.bk, w.ct, w.er⟩⟩
theorem xss_join (h1 : PS X st (ts X.K G Er f1)) (h2 : PSs X sts (ts X.K G Er f2)) : PSs X (st :: sts) (ts X.K G Er fun P Z => ∃ J : En -> Prop, f1 { P with nx := J } Z /\ ∀ Z', J Z' -> f2 P Z') :=
  fun pins s σ H D I ⟨B, Z, P, R, ⟨J, c, k⟩, w⟩ => pss_cons h1 h2 pins s σ H D I ⟨B, Z, { P with nx := J }, R, c, ⟨fun _ _ Z' R' c' => ⟨B, Z', P, R', k Z' c', w⟩, w.rt, w.rl, w.rn, w.bk, w.ct, w.er⟩⟩
theorem xss_freeze (i : Nat) (h : PSs X sts (ts X.K G Er f)) : PSs X sts (ts X.K G Er fun P Z => f P (frz Z i)) :=
  fun pins s σ H D I ⟨B, Z, P, ⟨_, R⟩, c, w⟩ => h pins s σ H D I ⟨B, frz Z i, P, R.freeze i, c, w⟩
theorem xst_never : PS X st (ts X.K G Er fun _ _ => False) := toS ps_never fun _ _ _ _ _ _ _ _ c _ => c
theorem xst_ret {g : En -> PV} (h : PE X e (tX X.K G C g)) : PS X (.Return (some e) pos) (ts X.K G Er fun P Z => C Z /\ P.rt (g Z)) :=
  toS (ps_ret h) fun B _ _ Z O _ _ R c w => ⟨B, Z, O, R, c.1, fun v H1 s1 a1 => w.rt v H1 _ (R.same.trans s1) (At.mono (mn_anti R.hid) _ _ a1) c.2⟩
theorem xst_retl {g : En -> List Int} (h : PE X e (tXl X.K G C g)) : PS X (.Return (some e) pos) (ts X.K G Er fun P Z => C Z /\ P.rl (g Z)) :=
  toS (ps_ret h) fun B _ _ Z O _ _ R c w => ⟨B, Z, O, R, c.1, fun a H1 s1 n1 e1 => w.rl a H1 _ (R.same.trans s1) (R.same.free n1) e1 c.2⟩
theorem xst_retO (i : Nat) {x : Str} {px : Pos} (hN : X.N[i]? = some x := by rfl) (hv : Vis X.env.scope x := by first | exact Or.inl rfl | exact Or.inr (Or.inl rfl) | exact Or.inr (Or.inr rfl))
    (hd : (x == ("__debug__" : Str)) = false := by decide) (hcd : (x == ("__classdict__" : Str)) = false := by decide) : PS X (.Return (some (.Name x px)) pos) (ts X.K G Er fun P Z => isO Z i /\ P.rl (getL Z i)) :=
  toS (ps_ret (pe_var hN hv hd hcd)) fun B _ H Z O _ _ R c w => by
    obtain ⟨a, vs, e1, e2, e3, e4, e5⟩ := R.ow i _ c.1
    have e5 : vs = (getL Z i).map V.int := e5
    subst e5
    exact ⟨_, e1, w.rl a H _ R.same e3 e4 c.2⟩
theorem xst_set {i : Nat} {x : Str} {pos' : Pos} {g : En -> PV} (hN : X.N.Nodup) (hi : X.N[i]? = some x) (hx : Loc X.env.scope x) (he : PE X e (tX X.K G C g)) (hs : swapsWith e (some (.Name x pos')) pos.line X.env = pure false := by rfl)
    (hf : X.fn x = true \/ X.env.scope.names.lookup x = some .local := by first | exact .inl rfl | exact .inr rfl | assumption) : PS X (.Assign [.Name x pos'] e pos) (ts X.K G Er fun P Z => C Z /\ P.nx (Z.set i (.fr (g Z)))) :=
  toS (ps_set hN hi hx he hs hf) fun B σ _ Z O _ _ R c w => ⟨B, Z, O, R, c.1, fun _ H1 s1 a1 => w.nx _ H1 _ ⟨O, (R.grow s1).set a1⟩ c.2⟩
theorem xst_setP {i : Nat} {x : Str} {pos' : Pos} {g : En -> PV} (hN : X.N.Nodup) (hi : X.N[i]? = some x) (hx : Loc X.env.scope x) (he : PE X e (tX X.K G C g)) (hs : swapsWith e (some (.Name x pos')) pos.line X.env = pure false := by rfl)
    (hf : X.fn x = true \/ X.env.scope.names.lookup x = some .local := by first | exact .inl rfl | exact .inr rfl | assumption) : PS X (.Assign [.Name x pos'] e pos) (ts X.K G Er fun P Z => C Z /\ ∀ p, p = g Z -> P.nx (Z.set i (.fr p))) :=
  toS (xst_set hN hi hx he hs hf) fun B σ _ Z O P D R c w => ⟨B, Z, P, ⟨O, R⟩, ⟨c.1, c.2 _ rfl⟩, w⟩
theorem xst_setI {i : Nat} {x : Str} {pos' : Pos} {g : En -> Int} (hN : X.N.Nodup) (hi : X.N[i]? = some x) (hx : Loc X.env.scope x) (he : PE X e (tXI X.K G C g)) (hs : swapsWith e (some (.Name x pos')) pos.line X.env = pure false := by rfl)
    (hf : X.fn x = true \/ X.env.scope.names.lookup x = some .local := by first | exact .inl rfl | exact .inr rfl | assumption) : PS X (.Assign [.Name x pos'] e pos) (ts X.K G Er fun P Z => C Z /\ ∀ n, n = g Z -> P.nx (Z.set i (.fr (.int n)))) :=
  toS (xst_set hN hi hx he hs hf) fun B σ _ Z O P D R c w => ⟨B, Z, P, ⟨O, R⟩, ⟨c.1, c.2 _ rfl⟩, w⟩
theorem xst_setL {i : Nat} {x : Str} {pos' : Pos} {g : En -> List Int} (hN : X.N.Nodup) (hi : X.N[i]? = some x) (hx : Loc X.env.scope x) (he : PE X e (tXL X.K G C g)) (hs : swapsWith e (some (.Name x pos')) pos.line X.env = pure false := by rfl)
    (hf : X.fn x = true \/ X.env.scope.names.lookup x = some .local := by first | exact .inl rfl | exact .inr rfl | assumption) : PS X (.Assign [.Name x pos'] e pos) (ts X.K G Er fun P Z => C Z /\ ∀ ns, ns = g Z -> P.nx (Z.set i (.fr (.ints ns)))) :=
  toS (xst_set hN hi hx he hs hf) fun B σ _ Z O P D R c w => ⟨B, Z, P, ⟨O, R⟩, ⟨c.1, c.2 _ rfl⟩, w⟩
theorem xst_own {i : Nat} {x : Str} {pos' : Pos} {g : En -> List Int} (hN : X.N.Nodup) (hi : X.N[i]? = some x) (hx : Loc X.env.scope x) (he : PE X e (tXl X.K G C g)) (hs : swapsWith e (some (.Name x pos')) pos.line X.env = pure false := by rfl)
    (hf : X.fn x = true \/ X.env.scope.names.lookup x = some .local := by first | exact .inl rfl | exact .inr rfl | assumption) : PS X (.Assign [.Name x pos'] e pos) (ts X.K G Er fun P Z => C Z /\ ∀ ns, ns = g Z -> P.nx (Z.set i (.ow (.ints ns)))) :=
  toS (ps_set hN hi hx he hs hf) fun B σ _ Z O _ _ R c w => ⟨B, Z, O, R, c.1, fun a H1 s1 n1 e1 => w.nx _ H1 _ ⟨hide a O, R.new (p := .ints (g Z)) s1 n1 e1 rfl⟩ (c.2 _ rfl)⟩
theorem xst_ownP {i : Nat} {x : Str} {pos' : Pos} {g : En -> List PV} (hN : X.N.Nodup) (hi : X.N[i]? = some x) (hx : Loc X.env.scope x) (he : PE X e (tXp X.K G C g)) (hs : swapsWith e (some (.Name x pos')) pos.line X.env = pure false := by rfl)
    (hf : X.fn x = true \/ X.env.scope.names.lookup x = some .local := by first | exact .inl rfl | exact .inr rfl | assumption) : PS X (.Assign [.Name x pos'] e pos) (ts X.K G Er fun P Z => C Z /\ ∀ ns, ns = g Z -> P.nx (Z.set i (.ow (.lst ns)))) :=
  toS (ps_set hN hi hx he hs hf) fun B σ _ Z O _ _ R c w => ⟨B, Z, O, R, c.1, fun a vs H1 s1 n1 e1 al => w.nx _ H1 _ ⟨hide a O, R.new (p := .lst (g Z)) s1 n1 e1 al⟩ (c.2 _ rfl)⟩
theorem xst_aug {i : Nat} {x : Str} {op : Operator} {pos' : Pos} {g : En -> Int} {Pr : Int -> Int -> Prop} {h : Int -> Int -> Int} (hN : X.N.Nodup) (hi : X.N[i]? = some x) (hx : Loc X.env.scope x) (he : PE X e (tXI X.K G C g)) (ho : OpR X (inplaceOp op) (rI Pr fun i j => .int (h i j)))
    (hf : X.fn x = true \/ X.env.scope.names.lookup x = some .local := by first | exact .inl rfl | exact .inr rfl | assumption) : PS X (.AugAssign (.Name x pos') op e pos) (ts X.K G Er fun P Z => isI Z i /\ C Z /\ Pr (getI Z i) (g Z) /\ ∀ n, n = h (getI Z i) (g Z) -> P.nx (Z.set i (.fr (.int n)))) :=
  toS (ps_aug hN hi hx he ho hf) fun B σ H Z O _ _ R c w => by
    obtain ⟨c0, c1, c2, c3⟩ := c
    obtain ⟨v, e1, e2⟩ := R.fr i _ c0
    have e2 : v = .int (getI Z i) := e2
    subst e2
    exact ⟨_, e1, B, Z, O, R, c1, fun y H1 s1 a1 => ⟨_, _, rfl, a1, c2, w.nx _ H1 _ ⟨O, (R.grow s1).set (p := .int _) rfl⟩ (c3 _ rfl)⟩⟩
theorem xst_if {c : Expr} {a b : List Stmt} {p : En -> Prop} [∀ Z, Decidable (p Z)] (hc : PT X c (tXT X.K G C p)) (ha : PSs X a (ts X.K G Er f1)) (hb : PSs X b (ts X.K G Er f2)) : PS X (.If c a b pos) (ts X.K G Er fun P Z => C Z /\ (p Z -> f1 P Z) /\ (¬ p Z -> f2 P Z)) :=
  toS (ps_if hc ha hb) fun B σ _ Z O P D R c w => ⟨B, Z, O, R, c.1, fun H1 s1 => by
    by_cases d : p Z
    . rw [decide_eq_true d]; refine iteT ?_; exact ⟨B, Z, P, ⟨O, R.grow s1⟩, c.2.1 d, w⟩
    . rw [decide_eq_false d]; refine iteF ?_; exact ⟨B, Z, P, ⟨O, R.grow s1⟩, c.2.2 d, w⟩⟩
theorem xst_while {c : Expr} {body : List Stmt} {p : En -> Prop} [∀ Z, Decidable (p Z)] (hp : PassesOwn (model X.prog X.w) X.A X.env X.xe) (hc : PT X c (tXT X.K G C p)) (hb : PSs X body (ts X.K G Er f)) :
    PS X (.While c body [] pos) (ts X.K G Er fun P Z => ∃ (W : En -> Prop) (μ : En -> Nat), W Z /\ ∀ Z, W Z -> C Z /\ (p Z -> f { P with nx := fun Z' => W Z' /\ μ Z' < μ Z, ct := fun Z' => W Z' /\ μ Z' < μ Z, bk := P.nx } Z) /\ (¬ p Z -> P.nx Z)) :=
  toS (ps_while hp hc hb) fun B σ H Z O P D R c w => by
    obtain ⟨W, μ, w0, st⟩ := c
    refine ⟨fun m σ H => ∃ Z, RepE X.K G B σ H Z /\ W Z /\ m = μ Z, ⟨μ Z, Z, ⟨O, R⟩, w0, rfl⟩, ?_⟩
    rintro m σ H ⟨Z, ⟨O, R⟩, hw, rfl⟩
    obtain ⟨c1, c2, c3⟩ := st Z hw
    refine ⟨B, Z, O, R, c1, fun H1 s1 => ?_⟩
    by_cases d : p Z
    . rw [decide_eq_true d]; refine iteT ?_
      refine ⟨fun σ' H' => ∃ Z', RepE X.K G B σ' H' Z' /\ W Z' /\ μ Z' < μ Z, fun σ' H' ⟨Z', R', h1, h2⟩ => ⟨_, h2, Z', R', h1, rfl⟩, B, Z, _, ⟨O, R.grow s1⟩, c2 d, ⟨fun σ' H' Z' R' h => ⟨Z', R', h⟩, w.rt, w.rl, w.rn, w.nx, fun σ' H' Z' R' h => ⟨Z', R', h⟩, w.er⟩⟩
    . rw [decide_eq_false d]; refine iteF ?_; exact w.nx σ H1 Z ⟨O, R.grow s1⟩ (c3 d)
theorem xst_forR {k : Nat} {x : Str} {a : Expr} {body : List Stmt} {g : En -> Int} {p px pos' : Pos} (hp : PassesOwn (model X.prog X.w) X.A X.env X.xe) (hc : X.calm = true) (hg : Gl X "range") (hm : X.mg "range" = none) (ha : PE X a (tXI X.K G C g)) (hN : X.N.Nodup) (hi : X.N[k]? = some x) (hx : Loc X.env.scope x)
    (hb : PSs X body (ts X.K G Er f)) (hs : starEach [a] X.env = [(false, eval a X.env)] := by rfl) (hfs : ∀ x, foldedSetIterable (.Call (.Name "range" p) [a] [] pos') X.env x = pure x := by intro _; rfl)
    (hf : X.fn x = true \/ X.env.scope.names.lookup x = some .local := by first | exact .inl rfl | exact .inr rfl | assumption) :
    PS X (.For (.Name x px) (.Call (.Name "range" p) [a] [] pos') body [] pos) (ts X.K G Er fun P Z => C Z /\ (-(2 ^ 62) <= g Z /\ g Z < 2 ^ 62) /\ ∃ W : Nat -> En -> Prop, W 0 Z /\ (∀ i Z', i < (g Z).toNat -> W i Z' -> f { P with nx := W (i + 1), ct := W (i + 1), bk := P.nx } (Z'.set k (.fr (.int i)))) /\ ∀ Z', W (g Z).toNat Z' -> P.nx Z') :=
  toS (ps_for hp hc (pi_range1 hg hm (pa_cons ha pa_nil hs) hs) (pg_name hN hi hx hf) hb hfs) fun B σ H Z O P D R c w => by
    obtain ⟨c1, ⟨l1, l2⟩, W, w0, st, nd⟩ := c
    refine ⟨B, Z, O, R, c1, fun v H1 s1 a1 => ?_⟩
    have a1 : v = .int (g Z) := a1
    subst a1
    refine ⟨g Z, rfl, l1, l2, for_range (fun i σ H => ∃ Z', RepE X.K G B σ H Z' /\ W i Z') ⟨Z, ⟨O, R.grow s1⟩, w0⟩ ?_ ?_⟩
    . rintro i σ H hi ⟨Z', ⟨O', R'⟩, hw⟩
      have e : (0 : Int) + i = i := by omega
      rw [e]
      exact ⟨B, _, _, ⟨O', R'.set (p := .int i) rfl⟩, st i Z' hi hw, ⟨fun σ' H' Z' R' h => ⟨Z', R', h⟩, w.rt, w.rl, w.rn, w.nx, fun σ' H' Z' R' h => ⟨Z', R', h⟩, w.er⟩⟩
    . rintro σ H ⟨Z', R', hw⟩
      exact w.nx σ H Z' R' (nd Z' hw)
theorem owe_base {B : Bs} {σ : L2.St} {H : Hp} {Z : En} {O : Addr -> Bool} {K : PySem.W.Frag} {P : Ps} {D : Ends} (R : Rep K G B σ H Z O) (w : Owe K G Er B P D) : Owe K G Er (B.at H O) P D :=
  ⟨fun σ' H' Z' ⟨O', R'⟩ h => w.nx σ' H' Z' ⟨O', R.unbase R'⟩ h, fun v H' p s a h => w.rt v H' p (R.base_le.trans s) a h, fun a H' ns s n e h => w.rl a H' ns (R.base_le.trans s) (R.base_le.free n) e h, fun v H' p s a h => w.rn v H' p (R.base_le.trans s) (At.mono (mn_anti fun b z => by
    obtain ⟨o, e⟩ := Option.isSome_iff_exists.mp z
    exact Option.isSome_iff_exists.mpr (R.base_le _ _ e).some) _ _ a) h, fun σ' H' Z' ⟨O', R'⟩ h => w.bk σ' H' Z' ⟨O', R.unbase R'⟩ h, fun σ' H' Z' ⟨O', R'⟩ h => w.ct σ' H' Z' ⟨O', R.unbase R'⟩ h, fun H' C s h => w.er H' C (R.base_le.trans s) h⟩
theorem xst_forL {k : Nat} {x : Str} {l : Expr} {body : List Stmt} {g : En -> List Int} {px : Pos} (hp : PassesOwn (model X.prog X.w) X.A X.env X.xe) (hc : X.calm = true) (hl : PE X l (tXL X.K G C g)) (hN : X.N.Nodup) (hi : X.N[k]? = some x) (hx : Loc X.env.scope x)
    (hb : PSs X body (ts X.K G Er f)) (hfs : ∀ x, foldedSetIterable l X.env x = pure x := by intro _; rfl) (hf : X.fn x = true \/ X.env.scope.names.lookup x = some .local := by first | exact .inl rfl | exact .inr rfl | assumption) :
    PS X (.For (.Name x px) l body [] pos) (ts X.K G Er fun P Z => C Z /\ ∃ W : Nat -> En -> Prop, W 0 Z /\ (∀ i n Z', (g Z)[i]? = some n -> W i Z' -> f { P with nx := W (i + 1), ct := W (i + 1), bk := P.nx } (Z'.set k (.fr (.int n)))) /\ ∀ Z', W (g Z).length Z' -> P.nx Z') :=
  toS (ps_for hp hc (pi_list hl) (pg_name hN hi hx hf) hb hfs) fun B σ H Z O P D R c w => by
    obtain ⟨c1, W, w0, st, nd⟩ := c
    refine ⟨B, Z, O, R, c1, fun v H1 s1 a1 => ?_⟩
    obtain ⟨a, e, hq⟩ := a1
    have R1 := R.grow s1
    have w1 := owe_base R1 w
    refine ⟨a, e, ⟨_, .inl (same_rd mn_le hq)⟩, for_list (xs := (g Z).map V.int) (fun i σ H => ∃ Z', RepE X.K G (B.at H1 O) σ H Z' /\ W i Z') ⟨Z, ⟨O, R1.rebase⟩, w0⟩ ?_ ?_ ?_⟩
    . rintro i σ H _ ⟨Z', ⟨O', R'⟩, _⟩
      exact .inl (same_rd ((Rep.base_mn B H1 O).trans R'.same) hq)
    . rintro i y σ H hy ⟨Z', ⟨O', R'⟩, hw⟩
      rw [List.getElem?_map] at hy
      cases en : (g Z)[i]? with
      | none => rw [en] at hy; cases hy
      | some n =>
        rw [en] at hy
        have hy : V.int n = y := Option.some.inj hy
        subst hy
        exact ⟨_, _, _, ⟨O', R'.set (p := .int n) rfl⟩, st i n Z' en hw, ⟨fun σ' H' Z' R' h => ⟨Z', R', h⟩, w1.rt, w1.rl, w1.rn, w1.nx, fun σ' H' Z' R' h => ⟨Z', R', h⟩, w1.er⟩⟩
    . rintro σ H ⟨Z', R', hw⟩
      rw [List.length_map] at hw
      exact w1.nx σ H Z' R' (nd Z' hw)
theorem xst_forE {k j : Nat} {x y : Str} {l : Expr} {body : List Stmt} {g : En -> List Int} {px py p pos' tp : Pos} {kk : Nat} (hp : PassesOwn (model X.prog X.w) X.A X.env X.xe) (hc : X.calm = true) (hg : Gl X "enumerate") (hm : X.mg "enumerate" = none) (hl : PE X l (tXL X.K G C g))
    (hgt : PG X (.Tuple [.Name x px, .Name y py] kk tp) (gTup X.K 2 (gCons (gName k) (gCons (gName j) gNil)))) (hb : PSs X body (ts X.K G Er f)) (hs : starEach [l] X.env = [(false, eval l X.env)] := by rfl)
    (hfs : ∀ x, foldedSetIterable (.Call (.Name "enumerate" p) [l] [] pos') X.env x = pure x := by intro _; rfl) :
    PS X (.For (.Tuple [.Name x px, .Name y py] kk tp) (.Call (.Name "enumerate" p) [l] [] pos') body [] pos) (ts X.K G Er fun P Z => C Z /\ ∃ W : Nat -> En -> Prop, W 0 Z /\
      (∀ i n Z', (g Z)[i]? = some n -> W i Z' -> f { P with nx := W (i + 1), ct := W (i + 1), bk := P.nx } ((Z'.set k (.fr (.int i))).set j (.fr (.int n)))) /\ ∀ Z', W (g Z).length Z' -> P.nx Z') :=
  toS (ps_for hp hc (pi_enum hg hm (pa_cons hl pa_nil hs) hs) hgt hb hfs) fun B σ H Z O P D R c w => by
    obtain ⟨c1, W, w0, st, nd⟩ := c
    refine ⟨B, Z, O, R, c1, fun v H1 s1 a1 => ?_⟩
    obtain ⟨a, e, hq⟩ := a1
    subst e
    have R1 := R.grow s1
    have w1 := owe_base R1 w
    refine ⟨a, rfl, ⟨_, .inl (same_rd mn_le hq)⟩, for_enum (xs := (g Z).map V.int) (fun i σ H => ∃ Z', RepE X.K G (B.at H1 O) σ H Z' /\ W i Z') ⟨Z, ⟨O, R1.rebase⟩, w0⟩ ?_ ?_ ?_⟩
    . rintro i σ H _ ⟨Z', ⟨O', R'⟩, _⟩
      exact .inl (same_rd ((Rep.base_mn B H1 O).trans R'.same) hq)
    . rintro i y σ H T hy ⟨Z', ⟨O', R'⟩, hw⟩ hT
      obtain ⟨n, rfl, en⟩ := int_at hy
      refine ⟨T, _, rfl, SqT.of upd_same, rfl, _, _, rfl, _, _, rfl, rfl, ?_⟩
      exact ⟨_, _, _, ⟨O', ((R'.grow (same_new hT _)).set (p := .int i) rfl).set (p := .int n) rfl⟩, st i n Z' en hw, ⟨fun σ' H' Z' R' h => ⟨Z', R', h⟩, w1.rt, w1.rl, w1.rn, w1.nx, fun σ' H' Z' R' h => ⟨Z', R', h⟩, w1.er⟩⟩
    . rintro σ H ⟨Z', R', hw⟩
      rw [List.length_map] at hw
      exact w1.nx σ H Z' R' (nd Z' hw)
end
theorem getD_at {ns : List Int} {i : Int} (h1 : -(ns.length : Int) <= i) (h2 : i < ns.length) : atI (ns.map V.int) i = some (V.int (ns.getD (if 0 <= i then i else i + ns.length).toNat 0)) := by
  by_cases c0 : 0 <= i
  . rw [if_pos c0]; exact atI_int c0 h2
  . rw [if_neg c0]
    have q2 := atI_int (ns := ns) (i := i + ns.length) (by omega) (by omega)
    unfold atI ixN at q2 ⊢
    rw [List.length_map] at q2 ⊢
    rw [if_pos (show 0 <= i + (ns.length : Int) by omega), if_pos (show i + (ns.length : Int) < (ns.length : Int) by omega)] at q2
    rw [if_neg c0, if_pos h1]
    exact q2
def ixO (n : Nat) (i : Int) : Nat := (if 0 <= i then i else i + n).toNat
theorem ixN_ok {n : Nat} {i : Int} (h1 : -(n : Int) <= i) (h2 : i < n) : ixN n i = some (ixO n i) := by
  unfold ixN ixO
  by_cases c : 0 <= i
  . rw [if_pos c, if_pos h2, if_pos c]
  . rw [if_neg c, if_pos h1, if_neg c]
theorem ixO_lt {n : Nat} {i : Int} (h1 : -(n : Int) <= i) (h2 : i < n) : ixO n i < n := by
  unfold ixO
  by_cases c : 0 <= i
  . rw [if_pos c]; omega
  . rw [if_neg c]; omega
section
variable {X : Cx} {G : Gx} {Er : ER} {a b e : Expr} {pos p px : Pos} {C Ca Cb : En -> Prop} {ga gb : En -> Int} {i : Nat} {es : List Expr}
theorem xn_item (i : Nat) {x : Str} (hb : PE X b (tXI X.K G Cb gb)) (hs : PlainIx b) (hN : X.N[i]? = some x := by rfl) (hv : Vis X.env.scope x := by first | exact Or.inl rfl | exact Or.inr (Or.inl rfl) | exact Or.inr (Or.inr rfl))
    (hd : (x == ("__debug__" : Str)) = false := by decide) (hcd : (x == ("__classdict__" : Str)) = false := by decide) :
    PE X (.Subscript (.Name x px) b pos) (tXI X.K G (fun Z => isLO Z i /\ Cb Z /\ -((getL Z i).length : Int) <= gb Z /\ gb Z < ((getL Z i).length : Int)) fun Z => (getL Z i).getD (ixO (getL Z i).length (gb Z)) 0) :=
  toX (pe_ix ix_list (pe_var hN hv hd hcd) hb hs) fun B σ H Z O Q R c q => by
    obtain ⟨a, e1, e2⟩ := R.readL c.1
    exact ⟨_, e1, B, Z, O, R, c.2.1, fun u H1 s1 a1 => ⟨a, _, _, _, rfl, a1, s1.seq e2, getD_at c.2.2.1 c.2.2.2, q _ H1 s1 rfl⟩⟩
theorem xn_len (i : Nat) {x : Str} (hm : X.mg "len" = none) (hN : X.N[i]? = some x := by rfl) (hg : Gl X "len" := by rfl) (hv : Vis X.env.scope x := by first | exact Or.inl rfl | exact Or.inr (Or.inl rfl) | exact Or.inr (Or.inr rfl))
    (hd : (x == ("__debug__" : Str)) = false := by decide) (hcd : (x == ("__classdict__" : Str)) = false := by decide) (he : starEach [.Name x px] X.env = [(false, eval (.Name x px) X.env)] := by rfl) :
    PE X (.Call (.Name "len" p) [.Name x px] [] pos) (tXI X.K G (fun Z => isLO Z i) fun Z => ((getL Z i).length : Int)) :=
  toX (pe_callB call_len_seq hg hm bt_len (pa_cons (pe_var hN hv hd hcd) pa_nil he) (by decide) (by decide) he rfl) fun B σ H Z O Q R c q => by
    obtain ⟨a, e1, e2⟩ := R.readL c
    exact ⟨_, e1, a, _, rfl, .inl e2, by rw [List.length_map]; exact q _ H (Same.refl H) rfl⟩
def lenP : PV -> Int
  | .ints ns => (ns.length : Int)
  | .scr ns => (ns.length : Int)
  | .lst xs => (xs.length : Int)
  | .tup xs => (xs.length : Int)
  | _ => 0
def hasLen : PV -> Prop
  | .ints _ => True
  | .scr _ => True
  | .lst _ => True
  | .tup _ => True
  | _ => False
theorem At.len {K : PySem.W.Frag} {H : Hp} {p : PV} {v : V} (h : At K G H p v) (hl : hasLen p) : ∃ a ys, v = .ref a /\ (SqL K H a ys \/ SqT K H a ys) /\ (ys.length : Int) = lenP p := by
  cases p <;> first | exact hl.elim | skip
  . obtain ⟨a, e, q⟩ := h; exact ⟨a, _, e, .inl (.inl q), by rw [List.length_map]; rfl⟩
  . obtain ⟨a, e, q⟩ := h; exact ⟨a, _, e, .inl q, by rw [List.length_map]; rfl⟩
  . obtain ⟨a, vs, e, q, r⟩ := h; exact ⟨a, vs, e, .inl (.inl q), by rw [<- r.length]; rfl⟩
  . obtain ⟨a, vs, e, q, r⟩ := h; exact ⟨a, vs, e, .inr (SqT.of q), by rw [<- r.length]; rfl⟩
theorem xn_lenP {g : En -> PV} (hm : X.mg "len" = none) (ha : PE X a (tX X.K G C g)) (hg : Gl X "len" := by rfl) (he : starEach [a] X.env = [(false, eval a X.env)] := by rfl) :
    PE X (.Call (.Name "len" p) [a] [] pos) (tXI X.K G (fun Z => C Z /\ hasLen (g Z)) fun Z => lenP (g Z)) :=
  toX (pe_callB call_len_seq hg hm bt_len (pa_cons ha pa_nil he) (by decide) (by decide) he rfl) fun B σ H Z O Q R c q => ⟨B, Z, O, R, c.1, fun v H1 s1 a1 => by
    obtain ⟨a, ys, e, s, l⟩ := a1.len c.2
    exact ⟨a, ys, by rw [e], s.imp (fun z => mn_le.seq z) (fun z => same_tup mn_le z), by rw [l]; exact q _ H1 s1 rfl⟩⟩
def itP : PV -> Int -> PV
  | .lst xs, k => xs.getD (ixO xs.length k) .non
  | .tup xs, k => xs.getD (ixO xs.length k) .non
  | .ints ns, k => .int (ns.getD (ixO ns.length k) 0)
  | _, _ => .non
def hasIt : PV -> Int -> Prop
  | .lst xs, k => -(xs.length : Int) <= k /\ k < xs.length
  | .tup xs, k => -(xs.length : Int) <= k /\ k < xs.length
  | .ints xs, k => -(xs.length : Int) <= k /\ k < xs.length
  | _, _ => False
theorem AtL.item {K : PySem.W.Frag} {H : Hp} {ps : List PV} {vs : List V} {k : Int} (h : AtL K G H ps vs) (h1 : -(ps.length : Int) <= k) (h2 : k < ps.length) : ∃ v, atI vs k = some v /\ At K G H (ps.getD (ixO ps.length k) .non) v := by
  have l := ixO_lt h1 h2
  have e : ps[ixO ps.length k]? = some (ps.getD (ixO ps.length k) .non) := by rw [gQ, List.getElem?_eq_getElem l]; rfl
  obtain ⟨v, ev, av⟩ := h.at e
  refine ⟨v, ?_, av⟩
  unfold atI
  rw [<- h.length, ixN_ok h1 h2]
  exact ev
theorem xp_item {g : En -> PV} (ha : PE X a (tX X.K G Ca g)) (hb : PE X b (tXI X.K G Cb gb)) (hs : PlainIx b) : PE X (.Subscript a b pos) (tX X.K G (fun Z => Ca Z /\ Cb Z /\ hasIt (g Z) (gb Z)) fun Z => itP (g Z) (gb Z)) :=
  toX (pe_ix ix_seq ha hb hs) fun B σ H Z O Q R c q => two R c.1 c.2.1 fun v u H1 H2 s1 s2 a1 a2 => by
    have h := c.2.2
    revert a1 h q
    generalize g Z = pg
    intro q a1 h
    cases pg <;> first | exact h.elim | skip
    . obtain ⟨p, e, r⟩ := a1
      exact .inl ⟨p, _, _, _, e, a2, .inl (same_rd mn_le r), getD_at h.1 h.2, q _ H2 (s1.trans s2) rfl⟩
    . obtain ⟨p, vs, e, r, t⟩ := a1
      obtain ⟨v', e', a'⟩ := t.item h.1 h.2
      exact .inl ⟨p, vs, _, v', e, a2, .inl (same_rd mn_le r), e', q _ H2 (s1.trans s2) a'⟩
    . obtain ⟨p, vs, e, r, t⟩ := a1
      obtain ⟨v', e', a'⟩ := t.item h.1 h.2
      exact .inr (.inl ⟨p, vs, _, v', e, a2, SqT.of (mn_le _ _ r), e', q _ H2 (s1.trans s2) a'⟩)
theorem xt_list (i : Nat) {x : Str} (hN : X.N[i]? = some x := by rfl) (hv : Vis X.env.scope x := by first | exact Or.inl rfl | exact Or.inr (Or.inl rfl) | exact Or.inr (Or.inr rfl))
    (hd : (x == ("__debug__" : Str)) = false := by decide) (hcd : (x == ("__classdict__" : Str)) = false := by decide) : PT X (.Name x pos) (tXT X.K G (fun Z => isLO Z i) fun Z => ¬ getL Z i = []) :=
  fun pins s σ H Q I ⟨B, Z, O, R, c, q⟩ => pt_truth (pe_var hN hv hd hcd) (fun _ => rfl) pins s σ H Q I (by
    obtain ⟨a, e1, e2⟩ := R.readL c
    refine ⟨_, e1, _, .inl ⟨_, e2, rfl⟩, ?_⟩
    have z := q H (Same.refl H)
    have e : (!((getL Z i).map V.int).isEmpty) = decide (¬ getL Z i = []) := by cases getL Z i <;> simp
    rw [e]; exact z)
def allI : List PV -> List Int
  | .int n :: r => n :: allI r
  | _ => []
def areI : List PV -> Prop
  | [] => True
  | .int _ :: r => areI r
  | _ => False
theorem AtL.ints {K : PySem.W.Frag} {H : Hp} : ∀ {ps : List PV} {vs : List V}, AtL K G H ps vs -> areI ps -> vs = (allI ps).map V.int
  | [], _, h, _ => h
  | p :: ps, _, h, c => by
    cases p <;> first | exact c.elim | skip
    obtain ⟨v, r, rfl, e, t⟩ := h
    have e : v = _ := e
    rw [e, AtL.ints t c]
    rfl
theorem xl_lst {gs : En -> List PV} (h : PA X es (tXs X.K G C gs)) (hz : ∀ Z, (gs Z).length <= 1000 := by intro _; exact Nat.le_of_ble_eq_true rfl) : PE X (.List es pos) (tXl X.K G (fun Z => C Z /\ areI (gs Z)) fun Z => allI (gs Z)) :=
  toXl (pe_lst h) fun B σ H Z O Q R c q => ⟨B, Z, O, R, c.1, fun vs H1 s1 a1 => ⟨by rw [<- a1.length]; exact Nat.le_of_lt (small1000 (hz Z)), fun a ha => by
    have e := a1.ints c.2
    refine q a _ (s1.trans (same_new ha _)) (s1.free ha) ?_
    rw [upd_same, e]⟩⟩
theorem xp_lst {gs : En -> List PV} (h : PA X es (tXs X.K G C gs)) (hz : ∀ Z, (gs Z).length <= 1000 := by intro _; exact Nat.le_of_ble_eq_true rfl) : PE X (.List es pos) (tXp X.K G C gs) :=
  fun pins s σ H Q I ⟨B, Z, O, R, c, q⟩ => pe_lst h pins s σ H Q I ⟨B, Z, O, R, c, fun vs H1 s1 a1 => ⟨by rw [<- a1.length]; exact Nat.le_of_lt (small1000 (hz Z)), fun a ha =>
    q a vs _ (s1.trans (same_new ha _)) (s1.free ha) upd_same (AtL.mono (mn_hide (same_new ha _) ha) _ _ a1)⟩⟩
theorem xp_tup {gs : En -> List PV} {x1} (h : PA X es (tXs X.K G C gs)) (hz : ∀ Z, (gs Z).length <= 1000 := by intro _; exact Nat.le_of_ble_eq_true rfl) : PE X (.Tuple es x1 pos) (tX X.K G C fun Z => .tup (gs Z)) :=
  toX (pe_tup h) fun B σ H Z O Q R c q => ⟨B, Z, O, R, c, fun vs H1 s1 a1 => ⟨by rw [<- a1.length]; exact Nat.le_of_lt (small1000 (hz Z)), fun a ha => by
    have o : O a = false := by
      cases z : O a with
      | false => rfl
      | true => exact absurd (s1.free ha) (R.dom a z)
    refine q (.ref a) _ (s1.trans (same_new ha _)) ⟨a, vs, rfl, by rw [mn_of o]; exact upd_same, AtL.mono (mn_same (same_new ha _)) _ _ a1⟩⟩⟩
theorem xl_list {g : En -> PV} {ns : En -> List Int} (hm : X.mg "list" = none) (ha : PE X a (tX X.K G C g)) (hn : ∀ Z, g Z = .ints (ns Z) \/ g Z = .scr (ns Z)) (hg : Gl X "list" := by rfl) (he : starEach [a] X.env = [(false, eval a X.env)] := by rfl) :
    PE X (.Call (.Name "list" p) [a] [] pos) (tXl X.K G C ns) :=
  toXl (pe_callTy call_list_of hg hm bt_list (pa_cons ha pa_nil he) (by decide) (by decide) he rfl) fun B σ H Z O Q R c q => ⟨B, Z, O, R, c, fun v H1 s1 a1 => by
    have key : ∃ p, v = .ref p /\ SqL X.K H1 p ((ns Z).map V.int) := by
      rcases hn Z with z | z
      . rw [z] at a1; obtain ⟨p, e, r⟩ := a1; exact ⟨p, e, .inl (same_rd mn_le r)⟩
      . rw [z] at a1; obtain ⟨p, e, r⟩ := a1; exact ⟨p, e, mn_le.seq r⟩
    obtain ⟨p, rfl, r⟩ := key
    exact ⟨p, _, rfl, .inl r, fun l hl => q l _ (s1.trans (same_new hl _)) (s1.free hl) upd_same⟩⟩
def cutI (xs : List Int) (lo hi : Option Int) : List Int := (xs.drop (HT.sIx xs.length 0 lo)).take (HT.sIx xs.length xs.length hi - HT.sIx xs.length 0 lo)
theorem cutV_map (xs : List Int) (lo hi : Option Int) : cutV (xs.map V.int) lo hi = (cutI xs lo hi).map V.int := by
  unfold cutV cutI
  rw [List.length_map, <- List.map_drop, <- List.map_take]
def tXo (K : PySem.W.Frag) (G : Gx) (C : En -> Prop) (g : En -> Option Int) : TO := fun σ H Q => ∃ B Z O, Rep K G B σ H Z O /\ C Z /\ ∀ H', Same H H' -> Q (g Z) H'
theorem xo_none : PO X none (tXo X.K G (fun _ => True) fun _ => none) := fun pins s σ H Q I ⟨_, _, _, _, _, q⟩ => po_none pins s σ H Q I (q H (Same.refl H))
theorem xo_some (h : PE X e (tXI X.K G C ga)) : PO X (some e) (tXo X.K G C fun Z => some (ga Z)) := fun pins s σ H Q I ⟨B, Z, O, R, c, q⟩ => po_some h pins s σ H Q I ⟨B, Z, O, R, c, fun _ H1 s1 a1 => ⟨_, a1, q H1 s1⟩⟩
theorem xl_slice {lo hi : Option Expr} {p2 : Pos} {g : En -> PV} {ns : En -> List Int} {Cl Ch : En -> Prop} {gl gh : En -> Option Int} (ha : PE X a (tX X.K G C g)) (hl : PO X lo (tXo X.K G Cl gl)) (hh : PO X hi (tXo X.K G Ch gh)) (hn : ∀ Z, C Z -> g Z = .ints (ns Z) \/ g Z = .scr (ns Z)) :
    PE X (.Subscript a (.Slice lo hi none p2) pos) (tXl X.K G (fun Z => C Z /\ Cl Z /\ Ch Z) fun Z => cutI (ns Z) (gl Z) (gh Z)) :=
  toXl (pe_slice sl_list ha hl hh) fun B σ H Z O Q R c q => ⟨B, Z, O, R, c.1, fun v H1 s1 a1 => ⟨B, Z, O, R.grow s1, c.2.1, fun H2 s2 => ⟨B, Z, O, (R.grow s1).grow s2, c.2.2, fun H3 s3 => by
    have key : ∃ p, v = .ref p /\ SqL X.K H1 p ((ns Z).map V.int) := by
      rcases hn Z c.1 with z | z
      . rw [z] at a1; obtain ⟨p, e, r⟩ := a1; exact ⟨p, e, .inl (same_rd mn_le r)⟩
      . rw [z] at a1; obtain ⟨p, e, r⟩ := a1; exact ⟨p, e, mn_le.seq r⟩
    obtain ⟨p, rfl, r⟩ := key
    refine ⟨p, _, rfl, (s2.trans s3).seq r, fun l hl => q l _ (((s1.trans s2).trans s3).trans (same_new hl _)) (((s1.trans s2).trans s3).free hl) ?_⟩
    rw [upd_same, cutV_map]⟩⟩⟩
theorem Inv.lstR {X : Cx} {pins : List (Addr × Obj)} {σ : L2.St} {H : Hp} {s : Shared} {l : Addr} {xs : List V} (I : Inv X pins σ H s) (hH : Rd H l (.lst xs)) : xs.length <= sizeLine /\ ∃ (its : List Value) (n : Nat), Vals xs its /\ xs.length = its.length /\ s.heap.get? l = some { cls := .type "list", data := .seq its.toArray n } := by
  obtain ⟨z, its, n, r, e⟩ := hH.ok I.hok
  exact ⟨z, its, n, r, r.length, e⟩
def rCatR : R2 := fun x y H Q => ∃ l b xs zs, x = .ref l /\ y = .ref b /\ Rd H l (.lst xs) /\ Rd H b (.lst zs) /\ xs.length + zs.length <= sizeLine /\ ∀ p, H p = none -> Q (.ref p) (upd H p (.lst (xs ++ zs)))
theorem op_catR : OpR X (binaryOp .Add) rCatR := by
  intro pins s σ H x y v u Q I rx ry h
  obtain ⟨l, b, xs, zs, rfl, rfl, hH, hB, hz, q⟩ := h
  cases rx
  cases ry
  obtain ⟨z, its, n, r, hl, e⟩ := Inv.lstR I hH
  obtain ⟨z2, its2, n2, r2, hl2, e2⟩ := Inv.lstR I hB
  refine PySem.P.add_list e e2 ?_ (by rw [List.size_toArray, List.size_toArray]; omega)
  have ea : its.toArray ++ its2.toArray = (its ++ its2).toArray := by simp
  rw [ea]
  exact ⟨.ref _, _, I.lnew (t' := s.toks) (r.append r2) (by rw [List.length_append]; omega), rfl, q _ I.fresh⟩
theorem xl_cat {gl hl : En -> List Int} (ha : PE X a (tXL X.K G Ca gl)) (hb : PE X b (tXL X.K G Cb hl)) : PE X (.BinOp a .Add b pos) (tXl X.K G (fun Z => Ca Z /\ Cb Z /\ (gl Z).length + (hl Z).length <= sizeLine) fun Z => gl Z ++ hl Z) :=
  toXl (pe_op op_catR ha hb) fun B σ H Z O Q R c q => two R c.1 c.2.1 fun v u H1 H2 s1 s2 a1 a2 => by
    obtain ⟨l, rfl, r1⟩ := a1
    obtain ⟨b, rfl, r2⟩ := a2
    refine ⟨l, b, _, _, rfl, rfl, same_rd mn_le r1, same_rd mn_le r2, by rw [List.length_map, List.length_map]; exact c.2.2, fun p hp => q p _ ((s1.trans s2).trans (same_new hp _)) ((s1.trans s2).free hp) ?_⟩
    rw [upd_same, List.map_append]
theorem flat_rep {α : Type} (x : α) : ∀ k : Nat, (List.replicate k [x]).flatten = List.replicate k x
  | 0 => rfl
  | k + 1 => by rw [List.replicate_succ, List.flatten_cons, flat_rep x k]; rfl
theorem xl_rep {gl : En -> List Int} {n : En -> Int} (ha : PE X a (tXl X.K G Ca gl)) (hb : PE X b (tXI X.K G Cb gb)) (hn : ∀ Z, gl Z = [n Z]) : PE X (.BinOp a .Mult b pos) (tXl X.K G (fun Z => Ca Z /\ Cb Z /\ -(2 ^ 63) <= gb Z /\ (gb Z).toNat <= 1000) fun Z => List.replicate (gb Z).toNat (n Z)) :=
  toXl (pe_op op_rep ha hb) fun B σ H Z O Q R c q => ⟨B, Z, O, R, c.1, fun l H1 s1 n1 e1 => ⟨B, Z, O, R.grow s1, c.2.1, fun u H2 s2 a2 => by
    rw [hn Z] at e1
    refine ⟨l, _, _, rfl, a2, s2 _ _ e1, c.2.2.1, by have := c.2.2.2; omega, ?_, fun p hp => q p _ ((s1.trans s2).trans (same_new hp _)) ((s1.trans s2).free hp) ?_⟩
    . rw [List.map_cons, List.map_nil, List.length_singleton, Nat.one_mul]
      exact Nat.le_of_lt (small1000 c.2.2.2)
    . rw [upd_same, List.map_cons, List.map_nil, flat_rep, List.map_replicate]⟩⟩
end
def spF (K : PySem.W.Frag) (G : Gx) (pre : List PV -> Prop) (F : List PV -> PV) : Sp := fun vs H Q _ => ∃ as O, (∀ a, O a = true -> H a ≠ none) /\ AtL K G (mn H O) as vs /\ pre as /\ ∀ v H', Same H H' -> At K G (mn H' O) (F as) v -> Q v H'
def spL (K : PySem.W.Frag) (G : Gx) (pre : List PV -> Prop) (F : List PV -> List Int) : Sp := fun vs H Q _ => ∃ as O, (∀ a, O a = true -> H a ≠ none) /\ AtL K G (mn H O) as vs /\ pre as /\ ∀ a H', Same H H' -> H a = none -> H' a = some (.lst ((F as).map V.int)) -> Q (.ref a) H'
section
variable {X : Cx} {G : Gx} {Er : ER} {e : Expr} {es : List Expr} {pos p : Pos} {j k : Nat} {x : Str} {ps : List Str} {pre : List PV -> Prop} {C : En -> Prop} {gs : En -> List PV}
theorem xc {F : List PV -> PV} (o : Ok X.prog X.w X.K X.mg X.base j x ps (spF X.K G pre F)) (hr : Room k X.A) (ha : PA X (e :: es) (tXs X.K G C gs)) (hj : j <= k := by decide) (hg : Gl X x := by rfl) (hdb : (x == ("__debug__" : Str)) = false := by decide)
    (he : starEach (e :: es) X.env = (false, eval e X.env) :: starEach es X.env := by rfl) (hpl : (backTo pos (starEach es X.env)).any (·.1) = false := by rfl) :
    PE X (.Call (.Name x p) (e :: es) [] pos) (tX X.K G (fun Z => C Z /\ pre (gs Z)) fun Z => F (gs Z)) :=
  toX (pe_callO o hr ha hj hg hdb he hpl) fun B σ H Z O Q R c q => ⟨B, Z, O, R, c.1, fun vs H1 s1 a1 => by
    dsimp only
    rw [List.append_nil]
    exact ⟨gs Z, O, (R.grow s1).dom, a1, c.2, fun v H2 s2 a2 => q v H2 (s1.trans s2) a2⟩⟩
theorem xcl {F : List PV -> List Int} (o : Ok X.prog X.w X.K X.mg X.base j x ps (spL X.K G pre F)) (hr : Room k X.A) (ha : PA X (e :: es) (tXs X.K G C gs)) (hj : j <= k := by decide) (hg : Gl X x := by rfl) (hdb : (x == ("__debug__" : Str)) = false := by decide)
    (he : starEach (e :: es) X.env = (false, eval e X.env) :: starEach es X.env := by rfl) (hpl : (backTo pos (starEach es X.env)).any (·.1) = false := by rfl) :
    PE X (.Call (.Name x p) (e :: es) [] pos) (tXl X.K G (fun Z => C Z /\ pre (gs Z)) fun Z => F (gs Z)) :=
  toXl (pe_callO o hr ha hj hg hdb he hpl) fun B σ H Z O Q R c q => ⟨B, Z, O, R, c.1, fun vs H1 s1 a1 => by
    dsimp only
    rw [List.append_nil]
    exact ⟨gs Z, O, (R.grow s1).dom, a1, c.2, fun a H2 s2 n2 e2 => q a H2 (s1.trans s2) (s1.free n2) e2⟩⟩
end
def startR (N : List Str) (as : List PV) : En := as.map Sl.fr ++ List.replicate (N.length - as.length) .un
theorem rep_start {K : PySem.W.Frag} {G : Gx} {H : Hp} {O : Addr -> Bool} {as : List PV} {vs : List V} {N : List Str} (hd : ∀ a, O a = true -> H a ≠ none) (h : AtL K G (mn H O) as vs) : Rep K G ⟨H, O⟩ (L2.start N vs) H (startR N as) O := by
  have hl := h.length
  refine ⟨Same.refl H, hd, fun _ z => z, hd, fun _ z => .inl z, fun i p e => ?_, fun i p e => ?_, fun i j p q a e => ?_, by unfold L2.start startR; simp [hl], fun i xs ys e => ?_⟩
  . unfold startR at e
    by_cases c : i < as.length
    . rw [List.getElem?_append_left (by rw [List.length_map]; exact c), List.getElem?_map] at e
      cases e' : as[i]? with
      | none => rw [e'] at e; cases e
      | some p' =>
        rw [e'] at e
        cases e
        obtain ⟨v, ev, av⟩ := h.at e'
        refine ⟨v, ?_, av⟩
        unfold L2.start
        rw [List.getElem?_append_left (by rw [List.length_map, <- hl]; exact c), List.getElem?_map, ev]
        rfl
    . rw [List.getElem?_append_right (by rw [List.length_map]; omega), List.getElem?_replicate] at e
      split at e <;> cases e
  . exfalso
    unfold startR at e
    by_cases c : i < as.length
    . rw [List.getElem?_append_left (by rw [List.length_map]; exact c), List.getElem?_map] at e
      cases e' : as[i]? <;> rw [e'] at e <;> cases e
    . rw [List.getElem?_append_right (by rw [List.length_map]; omega), List.getElem?_replicate] at e
      split at e <;> cases e
  . exfalso
    unfold startR at e
    by_cases c : i < as.length
    . rw [List.getElem?_append_left (by rw [List.length_map]; exact c), List.getElem?_map] at e
      cases e' : as[i]? <;> rw [e'] at e <;> cases e
    . rw [List.getElem?_append_right (by rw [List.length_map]; omega), List.getElem?_replicate] at e
      split at e <;> cases e
  . exfalso
    unfold startR at e
    by_cases c : i < as.length
    . rw [List.getElem?_append_left (by rw [List.length_map]; exact c), List.getElem?_map] at e
      cases e' : as[i]? <;> rw [e'] at e <;> cases e
    . rw [List.getElem?_append_right (by rw [List.length_map]; omega), List.getElem?_replicate] at e
      split at e <;> cases e
section
variable {P : Program} {w : World} {K : PySem.W.Frag} {mg : Str -> Option Value} {base : Heap} {G : Gx}
theorem okF {x : Str} {st : Stmt} {N ps : List Str} {k : Nat} {pre : List PV -> Prop} {F : List PV -> PV} (d : Def K mg x st ps) (S : FnScope N ps (defScope st)) (len : ∀ as, pre as -> as.length = ps.length)
    (hbody : ∀ (f : Addr) (cdv : Value) (A : Around) (outer : List Env) (s : Shared) (H : Hp) (E : XK), Room k (A.deeper (envOfC x (defScope st) s.heap.objs.size f cdv)) ->
      ∃ fs, PSs (cxOf CX0 P w K mg base N x (defScope st) f cdv A outer s H E).nox (defBody st) (ts K G ER0 fs) /\ ∀ as, pre as -> fs { nx := fun _ => F as = .non, rt := fun p => p = F as, rl := fun ns => F as = .ints ns } (startR N as)) : Ok P w K mg base (k + 1) x ps (spF K G pre F) := by
  refine Def.ok d S (fun vs H Q E h => ?_) fun f cdv A outer s H vs Q E hr h => ?_
  . obtain ⟨as, O, _, al, hp, _⟩ := h
    rw [<- al.length]; exact len as hp
  obtain ⟨as, O, hd, al, hp, q⟩ := h
  obtain ⟨fs, b, c⟩ := hbody f cdv A outer s H E hr
  refine ⟨_, b, ⟨H, O⟩, startR N as, _, ⟨O, rep_start hd al⟩, c as hp, ⟨fun σ' H' Z' R' h => ?_, fun v H' p s' a' h => ?_, fun a H' ns s' n e h => ?_, fun _ _ _ _ _ h => h.elim, fun _ _ _ _ h => h, fun _ _ _ _ h => h, fun _ _ _ h => h⟩⟩
  . obtain ⟨O', R'⟩ := R'
    exact q .non H' R'.same (by rw [show F as = .non from h]; rfl)
  . have h : p = F as := h
    subst h
    exact q v H' s' a'
  . have h : F as = .ints ns := h
    refine q _ H' s' ?_
    rw [h]
    exact ⟨a, rfl, .inl (by
      rw [mn_of]
      . exact e
      . cases z : O a with
        | false => rfl
        | true => exact absurd n (hd a z))⟩
theorem okL {x : Str} {st : Stmt} {N ps : List Str} {k : Nat} {pre : List PV -> Prop} {F : List PV -> List Int} (d : Def K mg x st ps) (S : FnScope N ps (defScope st)) (len : ∀ as, pre as -> as.length = ps.length)
    (hbody : ∀ (f : Addr) (cdv : Value) (A : Around) (outer : List Env) (s : Shared) (H : Hp) (E : XK), Room k (A.deeper (envOfC x (defScope st) s.heap.objs.size f cdv)) ->
      ∃ fs, PSs (cxOf CX0 P w K mg base N x (defScope st) f cdv A outer s H E).nox (defBody st) (ts K G ER0 fs) /\ ∀ as, pre as -> fs { nx := fun _ => False, rt := fun _ => False, rl := fun ns => ns = F as } (startR N as)) : Ok P w K mg base (k + 1) x ps (spL K G pre F) := by
  refine Def.ok d S (fun vs H Q E h => ?_) fun f cdv A outer s H vs Q E hr h => ?_
  . obtain ⟨as, O, _, al, hp, _⟩ := h
    rw [<- al.length]; exact len as hp
  obtain ⟨as, O, hd, al, hp, q⟩ := h
  obtain ⟨fs, b, c⟩ := hbody f cdv A outer s H E hr
  refine ⟨_, b, ⟨H, O⟩, startR N as, _, ⟨O, rep_start hd al⟩, c as hp, ⟨fun _ _ _ _ h => h.elim, fun _ _ _ _ _ h => h.elim, fun a H' ns s' n e h => ?_, fun _ _ _ _ _ h => h.elim, fun _ _ _ _ h => h, fun _ _ _ _ h => h, fun _ _ _ h => h⟩⟩
  have h : ns = F as := h
  subst h
  exact q a H' s' n e
end
def spM (pre : List Int -> Prop) (F : List Int -> List Int) : Sp := fun vs H Q _ => ∃ a ns, vs = [.ref a] /\ H a = some (.lst (ns.map V.int)) /\ pre ns /\ ∀ H', (∀ b o, b ≠ a -> H b = some o -> H' b = some o) -> H' a = some (.lst ((F ns).map V.int)) -> Q .non H'
theorem upd_le {H H' : Hp} {a : Addr} {o : HO} (h : ∀ b o, b ≠ a -> H b = some o -> H' b = some o) (e : H' a = some o) : Same (upd H a o) H' := same_mk fun b u z => by
  by_cases c : b = a
  . subst c; rw [upd_same] at z; cases z; exact e
  . rw [upd_ne c] at z; exact h b u c z
section
variable {X : Cx} {G : Gx} {Er : ER} {e b : Expr} {pos px pa pc : Pos} {i j k : Nat} {x y : Str} {C Cb : En -> Prop} {g gb : En -> Int}
theorem xst_pop (i : Nat) {x : Str} (hN : X.N[i]? = some x := by rfl) (hv : Vis X.env.scope x := by first | exact Or.inl rfl | exact Or.inr (Or.inl rfl) | exact Or.inr (Or.inr rfl))
    (hd : (x == ("__debug__" : Str)) = false := by decide) (hcd : (x == ("__classdict__" : Str)) = false := by decide)
    (hbase : attributeBase (.Name x px) "pop" X.env (eval (.Name x px) X.env) = eval (.Name x px) X.env := by rfl) (hline : (pa.endLine == pc.line) = true := by rfl)
    (hsw : swapsWith (.Call (.Attribute (.Name x px) "pop" pa) [] [] pc) none pos.line X.env = pure false := by rfl) :
    PS X (.Expr (.Call (.Attribute (.Name x px) "pop" pa) [] [] pc) pos) (ts X.K G Er fun P Z => isO Z i /\ getL Z i ≠ [] /\ P.nx (Z.set i (.ow (.ints (getL Z i).dropLast)))) :=
  toS (ps_expr (pe_bm0 PySem.F.plainAttrs_list PySem.F.slot_list_pop PySem.F.type_list_pop mt_pop (pe_var hN hv hd hcd) hbase hline) hsw) fun B σ H Z O P D R c w => by
    obtain ⟨c0, c1, c3⟩ := c
    obtain ⟨a, vs, e1, e2, e3, e4, e5⟩ := R.ow i _ c0
    have e5 : vs = (getL Z i).map V.int := e5
    subst e5
    have hl : 0 < (getL Z i).length := lP c1
    refine ⟨_, e1, .inl ⟨rfl, _, SqL.of e4⟩, a, _, V.int ((getL Z i)[(getL Z i).length - 1]'(by omega)), rfl, rfl, e4, ?_, w.nx σ _ _ ⟨O, R.change c0 e1 (p' := .ints (getL Z i).dropLast) ?_⟩ c3⟩
    . rw [List.length_map, List.getElem?_map, List.getElem?_eq_getElem (by omega)]
      rfl
    . show _ = (getL Z i).dropLast.map V.int
      rw [List.map_dropLast]
theorem xst_setit (i : Nat) {x : Str} {ps : Pos} (hk : PE X b (tXI X.K G Cb gb)) (he : PE X e (tXI X.K G C g)) (hN : X.N[i]? = some x := by rfl) (hv : Vis X.env.scope x := by first | exact Or.inl rfl | exact Or.inr (Or.inl rfl) | exact Or.inr (Or.inr rfl))
    (hd : (x == ("__debug__" : Str)) = false := by decide) (hcd : (x == ("__classdict__" : Str)) = false := by decide)
    (ha : ∀ v, assign (.Subscript (.Name x px) b ps) X.env v = (do
      let ov <- holding [v] (eval (.Name x px) X.env)
      let iv <- holding [v, ov] (eval b X.env)
      standAt ps
      holding [v, ov, iv] (setItem ov iv v)
      release [v, ov, iv] []) := by intro _; rfl)
    (hs : swapsWithSole [.Subscript (.Name x px) b ps] e pos.line X.env = pure false := by rfl) (hw : swappedStores [.Subscript (.Name x px) b ps] e X.env = pure none := by rfl)
    (h1 : (assignEach [.Subscript (.Name x px) b ps] X.env).map (·.2) = [assign (.Subscript (.Name x px) b ps) X.env] := by rfl) :
    PS X (.Assign [.Subscript (.Name x px) b ps] e pos) (ts X.K G Er fun P Z => C Z /\ isO Z i /\ Cb Z /\ (-((getL Z i).length : Int) <= gb Z /\ gb Z < ((getL Z i).length : Int)) /\ P.nx (Z.set i (.ow (.ints ((getL Z i).set (ixO (getL Z i).length (gb Z)) (g Z)))))) :=
  toS (ps_asg he (pg_sub (pe_var hN hv hd hcd) hk set_list ha) hs hw h1) fun B σ H Z O P D R c w => by
    obtain ⟨c1, c0, c2, cb, c3⟩ := c
    refine ⟨B, Z, O, R, c1, fun v H1 s1 a1 => ?_⟩
    have a1 : v = .int (g Z) := a1
    subst a1
    have R1 := R.grow s1
    obtain ⟨a, vs, e1, e2, e3, e4, e5⟩ := R1.ow i _ c0
    have e5 : vs = (getL Z i).map V.int := e5
    subst e5
    refine ⟨_, e1, B, Z, O, R1, c2, fun u H2 s2 a2 => ?_⟩
    have a2 : u = .int (gb Z) := a2
    subst a2
    refine ⟨a, _, _, _, rfl, rfl, s2 _ _ e4, by rw [List.length_map]; exact ixN_ok cb.1 cb.2, w.nx σ _ _ ⟨O, (R1.grow s2).change c0 e1 (p' := .ints _) ?_⟩ c3⟩
    show _ = ((getL Z i).set _ _).map V.int
    rw [List.map_set]
theorem xst_mut (i : Nat) {x y : Str} {ps : List Str} {pre : List Int -> Prop} {F : List Int -> List Int} (o : Ok X.prog X.w X.K X.mg X.base j y ps (spM pre F)) (hr : Room k X.A) (hj : j <= k := by decide) (hg : Gl X y := by rfl)
    (hN : X.N[i]? = some x := by rfl) (hv : Vis X.env.scope x := by first | exact Or.inl rfl | exact Or.inr (Or.inl rfl) | exact Or.inr (Or.inr rfl)) (hd : (x == ("__debug__" : Str)) = false := by decide) (hcd : (x == ("__classdict__" : Str)) = false := by decide)
    (hdb : (y == ("__debug__" : Str)) = false := by decide) (he : starEach (.Name x px :: []) X.env = (false, eval (.Name x px) X.env) :: starEach [] X.env := by rfl) (hpl : (backTo pc (starEach [] X.env)).any (·.1) = false := by rfl)
    (hsw : swapsWith (.Call (.Name y pa) [.Name x px] [] pc) none pos.line X.env = pure false := by rfl) :
    PS X (.Expr (.Call (.Name y pa) [.Name x px] [] pc) pos) (ts X.K G Er fun P Z => isO Z i /\ pre (getL Z i) /\ P.nx (Z.set i (.ow (.ints (F (getL Z i)))))) :=
  toS (ps_expr (pe_callO o hr (pa_cons (pe_var hN hv hd hcd) pa_nil he) hj hg hdb he hpl) hsw) fun B σ H Z O P D R c w => by
    obtain ⟨c0, c1, c3⟩ := c
    obtain ⟨a, vs, e1, e2, e3, e4, e5⟩ := R.ow i _ c0
    have e5 : vs = (getL Z i).map V.int := e5
    subst e5
    exact ⟨_, e1, a, _, rfl, e4, c1, fun H' k1 k2 => w.nx σ H' _ ⟨O, (R.change c0 e1 (p' := .ints _) rfl).grow (upd_le k1 k2)⟩ c3⟩
end
def capR (cap : List (Option Nat)) (Z : En) : En := cap.map fun o => match o with
  | some i => (match Z[i]? with
    | some (.fr p) => .fr p
    | _ => .un)
  | none => .un
section
variable {K : PySem.W.Frag} {G : Gx} {B : Bs} {σ : L2.St} {H H1 : Hp} {Z : En} {O : Addr -> Bool} {D : Addr} {cap : List (Option Nat)}
theorem rep_block (R : Rep K G B σ H1 Z O) (hD : H1 D = none) (s : Same H1 H) (hn : H D ≠ none) : Rep K G ⟨H1, O⟩ (capS cap σ) H (capR cap Z) (hide D O) := by
  refine ⟨s, R.dom, hide_le, fun a z y => ?_, fun a z => ?_, fun j p e => ?_, fun j p e => ?_, fun i j p q a e => ?_, by unfold capS capR; rw [List.length_map, List.length_map], fun j xs ys e => ?_⟩
  . by_cases c : a = D
    . subst c; exact hn y
    . rw [hide_ne c] at z; exact R.dom a z (s.free y)
  . by_cases c : a = D
    . subst c; exact .inr hD
    . rw [hide_ne c] at z; exact .inl z
  . unfold capR at e
    rw [List.getElem?_map] at e
    cases ec : cap[j]? with
    | none => rw [ec] at e; cases e
    | some o =>
      rw [ec] at e
      cases o with
      | none => cases e
      | some i =>
        have e := Option.some.inj e
        dsimp only at e
        split at e
        . rename_i p' er
          cases e
          obtain ⟨v, e1, e2⟩ := R.fr i p er
          refine ⟨v, ?_, At.mono (mn_hide s hD) _ _ e2⟩
          unfold capS
          rw [List.getElem?_map, ec]
          show some ((σ[i]?).join) = some (some v)
          rw [e1]
          rfl
        . cases e
  . exfalso
    unfold capR at e
    rw [List.getElem?_map] at e
    cases ec : cap[j]? with
    | none => rw [ec] at e; cases e
    | some o =>
      rw [ec] at e
      cases o with
      | none => cases e
      | some i =>
        have e := Option.some.inj e
        dsimp only at e
        split at e <;> cases e
  . exfalso
    unfold capR at e
    rw [List.getElem?_map] at e
    cases ec : cap[i]? with
    | none => rw [ec] at e; cases e
    | some o =>
      rw [ec] at e
      cases o with
      | none => cases e
      | some i =>
        have e := Option.some.inj e
        dsimp only at e
        split at e <;> cases e
  . exfalso
    unfold capR at e
    rw [List.getElem?_map] at e
    cases ec : cap[j]? with
    | none => rw [ec] at e; cases e
    | some o =>
      rw [ec] at e
      cases o with
      | none => cases e
      | some i =>
        have e := Option.some.inj e
        dsimp only at e
        split at e <;> cases e
theorem ext_refl : ∀ σ : L2.St, ExtS σ σ
  | [] => tT
  | none :: r => ext_refl r
  | some _ :: r => ⟨rfl, ext_refl r⟩
variable {α : Type} {J : It} {g : TG} {C : En -> Prop} {gb : En -> PV} {Q : VK}
theorem lc_main (items : List α) (setσ : α -> V -> L2.St) (setr : α -> En) (val : α -> V) (R : Rep K G B σ H1 Z O) (hD : H1 D = none) (hlen : items.length <= 1000) (hgo : ∀ i H, i < items.length -> Same H1 H -> J.go i H)
    (hyld : ∀ i it x H H', items[i]? = some it -> Same H1 H -> J.yld i H x H' -> Same H H' /\ ∀ k : L2.St -> Hp -> Prop, k (setσ it (val it)) H' -> g x (capS cap σ) H' k) (hstop : ∀ H, Same H1 H -> J.stop items.length H)
    (hset : ∀ it H, it ∈ items -> Same H1 H -> Rep K G ⟨H1, O⟩ (capS cap σ) H (capR cap Z) (hide D O) -> Rep K G ⟨H1, O⟩ (setσ it (val it)) H (setr it) (hide D O)) (hext : ∀ it, ExtS (capS cap σ) (setσ it (val it))) (hC : ∀ it ∈ items, C (setr it))
    (hQ : ∀ H' ys, Same H1 H' -> H' D = some (.lst ys) -> AtL K G (mn H' (hide D O)) (items.map fun it => gb (setr it)) ys -> Q (.ref D) H') :
    ∃ W : Nat -> Nat -> List V -> Hp -> Prop, (∃ m, W 0 m [] (upd H1 D (.lst []))) /\ lcW D J (capS cap σ) g noTest (tX K G C gb) Q W := by
  refine ⟨fun i m ys H => m = items.length - i /\ i <= items.length /\ Same H1 H /\ H D = some (.lst ys) /\ AtL K G (mn H (hide D O)) ((items.take i).map fun it => gb (setr it)) ys, ⟨items.length, by simp, Nat.zero_le _, same_new hD _, upd_same, rfl⟩, ?_⟩
  rintro i m ys H ⟨rfl, hi, hs, hd, al⟩
  have hl : ys.length = i := by rw [<- al.length, List.length_map, List.length_take]; omega
  refine ⟨hd, small1000 (by omega), ?_⟩
  by_cases hlt : i < items.length
  . refine .inr ⟨hgo i H hlt hs, ?_⟩
    intro x H' hy
    have en : items[i]? = some items[i] := List.getElem?_eq_getElem hlt
    obtain ⟨s1, kk⟩ := hyld i _ x H H' en hs hy
    refine kk _ ⟨hext _, ?_⟩
    refine iteT ?_
    have hd' := s1 _ _ hd
    have R2 := hset items[i] H' (List.getElem_mem hlt) (hs.trans s1) (rep_block R hD (hs.trans s1) (by rw [hd']; exact fun z => by cases z))
    refine ⟨_, _, _, R2, hC _ (List.getElem_mem hlt), fun v H2 s2 a2 => ⟨s2 _ _ hd', items.length - (i + 1), by omega, rfl, hlt, ?_, upd_same, ?_⟩⟩
    . intro b o z
      rw [upd_ne (ne_of_none z hD)]
      exact ((hs.trans s1).trans s2) b o z
    . rw [mn_upd hide_self, take_at en, List.map_append]
      exact AtL.snoc (AtL.mono (mn_same (s1.trans s2)) _ _ al) a2
  . have e : i = items.length := by omega
    subst e
    refine .inl ⟨hstop H hs, hQ H ys hs hd ?_⟩
    rw [List.take_length] at al
    exact al
theorem atL_ints {gi : α -> Int} : ∀ {l : List α} {ys : List V}, AtL K G H (l.map fun x => .int (gi x)) ys -> ys = (l.map gi).map V.int
  | [], _, h => h
  | x :: r, _, h => by
    obtain ⟨v, t, rfl, e, q⟩ := h
    have e : v = .int (gi x) := e
    rw [e, atL_ints q]
    rfl
end
section
variable {K : PySem.W.Frag} {G : Gx} {σ : L2.St} {H : Hp} {Q : VK} {Cs Cb : En -> Prop} {gs : En -> List Int} {gi : En -> Int} {gp : En -> PV} {cap : List (Option Nat)}
theorem lc_L (h : tXp K G (fun Z => Cs Z /\ (gs Z).length <= 1000 /\ ∀ n ∈ gs Z, Cb ((capR (none :: cap) Z).set 0 (.fr (.int n)))) (fun Z => (gs Z).map fun n => gp ((capR (none :: cap) Z).set 0 (.fr (.int n)))) σ H Q) :
    tLC (none :: cap) (iList K (tXL K G Cs gs)) (gName 0) noTest (tX K G Cb gp) σ H Q := by
  obtain ⟨B, Z, O, R, ⟨c1, c2, c3⟩, q⟩ := h
  refine ⟨B, Z, O, R, c1, fun v H1 s1 a1 => ?_⟩
  obtain ⟨a, rfl, hq⟩ := a1
  have hq1 : SqL K H1 a ((gs Z).map V.int) := .inl (same_rd mn_le hq)
  refine ⟨a, rfl, ⟨_, hq1⟩, fun D hD => ?_⟩
  refine lc_main (gs Z) (fun _ v => (capS (none :: cap) σ).set 0 (some v)) (fun n => (capR (none :: cap) Z).set 0 (.fr (.int n))) V.int (R.grow s1) hD c2 (fun i H hi s => ⟨_, .int (gs Z)[i], s.seq hq1, by simp [hi]⟩) ?_ (fun H s => ⟨_, s.seq hq1, by simp⟩) (fun n H _ s R' => R'.set (p := .int n) rfl) ?_ c3 ?_
  . rintro i n x H H' en s ⟨rfl, hx⟩
    obtain ⟨n', rfl, hn⟩ := int_at (hx _ (s.seq hq1))
    rw [hn] at en
    cases en
    exact ⟨Same.refl _, fun k hk => hk⟩
  . intro n
    show ExtS (none :: capS cap σ) (some (.int n) :: capS cap σ)
    exact ext_refl _
  . intro H' ys s hd al
    exact q D ys H' (s1.trans s) (s1.free hD) hd al
theorem lc_E (h : tXp K G (fun Z => Cs Z /\ (gs Z).length <= 1000 /\ ∀ k : Nat, ∀ n, (gs Z)[k]? = some n -> Cb (((capR (none :: none :: cap) Z).set 0 (.fr (.int k))).set 1 (.fr (.int n)))) (fun Z => (gs Z).mapIdx fun k n => gp (((capR (none :: none :: cap) Z).set 0 (.fr (.int k))).set 1 (.fr (.int n)))) σ H Q) :
    tLC (none :: none :: cap) (iEnum K (tCons (tXL K G Cs gs) tNil)) (gTup K 2 (gCons (gName 0) (gCons (gName 1) gNil))) noTest (tX K G Cb gp) σ H Q := by
  obtain ⟨B, Z, O, R, ⟨c1, c2, c3⟩, q⟩ := h
  refine ⟨B, Z, O, R, c1, fun v H1 s1 a1 => ?_⟩
  obtain ⟨a, rfl, hq⟩ := a1
  have hq1 : SqL K H1 a ((gs Z).map V.int) := .inl (same_rd mn_le hq)
  refine ⟨a, rfl, ⟨_, hq1⟩, fun D hD => ?_⟩
  have hz : ((gs Z).zipIdx).length = (gs Z).length := List.length_zipIdx
  refine lc_main ((gs Z).zipIdx) (fun p _ => ((capS (none :: none :: cap) σ).set 0 (some (.int p.2))).set 1 (some (.int p.1))) (fun p => ((capR (none :: none :: cap) Z).set 0 (.fr (.int p.2))).set 1 (.fr (.int p.1))) (fun p => .int p.1) (R.grow s1) hD (by rw [hz]; exact c2)
    (fun i H hi s => ⟨_, .int ((gs Z)[i]'(by rw [hz] at hi; exact hi)), s.seq hq1, by rw [hz] at hi; simp [hi]⟩) ?_ (fun H s => ⟨_, s.seq hq1, by simp⟩) (fun p H _ s R' => (R'.set (p := .int p.2) rfl).set (p := .int p.1) rfl) ?_ ?_ ?_
  . rintro i ⟨n, k⟩ x H H' en s ⟨T, y, rfl, hT, rfl, hx⟩
    obtain ⟨n', rfl, hn⟩ := int_at (hx _ (s.seq hq1))
    rw [List.getElem?_zipIdx, hn] at en
    have en : (n', 0 + i) = (n, k) := Option.some.inj en
    cases en
    refine ⟨same_new hT _, fun kk hk => ⟨T, _, rfl, SqT.of upd_same, rfl, _, _, rfl, _, _, rfl, rfl, ?_⟩⟩
    rw [Nat.zero_add] at hk
    exact hk
  . rintro ⟨n, k⟩
    show ExtS (none :: none :: capS cap σ) (some (.int k) :: some (.int n) :: capS cap σ)
    exact ext_refl _
  . rintro ⟨n, k⟩ hm
    have := List.mem_zipIdx_iff_getElem?.mp hm
    exact c3 k n this
  . intro H' ys s hd al
    refine q D ys H' (s1.trans s) (s1.free hD) hd ?_
    have e : ((gs Z).mapIdx fun k n => gp (((capR (none :: none :: cap) Z).set 0 (.fr (.int k))).set 1 (.fr (.int n)))) = (gs Z).zipIdx.map fun p => gp (((capR (none :: none :: cap) Z).set 0 (.fr (.int p.2))).set 1 (.fr (.int p.1))) := by
      rw [List.mapIdx_eq_zipIdx_map]
    dsimp only
    rw [e]
    exact al
theorem p_of_l {C : En -> Prop} {α : Type} {src : En -> List α} {gi : En -> α -> Int} (h : tXl K G C (fun Z => (src Z).map (gi Z)) σ H Q) : tXp K G C (fun Z => (src Z).map fun x => .int (gi Z x)) σ H Q := by
  obtain ⟨B, Z, O, R, c, q⟩ := h
  refine ⟨B, Z, O, R, c, fun a vs H' s n e al => q a H' s n ?_⟩
  rw [e, atL_ints al]
theorem p_of_li {C : En -> Prop} {src : En -> List Int} {gi : En -> Nat -> Int -> Int} (h : tXl K G C (fun Z => (src Z).mapIdx (gi Z)) σ H Q) : tXp K G C (fun Z => (src Z).mapIdx fun k x => .int (gi Z k x)) σ H Q := by
  obtain ⟨B, Z, O, R, c, q⟩ := h
  refine ⟨B, Z, O, R, c, fun a vs H' s n e al => q a H' s n ?_⟩
  dsimp only at al ⊢
  rw [List.mapIdx_eq_zipIdx_map] at al
  rw [e, atL_ints (gi := fun p : Int × Nat => gi Z p.2 p.1) al, List.mapIdx_eq_zipIdx_map]
end
section
variable {X : Cx} {G : Gx} {Er : ER} {N' : List Str} {sc : Scope} {cl : List (Str × Addr)} {cap : List (Option Nat)} {el tg src : Expr} {at' spos px : Pos} {Cs Cb : En -> Prop} {gs : En -> List Int} {gn gi : En -> Int} {gp : En -> PV} {i : Nat} {x : Str}
theorem xl_lcL (L : LcOk X N' sc cl (none :: cap)) (hc : X.calm = true) (hi : PE X src (tXL X.K G Cs gs)) (hg : ∀ s H fp, PG (cxComp X N' sc cl s H fp) tg (gName 0)) (he : ∀ s H fp, PE (cxComp X N' sc cl s H fp) el (tXI X.K G Cb gi)) (hs : ∀ x, foldedSetIterable src X.env x = pure x := by intro _; rfl) :
    PE X (.ListComp el [⟨tg, src, [], 0⟩] sc at') (tXl X.K G (fun Z => Cs Z /\ (gs Z).length <= 1000 /\ ∀ n ∈ gs Z, Cb ((capR (none :: cap) Z).set 0 (.fr (.int n)))) fun Z => (gs Z).map fun n => gi ((capR (none :: cap) Z).set 0 (.fr (.int n)))) :=
  fun pins s σ H Q I h => pe_lc L hc (pi_list hi) hg (fun _ _ _ => pts_nil) he hs pins s σ H Q I (lc_L (p_of_l h))
theorem xl_lcE {p pos' : Pos} {els : List Expr} {kk : Nat} {tp : Pos} (L : LcOk X N' sc cl (none :: none :: cap)) (hc : X.calm = true) (hgl : Gl X "enumerate") (hm : X.mg "enumerate" = none) (hi : PE X src (tXL X.K G Cs gs))
    (hg : ∀ s H fp, PG (cxComp X N' sc cl s H fp) (.Tuple els kk tp) (gTup X.K 2 (gCons (gName 0) (gCons (gName 1) gNil)))) (he : ∀ s H fp, PE (cxComp X N' sc cl s H fp) el (tXI X.K G Cb gi)) (hst : starEach [src] X.env = [(false, eval src X.env)] := by rfl)
    (hs : ∀ x, foldedSetIterable (.Call (.Name "enumerate" p) [src] [] pos') X.env x = pure x := by intro _; rfl) :
    PE X (.ListComp el [⟨.Tuple els kk tp, .Call (.Name "enumerate" p) [src] [] pos', [], 0⟩] sc at') (tXl X.K G (fun Z => Cs Z /\ (gs Z).length <= 1000 /\ ∀ k : Nat, ∀ n, (gs Z)[k]? = some n -> Cb (((capR (none :: none :: cap) Z).set 0 (.fr (.int k))).set 1 (.fr (.int n))))
      fun Z => (gs Z).mapIdx fun k n => gi (((capR (none :: none :: cap) Z).set 0 (.fr (.int k))).set 1 (.fr (.int n)))) :=
  fun pins s σ H Q I h => pe_lc L hc (pi_enum hgl hm (pa_cons hi pa_nil hst) hst) hg (fun _ _ _ => pts_nil) he hs pins s σ H Q I (lc_E (p_of_li h))
theorem own_of {t : TE} {st : Stmt} {C : En -> Prop} {g : En -> List Int} (h : PS X st (tAsg t (gName i))) (k : ∀ σ H Q, tXl X.K G C g σ H Q -> t σ H Q) : PS X st (ts X.K G Er fun P Z => C Z /\ ∀ ns, ns = g Z -> P.nx (Z.set i (.ow (.ints ns)))) :=
  toS h fun B σ H Z O P D R c w => k σ H _ ⟨B, Z, O, R, c.1, fun a H1 s1 n1 e1 => w.nx _ H1 _ ⟨hide a O, R.new (p := .ints (g Z)) s1 n1 e1 rfl⟩ (c.2 _ rfl)⟩
theorem xst_lcL (hN : X.N.Nodup) (hi' : X.N[i]? = some x) (hx : X.env.scope.names.lookup x = some .local) (L : LcOk X N' sc cl (none :: cap)) (hc : X.calm = true) (hi : PE X src (tXL X.K G Cs gs)) (hg : ∀ s H fp, PG (cxComp X N' sc cl s H fp) tg (gName 0)) (he : ∀ s H fp, PE (cxComp X N' sc cl s H fp) el (tXI X.K G Cb gi))
    (hsw : swapsWith (.ListComp el [⟨tg, src, [], 0⟩] sc at') (some (.Name x px)) spos.line X.env = pure true) (hs : ∀ x, foldedSetIterable src X.env x = pure x := by intro _; rfl) :
    PS X (.Assign [.Name x px] (.ListComp el [⟨tg, src, [], 0⟩] sc at') spos) (ts X.K G Er fun P Z => (Cs Z /\ (gs Z).length <= 1000 /\ ∀ n ∈ gs Z, Cb ((capR (none :: cap) Z).set 0 (.fr (.int n)))) /\ ∀ ns, ns = ((gs Z).map fun n => gi ((capR (none :: cap) Z).set 0 (.fr (.int n)))) -> P.nx (Z.set i (.ow (.ints ns)))) :=
  own_of (ps_lc hN hi' hx L hc (pi_list hi) hg (fun _ _ _ => pts_nil) he hsw hs) fun σ H Q h => lc_L (p_of_l h)
end
theorem to_lit {k : En -> Prop} {Z Z' : En} (h : Z = Z') (q : k Z') : k Z := by rw [h]; exact q
def tyP : PV -> Option Value
  | .int _ => some (.type "int")
  | .bl _ => some (.type "bool")
  | .non => some (.type "NoneType")
  | .str _ => some (.type "str")
  | .ints _ => some (.type "list")
  | .lst _ => some (.type "list")
  | .tup _ => some (.type "tuple")
  | _ => none
def clsP : PV -> Option Value
  | .ty n => some (.type n)
  | .cls a => some (.ref a)
  | _ => none
theorem At.ty {K : PySem.W.Frag} {G : Gx} {H : Hp} {p : PV} {v : V} {t : Value} (h : At K G H p v) (e : tyP p = some t) : TyOf K H v t := by
  cases p <;> first | cases e | skip
  . cases (show v = _ from h); exact .int _
  . cases (show v = _ from h); exact .bl _
  . cases (show v = _ from h); exact .non
  . cases (show v = _ from h); exact .str _
  . obtain ⟨a, rfl, r | ⟨o, r⟩⟩ := h
    . exact .lst r
    . exact .frz r
  . obtain ⟨a, vs, rfl, r | ⟨o, r⟩, _⟩ := h
    . exact .lst r
    . exact .frz r
  . obtain ⟨a, vs, rfl, r, _⟩ := h
    exact .tup r
theorem At.cls {K : PySem.W.Frag} {G : Gx} {H : Hp} {p : PV} {v : V} {t : Value} (h : At K G H p v) (e : clsP p = some t) : clsV v = some t := by
  cases p <;> first | cases e | skip
  . cases (show v = _ from h); rfl
  . cases (show v = _ from h); rfl
def instP (K : PySem.W.Frag) (p c : PV) : Bool := match tyP p, clsP c with
  | some t, some cv => PySem.W.kitOne K t cv == some true
  | _, _ => false
def instOk (K : PySem.W.Frag) (p c : PV) : Prop := ∃ t cv b, tyP p = some t /\ clsP c = some cv /\ PySem.W.kitOne K t cv = some b
theorem instP_of {K : PySem.W.Frag} {p c : PV} {t cv : Value} {b : Bool} (h1 : tyP p = some t) (h2 : clsP c = some cv) (h : PySem.W.kitOne K t cv = some b) : instP K p c = b := by
  unfold instP
  rw [h1, h2]
  show (PySem.W.kitOne K t cv == some true) = b
  rw [h]
  cases b <;> rfl
theorem TyOf.up {K : PySem.W.Frag} {H H' : Hp} {v : V} {t : Value} (s : Same H H') (h : TyOf K H v t) : TyOf K H' v t := by
  cases h with
  | non => exact .non
  | bl x => exact .bl x
  | int x => exact .int x
  | str x => exact .str x
  | flt x => exact .flt x
  | lst e => exact .lst (s _ _ e)
  | frz e => exact .frz (s _ _ e)
  | tup e => exact .tup (s _ _ e)
  | dK e => exact .dK (s _ _ e)
  | dT e => exact .dT (s _ _ e)
  | ins e a b c d f => exact .ins (s _ _ e) a b c d f
section
variable {X : Cx} {G : Gx} {a b c e : Expr} {es : List Expr} {pos p px apos : Pos} {C Ca Cb Cc : En -> Prop} {ga gc : En -> PV} {gi gj : En -> Int} {i j k n : Nat} {x m : Str}
theorem xe_isinst (hm : X.mg "isinstance" = none) (ha : PE X a (tX X.K G Ca ga)) (hc : PE X c (tX X.K G Cc gc)) (hg : Gl X "isinstance" := by rfl) (he : starEach [a, c] X.env = (false, eval a X.env) :: starEach [c] X.env := by rfl) (he2 : starEach [c] X.env = [(false, eval c X.env)] := by rfl) (hpl : (backTo pos (starEach [c] X.env)).any (·.1) = false := by rfl) :
    PE X (.Call (.Name "isinstance" p) [a, c] [] pos) (tXB X.K G (fun Z => Ca Z /\ Cc Z /\ instOk X.K (ga Z) (gc Z)) fun Z => instP X.K (ga Z) (gc Z) = true) :=
  toX (pe_callB call_isinst hg hm bt_isinstance (pa_cons ha (pa_cons hc pa_nil he2) he) (by decide) (by decide) he hpl) fun B σ H Z O Q R cc q => ⟨B, Z, O, R, cc.1, fun v H1 s1 a1 => ⟨B, Z, O, R.grow s1, cc.2.1, fun u H2 s2 a2 => by
    obtain ⟨t, cv, b, e1, e2, e3⟩ := cc.2.2
    refine ⟨v, u, t, cv, b, rfl, a2.cls e2, TyOf.up (mn_le.trans s2) (a1.ty e1), e3, q _ H2 (s1.trans s2) ?_⟩
    have z : instP X.K (ga Z) (gc Z) = b := instP_of e1 e2 e3
    show V.bl b = V.bl (decide (instP X.K (ga Z) (gc Z) = true))
    rw [z, Bool.decide_eq_true]⟩⟩
theorem xn_max (hcm : X.calm = true) (hm : X.mg "max" = none) (ha : PE X a (tXI X.K G Ca gi)) (hb : PE X b (tXI X.K G Cb gj)) (hg : Gl X "max" := by rfl) (he : starEach [a, b] X.env = (false, eval a X.env) :: starEach [b] X.env := by rfl) (he2 : starEach [b] X.env = [(false, eval b X.env)] := by rfl) (hpl : (backTo pos (starEach [b] X.env)).any (·.1) = false := by rfl) :
    PE X (.Call (.Name "max" p) [a, b] [] pos) (tXI X.K G (fun Z => Ca Z /\ Cb Z) fun Z => if gj Z > gi Z then gj Z else gi Z) :=
  toX (pe_callB (call_max2 hcm) hg hm bt_max (pa_cons ha (pa_cons hb pa_nil he2) he) (by decide) (by decide) he hpl) fun B σ H Z O Q R c q => ⟨B, Z, O, R, c.1, fun v H1 s1 a1 => ⟨B, Z, O, R.grow s1, c.2, fun u H2 s2 a2 => by
    have a1 : v = .int (gi Z) := a1
    have a2 : u = .int (gj Z) := a2
    subst a1 a2
    exact ⟨_, _, rfl, q _ H2 (s1.trans s2) rfl⟩⟩⟩
theorem xn_min (hcm : X.calm = true) (hm : X.mg "min" = none) (ha : PE X a (tXI X.K G Ca gi)) (hb : PE X b (tXI X.K G Cb gj)) (hg : Gl X "min" := by rfl) (he : starEach [a, b] X.env = (false, eval a X.env) :: starEach [b] X.env := by rfl) (he2 : starEach [b] X.env = [(false, eval b X.env)] := by rfl) (hpl : (backTo pos (starEach [b] X.env)).any (·.1) = false := by rfl) :
    PE X (.Call (.Name "min" p) [a, b] [] pos) (tXI X.K G (fun Z => Ca Z /\ Cb Z) fun Z => if gj Z < gi Z then gj Z else gi Z) :=
  toX (pe_callB (call_min2 hcm) hg hm bt_min (pa_cons ha (pa_cons hb pa_nil he2) he) (by decide) (by decide) he hpl) fun B σ H Z O Q R c q => ⟨B, Z, O, R, c.1, fun v H1 s1 a1 => ⟨B, Z, O, R.grow s1, c.2, fun u H2 s2 a2 => by
    have a1 : v = .int (gi Z) := a1
    have a2 : u = .int (gj Z) := a2
    subst a1 a2
    exact ⟨_, _, rfl, q _ H2 (s1.trans s2) rfl⟩⟩⟩
abbrev spFI (K : PySem.W.Frag) (G : Gx) (pre : List PV -> Prop) (F : List PV -> Int) : Sp := spF K G pre fun as => .int (F as)
abbrev spFB (K : PySem.W.Frag) (G : Gx) (pre : List PV -> Prop) (F : List PV -> Bool) : Sp := spF K G pre fun as => .bl (F as)
abbrev spFL (K : PySem.W.Frag) (G : Gx) (pre : List PV -> Prop) (F : List PV -> List Int) : Sp := spF K G pre fun as => .ints (F as)
variable {ps : List Str} {pre : List PV -> Prop} {gs : En -> List PV}
theorem xcL {F : List PV -> List Int} (o : Ok X.prog X.w X.K X.mg X.base j x ps (spFL X.K G pre F)) (hr : Room k X.A) (ha : PA X (e :: es) (tXs X.K G C gs)) (hj : j <= k := by decide) (hg : Gl X x := by rfl) (hdb : (x == ("__debug__" : Str)) = false := by decide)
    (he : starEach (e :: es) X.env = (false, eval e X.env) :: starEach es X.env := by rfl) (hpl : (backTo pos (starEach es X.env)).any (·.1) = false := by rfl) :
    PE X (.Call (.Name x p) (e :: es) [] pos) (tXL X.K G (fun Z => C Z /\ pre (gs Z)) fun Z => F (gs Z)) := xc o hr ha hj hg hdb he hpl
theorem xci {F : List PV -> Int} (o : Ok X.prog X.w X.K X.mg X.base j x ps (spFI X.K G pre F)) (hr : Room k X.A) (ha : PA X (e :: es) (tXs X.K G C gs)) (hj : j <= k := by decide) (hg : Gl X x := by rfl) (hdb : (x == ("__debug__" : Str)) = false := by decide)
    (he : starEach (e :: es) X.env = (false, eval e X.env) :: starEach es X.env := by rfl) (hpl : (backTo pos (starEach es X.env)).any (·.1) = false := by rfl) :
    PE X (.Call (.Name x p) (e :: es) [] pos) (tXI X.K G (fun Z => C Z /\ pre (gs Z)) fun Z => F (gs Z)) := xc o hr ha hj hg hdb he hpl
theorem xcb {F : List PV -> Bool} (o : Ok X.prog X.w X.K X.mg X.base j x ps (spFB X.K G pre F)) (hr : Room k X.A) (ha : PA X (e :: es) (tXs X.K G C gs)) (hj : j <= k := by decide) (hg : Gl X x := by rfl) (hdb : (x == ("__debug__" : Str)) = false := by decide)
    (he : starEach (e :: es) X.env = (false, eval e X.env) :: starEach es X.env := by rfl) (hpl : (backTo pos (starEach es X.env)).any (·.1) = false := by rfl) :
    PE X (.Call (.Name x p) (e :: es) [] pos) (tXB X.K G (fun Z => C Z /\ pre (gs Z)) fun Z => F (gs Z) = true) :=
  toX (xc o hr ha hj hg hdb he hpl) fun B σ H Z O Q R c q => ⟨B, Z, O, R, c, fun v H' s a => q v H' s (by dsimp only; rw [Bool.decide_eq_true]; exact a)⟩
def getZ (Z : En) (i : Nat) : Int := match Z[i]? with
  | some (.fr (.ob 0 z)) => z
  | _ => 0
def isK (Z : En) (i : Nat) : Prop := Z[i]? = some (.fr (.ob 0 (getZ Z i)))
theorem xn_kmeth {KA : Hp -> Addr -> Int -> Prop} {preK : Int -> List Int -> Prop} {F : Int -> List Int -> Int} {pl : Sem Bool} (i : Nat) (M : KM X.prog X.w X.K X.mg X.base j KA m n preK F) (hr : Room k X.A) (ha : PA X (e :: es) (tXs X.K G C gs)) (hn : ∀ Z, (gs Z).length = n := by intro _; rfl) (hG : ∀ H a z, G.ob 0 H a z -> KA H a z := by first | exact fun _ _ _ h => h.2 | exact fun _ _ _ h => h.elim (fun z => z.2) fun z => absurd z.1 (by decide)) (hGm : ∀ {H H' : Hp} {a : Addr} {z : Int}, KA H a z -> Same H H' -> KA H' a z := by first | exact fun h s => KAt.same h s | exact fun h s => h.same s) (hj : j <= k := by decide)
    (hN : X.N[i]? = some x := by rfl) (hv : Vis X.env.scope x := by first | exact Or.inl rfl | exact Or.inr (Or.inl rfl) | exact Or.inr (Or.inr rfl)) (hd : (x == ("__debug__" : Str)) = false := by decide) (hcd : (x == ("__classdict__" : Str)) = false := by decide)
    (hst : starEach (e :: es) X.env = (false, eval e X.env) :: starEach es X.env := by rfl) (hpl : (backTo pos (starEach es X.env)).any (·.1) = false := by rfl)
    (ht : eval (.Call (.Attribute (.Name x px) m apos) (e :: es) [] pos) X.env = (do
      let ov <- eval (.Name x px) X.env
      standAt apos.atName
      let (f, first) <- holding [ov] (getMethod ov m pl)
      callWith pos f first (backTo pos (starEach (e :: es) X.env)) (backToKw pos (keywordEach [] X.env))) := by rfl) :
    PE X (.Call (.Attribute (.Name x px) m apos) (e :: es) [] pos) (tXI X.K G (fun Z => isK Z i /\ C Z /\ areI (gs Z) /\ preK (getZ Z i) (allI (gs Z))) fun Z => F (getZ Z i) (allI (gs Z))) := by
  intro pins s σ H Q I h
  obtain ⟨B, Z, O, R, ⟨c0, c1, c2, c3⟩, q⟩ := h
  obtain ⟨v, e1, a, rfl, ka⟩ := R.fr i _ c0
  have ka1 : KA H a (getZ Z i) := hGm (hG _ _ _ ka) mn_le
  obtain ⟨Cl, dx, fs, ps, f1, f2, M'⟩ := M.ex H a _ ka1
  obtain ⟨f, fd, FF, bb, mm, cc⟩ := M'.ex
  refine pe_meth (pe_var hN hv hd hcd) cc mm (FF.mono hj) hr bb .nil pass0 ha hst hpl ht pins s σ H Q I ⟨_, e1, a, dx, fs, rfl, f1, f2, B, Z, O, R, c1, fun vs H1 s1 a1 => ?_⟩
  have ev := a1.ints c2
  have el : (allI (gs Z)).length = n := by rw [<- hn Z, a1.length, ev, List.length_map]
  exact ⟨allI (gs Z), el, by rw [List.append_nil, ev], hGm ka1 s1, c3, q _ H1 s1 rfl⟩
end
theorem areI_len : ∀ {as : List PV}, areI as -> (allI as).length = as.length
  | [], _ => rfl
  | p :: r, h => by
    cases p <;> first | exact h.elim | skip
    show (allI r).length + 1 = r.length + 1
    rw [areI_len (as := r) h]
section
variable {P : Program} {w : World} {K : PySem.W.Frag} {mg : Str -> Option Value} {base : Heap} {G : Gx} {k n : Nat} {x : Str} {ps : List Str}
theorem liftB {pre : List Int -> Prop} {F : List Int -> Bool} (o : Ok P w K mg base k x ps (spB n pre F)) : Ok P w K mg base k x ps (spFB K G (fun as => areI as /\ as.length = n /\ pre (allI as)) fun as => F (allI as)) :=
  o.imp fun vs H Q E ⟨as, O, _, al, ⟨h1, h2, h3⟩, q⟩ => ⟨allI as, by rw [areI_len h1, h2], al.ints h1, h3, q _ H (Same.refl H) rfl⟩
def scrI : List PV -> List Int
  | .scr ns :: _ => ns
  | _ => []
def preS (n : Nat) (pre : List Int -> List Int -> Prop) : List PV -> Prop
  | .scr ns :: r => areI r /\ r.length = n /\ pre ns (allI r)
  | _ => False
theorem liftS {pre : List Int -> List Int -> Prop} {F : List Int -> List Int -> Int} (o : Ok P w K mg base k x ps (spS K n pre F)) : Ok P w K mg base k x ps (spFI K G (preS n pre) fun as => F (scrI as) (allI as.tail)) :=
  o.imp fun vs H Q E ⟨as, O, _, al, hp, q⟩ => by
    match as, hp, al, q with
    | .scr ns :: r, ⟨h1, h2, h3⟩, al, q =>
      obtain ⟨v, t, rfl, ⟨a, rfl, hs⟩, al2⟩ := al
      exact ⟨a, ns, allI r, by rw [areI_len h1, h2], by rw [al2.ints h1], mn_le.seq hs, h3, q _ H (Same.refl H) rfl⟩
end
section
variable {X : Cx} {G : Gx} {Er : ER} {b e : Expr} {px ps pos : Pos} {C Cb : En -> Prop} {g gb : En -> Int}
theorem get_list : PGet X (rIxL X.K) := by
  intro pins s σ H x y v u Q I rx ry h
  obtain ⟨p, xs, i, z, rfl, rfl, hq, he, q⟩ := h
  cases rx
  obtain ⟨t, rfl⟩ := ry
  obtain ⟨its, r, pl, hz⟩ := I.list hq
  obtain ⟨j, h1, h2, h3, h4, h5⟩ := atI_get he
  obtain ⟨w, ew, rw'⟩ := r.get h2
  have hl := r.length
  have hn := line63
  have fin : EP X pins σ Q w s := ⟨z, H, I, rw', q⟩
  by_cases h0 : 0 <= i
  . have hj : i.toNat = j := by
      rw [seqIndex_of h0 h5] at h1
      exact Option.some.inj h1
    exact wpAny_getItem_list pl.isList h0 (by omega) (by rw [hj]; simpa using ew) fin
  . have hj : (i + (its.toArray.size : Int)).toNat = j := by
      rw [seqIndex_neg (by omega) h4] at h1
      rw [List.size_toArray, <- hl]
      exact Option.some.inj h1
    exact wpAny_getItem_list_neg pl.isList (by omega) (by rw [List.size_toArray] <;> omega) (by omega) (by rw [hj]; simpa using ew) fin
theorem xst_augit (i : Nat) {x : Str} {op : Operator} {Pr : Int -> Int -> Prop} {h : Int -> Int -> Int} (hk : PE X b (tXI X.K G Cb gb)) (he : PE X e (tXI X.K G C g)) (ho : OpR X (inplaceOp op) (rI Pr fun i j => .int (h i j))) (hN : X.N[i]? = some x := by rfl) (hv : Vis X.env.scope x := by first | exact Or.inl rfl | exact Or.inr (Or.inl rfl) | exact Or.inr (Or.inr rfl))
    (hd : (x == ("__debug__" : Str)) = false := by decide) (hcd : (x == ("__classdict__" : Str)) = false := by decide)
    (ha : ∀ ov iv new, augStore b ov iv new = (do holding [new, ov, iv] (setItem ov iv new); release [new, ov, iv] []; pure .next) := by intros; rfl) :
    PS X (.AugAssign (.Subscript (.Name x px) b ps) op e pos) (ts X.K G Er fun P Z => isO Z i /\ Cb Z /\ (-((getL Z i).length : Int) <= gb Z /\ gb Z < ((getL Z i).length : Int)) /\ C Z /\ Pr ((getL Z i).getD (ixO (getL Z i).length (gb Z)) 0) (g Z) /\
      P.nx (Z.set i (.ow (.ints ((getL Z i).set (ixO (getL Z i).length (gb Z)) (h ((getL Z i).getD (ixO (getL Z i).length (gb Z)) 0) (g Z))))))) :=
  toS (ps_augS (pe_var hN hv hd hcd) hk get_list he ho set_list ha) fun B σ H Z O P D R c w => by
    obtain ⟨c0, c1, cb, c2, cp, c3⟩ := c
    obtain ⟨a, vs, e1, e2, e3, e4, e5⟩ := R.ow i _ c0
    have e5 : vs = (getL Z i).map V.int := e5
    subst e5
    refine ⟨_, e1, B, Z, O, R, c1, fun u H1 s1 a1 => ?_⟩
    have a1 : u = .int (gb Z) := a1
    subst a1
    refine ⟨a, _, _, _, rfl, rfl, SqL.of (s1 _ _ e4), getD_at cb.1 cb.2, B, Z, O, R.grow s1, c2, fun v H2 s2 a2 => ?_⟩
    have a2 : v = .int (g Z) := a2
    subst a2
    refine ⟨_, _, rfl, rfl, cp, a, _, _, _, rfl, rfl, s2 _ _ (s1 _ _ e4), by rw [List.length_map]; exact ixN_ok cb.1 cb.2, w.nx σ _ _ ⟨O, ((R.grow s1).grow s2).change c0 e1 (p' := .ints _) ?_⟩ c3⟩
    show _ = ((getL Z i).set _ _).map V.int
    rw [List.map_set]
    rfl
end
end L3
namespace L3
open PySem PyProof.Rows L2 FM
theorem cutI_len (xs : List Int) (lo hi : Option Int) : (cutI xs lo hi).length <= xs.length := by
  unfold cutI
  rw [List.length_take, List.length_drop]
  omega
theorem cutI_from (xs : List Int) (a : Nat) : cutI xs (some (a : Int)) none = xs.drop a := by
  unfold cutI
  rw [HT.sIx_nat, HT.sIx_none]
  by_cases h : a <= xs.length
  . rw [Nat.min_eq_left h, List.take_of_length_le (by rw [List.length_drop]; omega)]
  . rw [Nat.min_eq_right (by omega), List.drop_eq_nil_of_le (Nat.le_refl _), List.drop_eq_nil_of_le (by omega), List.take_nil]
theorem pl_small {z a : Int} {B : Nat} (hz : 0 <= z) (hz2 : z < (B : Int)) (ha : a.natAbs < B) : (pl z a).natAbs < B := by
  by_cases h : z = 0
  . subst h; exact ha
  . have := pl_lt (z := z) (n := a) (by omega)
    omega
end L3
namespace L2
open PySem PySem.Spec PyProof.Rows
def pick3 {α : Type} (xs : List α) (lo hi st : Option Int) : List α := (sliceRange (sliceBounds lo hi st xs.length).1 (sliceBounds lo hi st xs.length).2.1 (sliceBounds lo hi st xs.length).2.2).filterMap fun k => xs[k]?
theorem pick_vals {xs : List V} {its : List Value} (r : Vals xs its) : ∀ l : List Nat, Vals (l.filterMap fun k => xs[k]?) (l.filterMap fun k => its[k]?)
  | [] => .nil
  | k :: l => by
    rw [List.filterMap_cons, List.filterMap_cons]
    cases e : xs[k]? with
    | none => rw [r.none_of e]; exact pick_vals r l
    | some x =>
      obtain ⟨u, e', ru⟩ := r.get e
      rw [e']
      exact .cons ru (pick_vals r l)
theorem pick_len {α : Type} (xs : List α) (lo hi st : Option Int) : (pick3 xs lo hi st).length <= xs.length := by
  unfold pick3
  have h := slicePick_size_le (xs.map fun _ => Value.none).toArray lo hi st
  unfold slicePick at h
  rw [List.size_toArray, List.size_toArray, List.length_map] at h
  refine Nat.le_trans (Nat.le_of_eq ?_) h
  generalize sliceRange _ _ _ = l
  induction l with
  | nil => rfl
  | cons k l ih =>
    rw [List.filterMap_cons, List.filterMap_cons, List.getElem?_toArray, List.getElem?_map]
    cases xs[k]? with
    | none => exact ih
    | some x => simp only [Option.map_some, List.length_cons, ih]
theorem pick_map {α β : Type} (f : α -> β) (xs : List α) (lo hi st : Option Int) : pick3 (xs.map f) lo hi st = (pick3 xs lo hi st).map f := by
  unfold pick3
  rw [List.length_map]
  generalize sliceRange _ _ _ = l
  induction l with
  | nil => rfl
  | cons k l ih =>
    rw [List.filterMap_cons, List.filterMap_cons, List.getElem?_map]
    cases xs[k]? with
    | none => exact ih
    | some x => simp only [Option.map_some, List.map_cons, ih]
section
variable {X : Cx} {e st : Expr} {te : TE} {lo hi : Option Expr} {tl th tt : TO} {pos p2 : Pos}
def tSl3 (K : PySem.W.Frag) (te : TE) (tl th tt : TO) : TE := fun σ H Q => te σ H fun x H1 => tl σ H1 fun l H2 => th σ H2 fun u H3 => tt σ H3 fun k H4 => ∃ a xs, x = .ref a /\ SqL K H4 a xs /\ k ≠ some 0 /\ ∀ p, H4 p = none -> Q (.ref p) (upd H4 p (.lst (pick3 xs l u k)))
theorem pe_slice3 (he : PE X e te) (hl : PO X lo tl) (hu : PO X hi th) (ht : PO X (some st) tt) : PE X (.Subscript e (.Slice lo hi (some st) p2) pos) (tSl3 X.K te tl th tt) := by
  intro pins s σ H Q I h
  refine Subscript_ (thn (he pins s σ H _ I h) fun v s1 ⟨x, H1, I1, r1, q1⟩ => ?_)
  refine wpAny_Slice (thn (hl pins s1 σ H1 _ I1 q1) fun vl s2 ⟨l, H2, I2, pl, q2⟩ => thn (hu pins s2 σ H2 _ I2 q2) fun vu s3 ⟨u, H3, I3, pu, q3⟩ => thn (ht pins s3 σ H3 _ I3 q3) fun vs s4 ⟨k, H4, I4, pk, q4⟩ => ?_)
  obtain ⟨a, xs, rfl, hx, h0, q⟩ := q4
  cases r1
  have I5 : Inv X pins σ H4 { s4 with heap := s4.heap.push { cls := .type "slice", data := .fields #[vl, vu, vs] } } := I4.kept (t' := s4.toks) fun b ob q => Heap.get?_push_of_some _ q
  obtain ⟨its, r, ht', hz⟩ := I5.list hx
  have hlen := r.length
  refine tail_any (ops := [.ref a, .ref s4.heap.objs.size]) ht'.isList.typeIs slot_list_getitem.lookup ?_ (by with_unfolding_all rfl)
  refine wpAny_getItem_list_slice ht'.isList (Heap.IsSliceOf.new ..) pl pu pk h0 ?_ (by rw [List.size_toArray] <;> omega)
  have ep : slicePick its.toArray l u k = (pick3 its l u k).toArray := by
    unfold slicePick pick3
    rw [List.size_toArray]
    congr 1
    congr 1
    funext j
    exact List.getElem?_toArray
  rw [ep]
  refine ⟨.ref _, _, I5.laid (t' := s4.toks) (o := .lst (pick3 xs l u k)) (fun b ob q => Heap.get?_push_of_some _ q) (Nat.le_refl _) ?_, rfl, q _ (I5.hok.fresh (Nat.le_refl _))⟩
  refine ⟨Nat.le_trans (pick_len xs l u k) hz, _, 0, ?_, Heap.get?_push_size _ rfl⟩
  unfold pick3
  rw [<- hlen]
  exact pick_vals r _
end
end L2
namespace L3
open PySem PySem.Spec PyProof.Rows L2
section
variable {X : Cx} {G : Gx} {a : Expr} {pos p2 : Pos} {C : En -> Prop}
theorem xl_slice2 {st : Expr} {lo hi : Option Expr} {g : En -> PV} {ns : En -> List Int} {Cl Ch Cs : En -> Prop} {gl gh gk : En -> Option Int} (ha : PE X a (tX X.K G C g)) (hl : PO X lo (tXo X.K G Cl gl)) (hh : PO X hi (tXo X.K G Ch gh)) (hs : PO X (some st) (tXo X.K G Cs gk)) (hn : ∀ Z, C Z -> g Z = .ints (ns Z) \/ g Z = .scr (ns Z)) :
    PE X (.Subscript a (.Slice lo hi (some st) p2) pos) (tXl X.K G (fun Z => C Z /\ Cl Z /\ Ch Z /\ Cs Z /\ gk Z ≠ some 0) fun Z => pick3 (ns Z) (gl Z) (gh Z) (gk Z)) :=
  toXl (pe_slice3 ha hl hh hs) fun B σ H Z O Q R c q => ⟨B, Z, O, R, c.1, fun v H1 s1 a1 => ⟨B, Z, O, R.grow s1, c.2.1, fun H2 s2 => ⟨B, Z, O, (R.grow s1).grow s2, c.2.2.1, fun H3 s3 => ⟨B, Z, O, ((R.grow s1).grow s2).grow s3, c.2.2.2.1, fun H4 s4 => by
    have key : ∃ p, v = .ref p /\ SqL X.K H1 p ((ns Z).map V.int) := by
      rcases hn Z c.1 with z | z
      . rw [z] at a1; obtain ⟨p, e, r⟩ := a1; exact ⟨p, e, .inl (same_rd mn_le r)⟩
      . rw [z] at a1; obtain ⟨p, e, r⟩ := a1; exact ⟨p, e, mn_le.seq r⟩
    obtain ⟨p, rfl, r⟩ := key
    refine ⟨p, _, rfl, ((s2.trans s3).trans s4).seq r, c.2.2.2.2, fun l hl => q l _ ((((s1.trans s2).trans s3).trans s4).trans (same_new hl _)) ((((s1.trans s2).trans s3).trans s4).free hl) ?_⟩
    rw [upd_same, pick_map]⟩⟩⟩⟩
end
end L3
namespace FM
open L2
theorem getD_ge {xs : List Int} {n : Nat} (h : xs.length <= n) : xs.getD n 0 = 0 := by rw [gQ, List.getElem?_eq_none h]; rfl
theorem getD_lt {xs : List Int} {n : Nat} (h : n < xs.length) : xs.getD n 0 = xs[n] := by rw [gQ, List.getElem?_eq_getElem h]; rfl
theorem getD_at' {xs : List Int} {n : Nat} {x : Int} (h : xs[n]? = some x) : xs.getD n 0 = x := by rw [gQ, h]; rfl
theorem getD_mem {xs : List Int} {n : Nat} (h : n < xs.length) : xs.getD n 0 ∈ xs := by rw [getD_lt h]; exact List.getElem_mem h
theorem getD_map (f : Int -> Int) (h0 : f 0 = 0) (xs : List Int) (n : Nat) : (xs.map f).getD n 0 = f (xs.getD n 0) := by
  by_cases h : n < xs.length
  . rw [getD_lt (by rw [List.length_map]; exact h), List.getElem_map, getD_lt h]
  . rw [getD_ge (by rw [List.length_map]; omega), getD_ge (by omega), h0]
theorem pl_0 (z : Int) : pl z 0 = 0 := by
  unfold pl
  split
  . rfl
  . exact Int.zero_emod z
theorem snoc_get (xs : List Int) (x : Int) (n : Nat) : (xs ++ [x]).getD n 0 = if n = xs.length then x else xs.getD n 0 := by
  by_cases h : n < xs.length
  . rw [getD_lt (by rw [List.length_append]; omega), List.getElem_append_left h, if_neg (by omega), getD_lt h]
  . by_cases h2 : n = xs.length
    . subst h2
      rw [if_pos rfl, getD_lt (by rw [List.length_append, List.length_singleton]; omega), List.getElem_append_right (Nat.le_refl _)]
      simp
    . rw [if_neg h2, getD_ge (by rw [List.length_append, List.length_singleton]; omega), getD_ge (by omega)]
theorem snoc_or (xs : List Int) : xs = [] \/ ∃ ys x, xs = ys ++ [x] := by
  by_cases h : xs = []
  . exact .inl h
  . exact .inr ⟨_, _, (List.dropLast_concat_getLast h).symm⟩
theorem trimZ_get : ∀ (k : Nat) (xs : List Int), xs.length = k -> ∀ n, (trimZ xs).getD n 0 = xs.getD n 0
  | 0, xs, h, n => by
    have : xs = [] := List.length_eq_zero_iff.mp h
    subst this
    rfl
  | k + 1, xs, h, n => by
    rcases snoc_or xs with rfl | ⟨ys, x, rfl⟩
    . rfl
    . by_cases hx : x = 0
      . subst hx
        have hl : ys.length = k := by rw [List.length_append, List.length_singleton] at h; omega
        rw [trimZ_zero, trimZ_get k ys hl n, snoc_get]
        by_cases h2 : n = ys.length
        . rw [if_pos h2, getD_ge (by omega)]
        . rw [if_neg h2]
      . rw [trimZ_ne _ hx]
theorem trim_get (xs : List Int) (n : Nat) : (trimZ xs).getD n 0 = xs.getD n 0 := trimZ_get _ xs rfl n
def InForm (xs : List Int) : Prop := xs ≠ [] -> xs.getD (xs.length - 1) 0 ≠ 0
theorem trimZ_form : ∀ (k : Nat) (xs : List Int), xs.length = k -> InForm (trimZ xs)
  | 0, xs, h => by
    have : xs = [] := List.length_eq_zero_iff.mp h
    subst this
    intro h; exact absurd rfl h
  | k + 1, xs, h => by
    rcases snoc_or xs with rfl | ⟨ys, x, rfl⟩
    . intro h; exact absurd rfl h
    . by_cases hx : x = 0
      . subst hx
        rw [trimZ_zero]
        exact trimZ_form k ys (by rw [List.length_append, List.length_singleton] at h; omega)
      . rw [trimZ_ne _ hx]
        intro _
        rw [snoc_get, if_pos (by rw [List.length_append, List.length_singleton]; omega)]
        exact hx
theorem trim_form (xs : List Int) : InForm (trimZ xs) := trimZ_form _ xs rfl
theorem form_ext {a b : List Int} (ha : InForm a) (hb : InForm b) (h : ∀ n, a.getD n 0 = b.getD n 0) : a = b := by
  have le : ∀ {a b : List Int}, InForm a -> (∀ n, a.getD n 0 = b.getD n 0) -> a.length <= b.length := fun {a b} ha h => by
    by_cases c : a.length <= b.length
    . exact c
    . have hne : a ≠ [] := fun z => by subst z; exact c (Nat.zero_le _)
      exact absurd (by rw [h, getD_ge (by omega)]) (ha hne)
  have hl : a.length = b.length := Nat.le_antisymm (le ha h) (le hb fun n => (h n).symm)
  refine List.ext_getElem hl fun i h1 h2 => ?_
  have := h i
  rw [getD_lt h1, getD_lt h2] at this
  exact this
theorem trim_ext {a b : List Int} (h : ∀ n, a.getD n 0 = b.getD n 0) : trimZ a = trimZ b :=
  form_ext (trim_form a) (trim_form b) fun n => by rw [trim_get, trim_get, h]
theorem trim_pl {z : Int} {a b : List Int} (h : ∀ n, pl z (a.getD n 0) = pl z (b.getD n 0)) : trimZ (a.map (pl z)) = trimZ (b.map (pl z)) :=
  trim_ext fun n => by rw [getD_map _ (pl_0 z), getD_map _ (pl_0 z), h]
def Tz (z : Int) (f : List Int) : List Int := trimZ (f.map (pl z))
theorem Tz_get (z : Int) (f : List Int) (n : Nat) : (Tz z f).getD n 0 = pl z (f.getD n 0) := by unfold Tz; rw [trim_get, getD_map _ (pl_0 z)]
theorem Tz_len (z : Int) (f : List Int) : (Tz z f).length <= f.length := by
  unfold Tz
  refine Nat.le_trans (trimZ_len _) ?_
  rw [List.length_map]
  exact Nat.le_refl _
theorem mem_getD {xs : List Int} {m : Int} (h : m ∈ xs) : ∃ n, n < xs.length /\ xs.getD n 0 = m := by
  obtain ⟨n, h1, h2⟩ := List.getElem_of_mem h
  exact ⟨n, h1, by rw [getD_lt h1, h2]⟩
theorem Tz_mem {z : Int} {f : List Int} {m : Int} (h : m ∈ Tz z f) : ∃ k ∈ f, m = pl z k := by
  obtain ⟨n, h1, h2⟩ := mem_getD h
  rw [Tz_get] at h2
  exact ⟨f.getD n 0, getD_mem (Nat.lt_of_lt_of_le h1 (Tz_len z f)), h2.symm⟩
def sm : Nat -> (Nat -> Int) -> Int
  | 0, _ => 0
  | n + 1, f => sm n f + f n
theorem sm_congr {f g : Nat -> Int} : ∀ {n : Nat}, (∀ i, i < n -> f i = g i) -> sm n f = sm n g
  | 0, _ => rfl
  | n + 1, h => by
    show sm n f + f n = sm n g + g n
    rw [sm_congr fun i hi => h i (by omega), h n (by omega)]
theorem sm_zero {f : Nat -> Int} : ∀ {n : Nat}, (∀ i, i < n -> f i = 0) -> sm n f = 0
  | 0, _ => rfl
  | n + 1, h => by
    show sm n f + f n = 0
    rw [sm_zero fun i hi => h i (by omega), h n (by omega)]
    rfl
theorem sm_more {f : Nat -> Int} {n : Nat} : ∀ {m : Nat}, n <= m -> (∀ i, n <= i -> i < m -> f i = 0) -> sm m f = sm n f
  | 0, h, _ => by
    have : n = 0 := by omega
    subst this; rfl
  | m + 1, h, z => by
    by_cases c : n = m + 1
    . subst c; rfl
    . show sm m f + f m = sm n f
      rw [z m (by omega) (by omega), Int.add_zero]
      exact sm_more (by omega) fun i h1 h2 => z i h1 (by omega)
theorem sm_head (f : Nat -> Int) : ∀ n, sm (n + 1) f = f 0 + sm n fun i => f (i + 1)
  | 0 => by show 0 + f 0 = f 0 + 0; omega
  | n + 1 => by
    show sm (n + 1) f + f (n + 1) = f 0 + (sm n (fun i => f (i + 1)) + f (n + 1))
    rw [sm_head f n]
    omega
theorem sm_rev (f : Nat -> Int) : ∀ n, sm (n + 1) f = sm (n + 1) fun i => f (n - i)
  | 0 => rfl
  | n + 1 => by
    rw [sm_head (fun i => f (n + 1 - i)) (n + 1)]
    show sm (n + 1) f + f (n + 1) = f (n + 1 - 0) + sm (n + 1) fun i => f (n + 1 - (i + 1))
    rw [sm_rev f n, Nat.sub_zero]
    have : sm (n + 1) (fun i => f (n - i)) = sm (n + 1) fun i => f (n + 1 - (i + 1)) := sm_congr fun i _ => by rw [Nat.add_sub_add_right]
    omega
theorem pl_sm {z : Int} {f g : Nat -> Int} : ∀ {n : Nat}, (∀ i, i < n -> pl z (f i) = pl z (g i)) -> pl z (sm n f) = pl z (sm n g)
  | 0, _ => rfl
  | n + 1, h => by
    show pl z (sm n f + f n) = pl z (sm n g + g n)
    rw [<- pl_add, <- pl_add', pl_sm fun i hi => h i (by omega), h n (by omega), pl_add, pl_add']
def cm (f g : List Int) (n : Nat) : Int := sm (n + 1) fun i => f.getD i 0 * g.getD (n - i) 0
theorem cm_comm (f g : List Int) (n : Nat) : cm f g n = cm g f n := by
  unfold cm
  rw [sm_rev]
  refine sm_congr fun i hi => ?_
  rw [Int.mul_comm, show n - (n - i) = i by omega]
theorem cm_pl {z : Int} {f g f' g' : List Int} (hf : ∀ n, pl z (f.getD n 0) = pl z (f'.getD n 0)) (hg : ∀ n, pl z (g.getD n 0) = pl z (g'.getD n 0)) (n : Nat) : pl z (cm f g n) = pl z (cm f' g' n) :=
  pl_sm fun i _ => by rw [<- pl_mul, <- pl_mul', hf, hg, pl_mul, pl_mul']
def cpart (f g : List Int) (n i : Nat) : Int := sm i fun j => if j <= n then f.getD j 0 * g.getD (n - j) 0 else 0
theorem cpart_all (f g : List Int) (n : Nat) {i : Nat} (h : f.length <= i) : cpart f g n i = cm f g n := by
  have e : cm f g n = cpart f g n (n + 1) := sm_congr fun j hj => by rw [if_pos (by omega)]
  rw [e]
  unfold cpart
  rcases Nat.le_total i (n + 1) with c | c
  . refine (sm_more c fun j h1 h2 => ?_).symm
    rw [getD_ge (show f.length <= j by omega), Int.zero_mul]
    split <;> rfl
  . refine sm_more c fun j h1 h2 => ?_
    rw [if_neg (by omega)]
theorem cm_ge {f g : List Int} {n : Nat} (h : f.length + g.length <= n + 1) : cm f g n = 0 := by
  unfold cm
  refine sm_zero fun i hi => ?_
  by_cases c : i < f.length
  . rw [getD_ge (show g.length <= n - i by omega), Int.mul_zero]
  . rw [getD_ge (show f.length <= i by omega), Int.zero_mul]
def convL (f g : List Int) : List Int := (List.range (f.length + g.length)).map (cm f g)
theorem convL_get (f g : List Int) (n : Nat) : (convL f g).getD n 0 = cm f g n := by
  unfold convL
  by_cases h : n < f.length + g.length
  . rw [getD_lt (by rw [List.length_map, List.length_range]; exact h), List.getElem_map, List.getElem_range]
  . rw [getD_ge (by rw [List.length_map, List.length_range]; omega), cm_ge (by omega)]
theorem list_ext {a b : List Int} (hl : a.length = b.length) (h : ∀ n, a.getD n 0 = b.getD n 0) : a = b := by
  refine List.ext_getElem hl fun i h1 h2 => ?_
  have := h i
  rw [getD_lt h1, getD_lt h2] at this
  exact this
def RowAt (f g : List Int) (i k : Nat) (row : List Int) : Prop := row.length = f.length + g.length /\ ∀ n, row.getD n 0 = cpart f g n i + if i <= n /\ n - i < k then f.getD i 0 * g.getD (n - i) 0 else 0
theorem row_start (f g : List Int) : RowAt f g 0 0 (List.replicate (f.length + g.length) 0) := by
  refine ⟨List.length_replicate, fun n => ?_⟩
  rw [if_neg (by omega)]
  show _ = (0 : Int) + 0
  by_cases h : n < f.length + g.length
  . rw [getD_lt (by rw [List.length_replicate]; exact h), List.getElem_replicate]; rfl
  . rw [getD_ge (by rw [List.length_replicate]; omega)]; rfl
theorem set_get (row : List Int) (j : Nat) (x : Int) (n : Nat) (h : j < row.length) : (row.set j x).getD n 0 = if n = j then x else row.getD n 0 := by
  by_cases c : n = j
  . subst c
    rw [if_pos rfl, getD_lt (by rw [List.length_set]; exact h), List.getElem_set_self]
  . rw [if_neg c, gQ, List.getElem?_set_ne (by omega), <- gQ]
theorem row_step {f g row : List Int} {i k : Nat} (h : RowAt f g i k row) (hi : i < f.length) (hk : k < g.length) : RowAt f g i (k + 1) (row.set (i + k) (row.getD (i + k) 0 + f.getD i 0 * g.getD k 0)) := by
  obtain ⟨hl, hr⟩ := h
  refine ⟨by rw [List.length_set]; exact hl, fun n => ?_⟩
  rw [set_get _ _ _ _ (by omega)]
  by_cases c : n = i + k
  . subst c
    rw [if_pos rfl, hr, if_neg (by omega), if_pos (by omega), show i + k - i = k by omega]
    omega
  . rw [if_neg c, hr]
    by_cases d : i <= n /\ n - i < k
    . rw [if_pos d, if_pos (by omega)]
    . rw [if_neg d, if_neg (by omega)]
theorem row_next {f g row : List Int} {i : Nat} (h : RowAt f g i g.length row) : RowAt f g (i + 1) 0 row := by
  obtain ⟨hl, hr⟩ := h
  refine ⟨hl, fun n => ?_⟩
  rw [hr, if_neg (show ¬ (i + 1 <= n /\ n - (i + 1) < 0) by omega)]
  show _ = cpart f g n i + (if i <= n then f.getD i 0 * g.getD (n - i) 0 else 0) + 0
  by_cases c : i <= n
  . rw [if_pos c]
    by_cases d : n - i < g.length
    . rw [if_pos ⟨c, d⟩]; omega
    . rw [if_neg (by omega), getD_ge (show g.length <= n - i by omega), Int.mul_zero]; omega
  . rw [if_neg (by omega), if_neg c]; omega
theorem row_end {f g row : List Int} (h : RowAt f g f.length 0 row) : row = convL f g := by
  obtain ⟨hl, hr⟩ := h
  refine list_ext (by rw [hl]; unfold convL; rw [List.length_map, List.length_range]) fun n => ?_
  rw [hr, if_neg (by omega), convL_get, cpart_all f g n (Nat.le_refl _)]
  omega
end FM
namespace L3
open PySem PySem.Spec PyProof.Rows L2
theorem mn_no (H : Hp) : mn H (fun _ => false) = H := by funext b; exact mn_of rfl
def tXr (K : PySem.W.Frag) (G : Gx) (C : En -> Prop) (g : En -> PV) : TE := fun σ H Q => ∃ B Z O, Rep K G B σ H Z O /\ C Z /\ ∀ v H', Same H H' -> At K G H' (g Z) v -> Q v H'
section
variable {X : Cx} {G : Gx} {Er : ER} {a b c e : Expr} {es : List Expr} {pos p px ps pa pc : Pos} {C Ca Cb : En -> Prop} {g : En -> PV} {gs : En -> List PV} {gi : En -> Int} {i j k : Nat} {x : Str} {pl : List Str} {pre : List PV -> Prop}
theorem rdX (h : PE X e (tX X.K G C g)) : PE X e (tXr X.K G C g) := fun pins s σ H Q I ⟨B, Z, O, R, c, q⟩ => h pins s σ H Q I ⟨B, Z, O, R, c, fun v H' s a => q v H' s (At.mono mn_le _ _ a)⟩
end
end L3
namespace L2
open PySem PySem.Spec PyProof.Rows
theorem ints_are : ∀ {ns : List Int} {its : List Value}, Vals (ns.map V.int) its -> IntsAre its ns
  | [], _, h => by cases h; exact .nil
  | n :: r, _, h => by
    cases h with
    | cons a b =>
      obtain ⟨t, rfl⟩ := a
      exact .cons n t (ints_are b)
def rEqL (g : List Int -> List Int -> Bool) : R2 := fun x y H Q => ∃ a b ns ms, x = .ref a /\ y = .ref b /\ Rd H a (.lst (ns.map V.int)) /\ Rd H b (.lst (ms.map V.int)) /\ Q (.bl (g ns ms)) H
section
variable {X : Cx}
theorem op_eqLs (hu : X.A.units + 64 < cLine) : OpR X (compareOp .Eq) (rEqL fun ns ms => decide (ns = ms)) := by
  intro pins s σ H x y v u Q I rx ry h
  obtain ⟨a, b, ns, ms, rfl, rfl, ha, hb, q⟩ := h
  cases rx
  cases ry
  obtain ⟨_, its, n, r, _, e⟩ := L3.Inv.lstR I ha
  obtain ⟨_, its2, n2, r2, _, e2⟩ := L3.Inv.lstR I hb
  exact PySem.W.ke_eq_ints ⟨_, e, rfl, _, rfl⟩ ⟨_, e2, rfl, _, rfl⟩ (ints_are r) (ints_are r2) hu ⟨.bl _, H, I, rfl, q⟩
theorem op_neLs (hu : X.A.units + 64 < cLine) : OpR X (compareOp .NotEq) (rEqL fun ns ms => decide (¬ ns = ms)) := by
  intro pins s σ H x y v u Q I rx ry h
  obtain ⟨a, b, ns, ms, rfl, rfl, ha, hb, q⟩ := h
  cases rx
  cases ry
  obtain ⟨_, its, n, r, _, e⟩ := L3.Inv.lstR I ha
  obtain ⟨_, its2, n2, r2, _, e2⟩ := L3.Inv.lstR I hb
  have q : Q (.bl (decide (¬ ns = ms))) H := q
  rw [decide_not] at q
  exact PySem.W.ke_ne_ints ⟨_, e, rfl, _, rfl⟩ ⟨_, e2, rfl, _, rfl⟩ (ints_are r) (ints_are r2) hu ⟨.bl _, H, I, rfl, q⟩
end
end L2
namespace L3
open PySem PySem.Spec PyProof.Rows L2
section
variable {X : Cx} {G : Gx} {Er : ER} {a b e : Expr} {pos p px apos : Pos} {C Ca Cb : En -> Prop} {gl hl : En -> List Int} {i j k : Nat} {x : Str}
theorem rlO (i : Nat) {x : Str} (hN : X.N[i]? = some x := by rfl) (hv : Vis X.env.scope x := by first | exact Or.inl rfl | exact Or.inr (Or.inl rfl) | exact Or.inr (Or.inr rfl))
    (hd : (x == ("__debug__" : Str)) = false := by decide) (hcd : (x == ("__classdict__" : Str)) = false := by decide) : PE X (.Name x pos) (tXr X.K G (fun Z => isL Z i \/ isO Z i) fun Z => .ints (getL Z i)) :=
  fun pins s σ H Q I ⟨B, Z, O, R, c, q⟩ => pe_var hN hv hd hcd pins s σ H Q I (by
    rcases c with c | c
    . obtain ⟨v, e1, a, rfl, r⟩ := R.fr i _ c
      exact ⟨_, e1, q _ H (Same.refl H) ⟨a, rfl, same_rd mn_le r⟩⟩
    . obtain ⟨a, vs, e1, e2, e3, e4, e5⟩ := R.ow i _ c
      have e5 : vs = (getL Z i).map V.int := e5
      subst e5
      exact ⟨_, e1, q _ H (Same.refl H) ⟨a, rfl, .inl e4⟩⟩)
theorem two_r {r : R2} {σ : L2.St} {H : Hp} {B : Bs} {Z : En} {O : Addr -> Bool} {Q : VK} (R : Rep X.K G B σ H Z O) (ca : Ca Z) (cb : Cb Z) (q : ∀ l m H1 H2, Same H H1 -> Same H1 H2 -> Rd H2 l (.lst ((gl Z).map V.int)) -> Rd H2 m (.lst ((hl Z).map V.int)) -> r (.ref l) (.ref m) H2 Q) :
    tOp r (tXr X.K G Ca fun Z => .ints (gl Z)) (tXr X.K G Cb fun Z => .ints (hl Z)) σ H Q :=
  ⟨B, Z, O, R, ca, fun v H1 s1 a1 => ⟨B, Z, O, R.grow s1, cb, fun u H2 s2 a2 => by
    obtain ⟨l, rfl, r1⟩ := a1
    obtain ⟨m, rfl, r2⟩ := a2
    exact q l m H1 H2 s1 s2 (same_rd s2 r1) r2⟩⟩
theorem xe_eqL (hu : X.A.units + 64 < cLine) (ha : PE X a (tXr X.K G Ca fun Z => .ints (gl Z))) (hb : PE X b (tXr X.K G Cb fun Z => .ints (hl Z))) : PE X (.Compare a [.Eq] [b] pos) (tXB X.K G (fun Z => Ca Z /\ Cb Z) fun Z => gl Z = hl Z) :=
  toX (pe_cmpR (op_eqLs hu) ha hb (nomark _)) fun _ _ _ _ _ _ R c q => two_r R c.1 c.2 fun l m _ H2 s1 s2 r1 r2 => ⟨l, m, _, _, rfl, rfl, r1, r2, q _ H2 (s1.trans s2) rfl⟩
theorem xe_neL (hu : X.A.units + 64 < cLine) (ha : PE X a (tXr X.K G Ca fun Z => .ints (gl Z))) (hb : PE X b (tXr X.K G Cb fun Z => .ints (hl Z))) : PE X (.Compare a [.NotEq] [b] pos) (tXB X.K G (fun Z => Ca Z /\ Cb Z) fun Z => ¬ gl Z = hl Z) :=
  toX (pe_cmpR (op_neLs hu) ha hb (nomark _)) fun _ _ _ _ _ _ R c q => two_r R c.1 c.2 fun l m _ H2 s1 s2 r1 r2 => ⟨l, m, _, _, rfl, rfl, r1, r2, q _ H2 (s1.trans s2) rfl⟩
theorem xt_neL (hu : X.A.units + 64 < cLine) (ha : PE X a (tXr X.K G Ca fun Z => .ints (gl Z))) (hb : PE X b (tXr X.K G Cb fun Z => .ints (hl Z))) : PT X (.Compare a [.NotEq] [b] pos) (tXT X.K G (fun Z => Ca Z /\ Cb Z) fun Z => ¬ gl Z = hl Z) :=
  fun pins s σ H Q I ⟨_, _, _, R, c, q⟩ => pt_cmpR (op_neLs hu) ha hb (nomark _) pins s σ H Q I (two_r R c.1 c.2 fun l m _ H2 s1 s2 r1 r2 => ⟨l, m, _, _, rfl, rfl, r1, r2, _, rfl, q H2 (s1.trans s2)⟩)
def pvI : PV -> Int
  | .int n => n
  | _ => 0
def pvL : PV -> List Int
  | .ints ns => ns
  | _ => []
theorem xn_of {g : En -> PV} (h : PE X e (tX X.K G C g)) : PE X e (tXI X.K G (fun Z => C Z /\ g Z = .int (pvI (g Z))) fun Z => pvI (g Z)) :=
  toX h fun B σ H Z O Q R c q => ⟨B, Z, O, R, c.1, fun v H' s a => q v H' s (by rw [<- c.2]; exact a)⟩
theorem xl_of {g : En -> PV} (h : PE X e (tX X.K G C g)) : PE X e (tXL X.K G (fun Z => C Z /\ g Z = .ints (pvL (g Z))) fun Z => pvL (g Z)) :=
  toX h fun B σ H Z O Q R c q => ⟨B, Z, O, R, c.1, fun v H' s a => q v H' s (by rw [<- c.2]; exact a)⟩
def pvP : PV -> List PV
  | .lst xs => xs
  | _ => []
theorem xp_of {g : En -> PV} (h : PE X e (tX X.K G C g)) : PE X e (tX X.K G (fun Z => C Z /\ g Z = .lst (pvP (g Z))) fun Z => .lst (pvP (g Z))) :=
  toX h fun B σ H Z O Q R c q => ⟨B, Z, O, R, c.1, fun v H' s a => q v H' s (by rw [<- c.2]; exact a)⟩
theorem xst_unp {x y : Str} {px py tp : Pos} {kk : Nat} {g : En -> PV} (he : PE X e (tX X.K G C g)) (hgt : PG X (.Tuple [.Name x px, .Name y py] kk tp) (gTup X.K 2 (gCons (gName i) (gCons (gName j) gNil))))
    (hs : swapsWithSole [.Tuple [.Name x px, .Name y py] kk tp] e pos.line X.env = pure false := by rfl) (hw : swappedStores [.Tuple [.Name x px, .Name y py] kk tp] e X.env = pure none := by rfl)
    (h1 : (assignEach [.Tuple [.Name x px, .Name y py] kk tp] X.env).map (·.2) = [assign (.Tuple [.Name x px, .Name y py] kk tp) X.env] := by rfl) :
    PS X (.Assign [.Tuple [.Name x px, .Name y py] kk tp] e pos) (ts X.K G Er fun P Z => C Z /\ ∃ u v, g Z = .tup [u, v] /\ P.nx ((Z.set i (.fr u)).set j (.fr v))) :=
  toS (ps_asg he hgt hs hw h1) fun B σ H Z O P D R c w => by
    obtain ⟨c1, u, v, eg, c3⟩ := c
    refine ⟨B, Z, O, R, c1, fun t H1 s1 a1 => ?_⟩
    rw [eg] at a1
    obtain ⟨l, vs, rfl, hl, v1, r1, rfl, b1, v2, r2, rfl, b2, rfl⟩ := a1
    exact ⟨l, _, rfl, SqT.of (mn_le _ _ hl), rfl, _, _, rfl, _, _, rfl, rfl, w.nx _ H1 _ ⟨O, ((R.grow s1).set b1).set b2⟩ c3⟩
end
theorem mk_seen {H : Hp} {O : Addr -> Bool} {x : Addr} (hd : ∀ a, O a = true -> H a ≠ none) (hx : H x = none) {H' : Hp} : mn H' O x = H' x := mn_of (by
  cases z : O x with
  | false => rfl
  | true => exact absurd hx (hd x z))
theorem mk_grow {H : Hp} {x dx C : Addr} {fs : List (Str × V)} (hx : H x = none) (hd : H dx = none) : Same H (upd (upd (upd H dx (.own x)) x (.ins C dx [])) x (.ins C dx fs)) := same_mk fun b o e => by
  rw [upd_ne (ne_of_none e hx), upd_ne (ne_of_none e hx), upd_ne (ne_of_none e hd)]
  exact e
def KW (cW : Addr) (H : Hp) (a : Addr) (z : Int) : Prop := z = 0 /\ ∃ dx fs, H a = some (.ins cW dx fs) /\ fs.lookup ("size" : Str) = some (.int 0) /\ ∀ m ∈ kMeths, fs.lookup m = none
end L3
namespace L2
open PySem PySem.Spec PyProof.Rows PySem.W PySem.Calls
theorem wl_all : ∀ (ns : List Int), ∀ n ∈ ns, WData.weight (.int n) <= WData.weightAll (ns.map WData.int)
  | [], n, h => by cases h
  | m :: r, n, h => by
    rw [List.map_cons]
    simp only [WData.weightAll]
    rcases List.mem_cons.mp h with rfl | h
    . omega
    . have := wl_all r n h
      omega
theorem wl_bits {ns : List Int} (h : WData.layableAll [WData.list (ns.map WData.int)] = true) {n : Int} (hn : n ∈ ns) : Builtin.Int.intBits n <= 2 ^ 20 := by
  have h1 : WData.layable (WData.list (ns.map WData.int)) = true := List.all_eq_true.mp h _ List.mem_cons_self
  unfold WData.layable at h1
  rw [Bool.and_eq_true] at h1
  have h2 := of_decide_eq_true h1.2
  have h3 := wl_all ns n hn
  simp only [WData.weight] at h2 h3
  exact Nat.le_trans h3 h2
theorem walk_of2 {l : PySem.W.OpenLaw} {n k : Nat} {q : Program} {loose : List Str} {XP : (Str -> Option Value) -> Heap -> Prop} {YP : World -> Heap -> Prop} {d : DefRec} {K : Params -> PySem.W.Frag} {CX : World -> CXT} {sp : World -> Sp} {x : Str}
    (hn : l.most = some n) (hn2 : n <= sizeLine) (hdf : d.params.defaults = []) (hr : Room k callerA) (hY : ∀ (w : World) (h : Heap), YP w h -> (K w.params).In h)
    (F : ∀ (w : World) (mg : Str -> Option Value) (fa : Addr) (h : Heap), (K w.params).In h -> h.Ns mainGlobals mg -> mg d.name = some (.ref fa) ->
      ∃ fd : FuncData, (∀ (s : Shared) (u : Value), BindsTo s fd ⟨[u], []⟩ [(x, u)]) /\ ∀ base : Heap, (K w.params).In base -> base.Ns mainGlobals mg -> FnOk l.prog w (K w.params) mg base (CX w) k fa fd [x] (sp w))
    (LO : ∀ (w : World) (h : Heap), YP w h -> LamOk (K w.params) h)
    (hsp : ∀ (w : World) (H : Hp) (a : Addr) (ns : List Int), ns.length <= n -> (∀ m ∈ ns, Builtin.Int.intBits m <= 2 ^ 20) -> SqL (K w.params) H a (ns.map V.int) -> sp w [.ref a] H (fun v _ => v = .bl true) fun _ _ _ => False)
    (hCX : ∀ (w : World) (H : Hp) (s : Shared) (e : Value) (s' : Shared), CX w [] H s (fun _ _ _ => False) e s' -> False) : PySem.W.WalkO q loose XP YP l.row.toRowW d [] (fun f vs => PySem.call f vs) := by
  intro w s₀ s₁ mg mb G Y fa o pm cd doc dV kV ho hd hcd hD hmg hg args vals as hpre hlay hrd hwl hlo
  obtain rfl : dV = .none := Dflts.none hD hdf
  obtain rfl : kV = .none := Dflts.noKw hD
  obtain ⟨a, vs, ns, rfl, rfl, hobj, hints, hlen⟩ := Att.script_of hn hpre hwl
  have KX := hY w _ Y
  obtain ⟨fd, hb, hF⟩ := F w mg fa _ KX G.T.g hmg
  refine enter_call (codeAny_mono (law_call KX G.T.g G.T.b G.T.builtins G.T.nolimit hg hobj hints (Nat.le_trans hlen hn2) hr (LO w _ Y) G.T.bmain hF hb (fun H hS => hsp w H a ns hlen (fun m hm => wl_bits hlay hm) hS) fun H e s' => hCX w H s₁ e s') fun r s' hq => ?_)
  obtain ⟨rfl, h2, h3, h4⟩ := hq
  exact ⟨.inl ⟨.bool true, .bool true, [], rfl, fun _ => rfl, .bool true, Att.post_true l _, fun _ => ⟨List.Pairwise.nil, fun _ hm => (nomatch hm)⟩⟩, h2, h3, h4⟩
def spLaw2 (K : PySem.W.Frag) : Sp := fun vs H Q _ => ∃ (a : Addr) (ns : List Int), vs = [.ref a] /\ SqL K H a (ns.map V.int) /\ ns.length <= 63 /\ (∀ m ∈ ns, Builtin.Int.intBits m <= 2 ^ 20) /\ ∀ H', Q (.bl true) H'
end L2
namespace L3
open PySem PySem.Spec PyProof.Rows L2
theorem lawF2 {P : Program} {w : World} {K : PySem.W.Frag} {mg : Str -> Option Value} {base : Heap} {G : Gx} {k : Nat} {x : Str} {st : Stmt} {N : List Str} {f : Addr} {fd : FuncData} {y : Str} (F : Fun K x x st f fd) (S : FnScope N [y] (defScope st))
    (hbody : ∀ (cdv : Value) (A : Around) (outer : List Env) (s : Shared) (H : Hp) (E : XK), Room k (A.deeper (envOfC x (defScope st) s.heap.objs.size f cdv)) ->
      ∃ fs, PSs (cxOf CX0 P w K mg base N x (defScope st) f cdv A outer s H E).nox (defBody st) (ts K G ER0 fs) /\ ∀ ns : List Int, ns.length <= 63 -> (∀ m ∈ ns, Builtin.Int.intBits m <= 2 ^ 20) -> fs { nx := fun _ => False, rt := fun p => p = .bl true } (startR N [.scr ns])) : FnOk P w K mg base CX0 (k + 1) f fd [y] (spLaw2 K) := by
  refine F.ok S (fun vs H Q E h => ?_) fun cdv A outer s H vs Q E hr h => ?_
  . obtain ⟨a, ns, rfl, _⟩ := h
    rfl
  obtain ⟨a, ns, rfl, hS, hl, hb, q⟩ := h
  obtain ⟨fs, b, c⟩ := hbody cdv A outer s H E hr
  have al : AtL K G (mn H fun _ => false) [.scr ns] [.ref a] := ⟨_, _, rfl, ⟨a, rfl, by rw [mn_no]; exact hS⟩, rfl⟩
  refine ⟨_, b, ⟨H, fun _ => false⟩, startR N [.scr ns], _, ⟨_, rep_start (fun _ z => by cases z) al⟩, c ns hl hb, ⟨fun _ _ _ _ h => h.elim, fun v H' p s' a' h => ?_, fun _ _ _ _ _ _ h => h.elim, fun _ _ _ _ _ h => h.elim, fun _ _ _ _ h => h, fun _ _ _ _ h => h, fun _ _ _ h => h⟩⟩
  have h : p = .bl true := h
  subst h
  have a' : v = .bl true := a'
  subst a'
  exact q H'
end L3
namespace FM
open L2
structure Eu (n z b r sb s : Int) : Prop where
  r0 : 0 <= r
  rb : r < b
  bz : b <= z
  db : z ∣ b - sb * n
  dr : z ∣ r - s * n
  gc : Int.gcd b r = Int.gcd n z
  sg : (sb <= 0 /\ 0 <= s) \/ (0 <= sb /\ s <= 0)
  id : (s.natAbs : Int) * b + (sb.natAbs : Int) * r = z
theorem gcd_mod (n z : Int) : Int.gcd z (n % z) = Int.gcd n z := by
  rw [Int.emod_def, Int.gcd_sub_mul_left_right, Int.gcd_comm]
theorem Eu.start {n z : Int} (hz : 2 <= z) : Eu n z z (n % z) 0 1 := by
  refine ⟨Int.emod_nonneg _ (by omega), Int.emod_lt_of_pos _ (by omega), Int.le_refl _, ?_, ?_, gcd_mod n z, .inl ⟨by omega, by omega⟩, ?_⟩
  . rw [Int.zero_mul, Int.sub_zero]; exact Int.dvd_refl z
  . rw [Int.one_mul, Int.emod_def]
    exact ⟨-(n / z), by rw [Int.mul_neg]; omega⟩
  . show (1 : Int) * z + ((0 : Int).natAbs : Int) * (n % z) = z
    rw [Int.one_mul]
    show z + (0 : Int) * (n % z) = z
    rw [Int.zero_mul]; omega
theorem Eu.rest {b r : Int} (h : 0 < r) : b - b / r * r = b % r := by rw [Int.emod_def, Int.mul_comm]
theorem Eu.step {n z b r sb s : Int} (h : Eu n z b r sb s) (hr : r ≠ 0) : Eu n z r (b - b / r * r) s (sb - b / r * s) := by
  have r0 : 0 < r := by have := h.r0; omega
  have q0 : 0 <= b / r := Int.ediv_nonneg (by have := h.rb; omega) (by omega)
  have er := Eu.rest (b := b) r0
  have abs : ((sb - b / r * s).natAbs : Int) = (sb.natAbs : Int) + b / r * (s.natAbs : Int) := by
    rcases h.sg with ⟨h1, h2⟩ | ⟨h1, h2⟩
    . have e1 : 0 <= b / r * s := Int.mul_nonneg q0 h2
      have e2 : (s.natAbs : Int) = s := by omega
      rw [e2]
      omega
    . have e1 : b / r * s <= 0 := Int.mul_nonpos_of_nonneg_of_nonpos q0 h2
      have e2 : (s.natAbs : Int) = -s := by omega
      rw [e2, Int.mul_neg]
      omega
  refine ⟨?_, ?_, by have := h.rb; have := h.bz; omega, h.dr, ?_, ?_, ?_, ?_⟩
  . rw [er]; exact Int.emod_nonneg _ (by omega)
  . rw [er]; exact Int.emod_lt_of_pos _ r0
  . obtain ⟨u, hu⟩ := h.db
    obtain ⟨v, hv⟩ := h.dr
    refine ⟨u - b / r * v, ?_⟩
    have e : b - b / r * r - (sb - b / r * s) * n = (b - sb * n) - b / r * (r - s * n) := by
      rw [Int.sub_mul, Int.mul_sub, Int.mul_assoc]; omega
    rw [e, hu, hv, Int.mul_sub, Int.mul_left_comm]
  . rw [er, <- h.gc, gcd_mod]
  . rcases h.sg with ⟨h1, h2⟩ | ⟨h1, h2⟩
    . exact .inr ⟨h2, by have := Int.mul_nonneg q0 h2; omega⟩
    . exact .inl ⟨h2, by have := Int.mul_nonpos_of_nonneg_of_nonpos q0 h2; omega⟩
  . rw [abs, <- h.id, Int.add_mul, Int.mul_sub, Int.mul_assoc, Int.mul_comm (b / r) ((s.natAbs : Int) * r), Int.mul_assoc, Int.mul_comm r (b / r)]
    omega
theorem Eu.end {n z b sb s : Int} (h : Eu n z b 0 sb s) : b = (Int.gcd n z : Int) := by
  have := h.gc
  rw [Int.gcd_zero_right] at this
  have := h.rb
  omega
theorem Eu.one {n z b sb s : Int} (hz : 2 <= z) (h : Eu n z b 0 sb s) (h1 : b = 1) : (sb % z * n) % z = 1 := by
  have hd := h.db
  rw [h1] at hd
  have e : (sb % z * n) % z = (sb * n) % z := by rw [Int.mul_emod, Int.emod_emod_of_dvd _ (Int.dvd_refl z), <- Int.mul_emod]
  rw [e]
  have e2 : (1 - sb * n) % z = 0 := Int.emod_eq_zero_of_dvd hd
  have e3 := (Int.emod_eq_emod_iff_emod_sub_eq_zero (m := 1) (n := z) (k := sb * n)).mpr e2
  rw [<- e3]
  exact Int.emod_eq_of_lt (by omega) (by omega)
theorem IsP.dvd {p d : Int} (hp : IsP p) (h0 : 0 < d) (h : d ∣ p) : d = 1 \/ d = p := by
  obtain ⟨k, hk⟩ := h
  have hp2 := hp.1
  have k0 : 0 < k := by
    rcases Int.lt_or_le 0 k with c | c
    . exact c
    . have := Int.mul_nonpos_of_nonneg_of_nonpos (Int.le_of_lt h0) c
      omega
  by_cases c1 : d = 1
  . exact .inl c1
  . by_cases c2 : k = 1
    . right; rw [hk, c2, Int.mul_one]
    . exfalso
      rcases Int.le_total d k with c | c
      . refine hp.2.2 d (by omega) ?_ (Int.emod_eq_zero_of_dvd ⟨k, hk⟩)
        rw [hk]
        exact Int.mul_le_mul_of_nonneg_left c (by omega)
      . refine hp.2.2 k (by omega) ?_ (Int.emod_eq_zero_of_dvd ⟨d, by rw [hk, Int.mul_comm]⟩)
        rw [hk, Int.mul_comm d k]
        exact Int.mul_le_mul_of_nonneg_left c (by omega)
theorem IsP.coprime {p b : Int} (hp : IsP p) (h : ¬ b % p = 0) : Int.gcd b p = 1 := by
  have h1 : ((Int.gcd b p : Nat) : Int) ∣ p := Int.gcd_dvd_right b p
  have h2 : ((Int.gcd b p : Nat) : Int) ∣ b := Int.gcd_dvd_left b p
  have h3 : 0 < Int.gcd b p := Int.gcd_pos_of_ne_zero_right _ (by have := hp.1; omega)
  rcases hp.dvd (by omega) h1 with c | c
  . omega
  . rw [c] at h2
    exact absurd (Int.emod_eq_zero_of_dvd h2) h
end FM
namespace L2
open PySem PySem.Spec PyProof.Rows
end L2
namespace L3
open PySem PySem.Spec PyProof.Rows L2
inductive Rs where
  | val (p : PV) | err (C : Addr)
def spE (K : PySem.W.Frag) (G : Gx) (pre : List PV -> Prop) (F : List PV -> Rs) : Sp := fun vs H Q E => ∃ as O, (∀ a, O a = true -> H a ≠ none) /\ AtL K G (mn H O) as vs /\ pre as /\ (∀ p, F as = .val p -> ∀ v H', Same H H' -> At K G (mn H' O) p v -> Q v H') /\ ∀ C, F as = .err C -> ∀ H', Same H H' -> E (.ref C) none H'
structure OkE (P : Program) (w : World) (K : PySem.W.Frag) (mg : Str -> Option Value) (base : Heap) (k : Nat) (x : Str) (ps : List Str) (sp : Sp) : Prop where
  ex : ∃ f fd, FnOk P w K mg base (CXe P w) k f fd ps sp /\ Binds K fd ps [] /\ PySem.W.keepIn K (.ref f) = true /\ mg x = some (.ref f)
abbrev erE (E : XK) : ER := fun C H => E (.ref C) none H
section
variable {P : Program} {w : World} {K : PySem.W.Frag} {mg : Str -> Option Value} {base : Heap} {G : Gx}
theorem okE {x : Str} {st : Stmt} {N ps : List Str} {k : Nat} {pre : List PV -> Prop} {F : List PV -> Rs} (d : Def K mg x st ps) (S : FnScope N ps (defScope st)) (len : ∀ as, pre as -> as.length = ps.length)
    (hbody : ∀ (f : Addr) (cdv : Value) (A : Around) (outer : List Env) (s : Shared) (H : Hp) (E : XK), Room k (A.deeper (envOfC x (defScope st) s.heap.objs.size f cdv)) ->
      ∃ fs, PSs (cxOf (CXe P w) P w K mg base N x (defScope st) f cdv A outer s H E) (defBody st) (ts K G (erE E) fs) /\ ∀ as, pre as -> fs { nx := fun _ => F as = .val .non, rt := fun p => F as = .val p, rl := fun ns => F as = .val (.ints ns), er := fun C => F as = .err C } (startR N as)) : OkE P w K mg base (k + 1) x ps (spE K G pre F) := by
  obtain ⟨f, fd, Fu, b, m⟩ := d.ex
  refine ⟨f, fd, ?_, b, Fu.kp, m⟩
  obtain ⟨oc, od, kV, doc, pm, an, cdv, ct, osl, rfl, lk, hcd⟩ := Fu.ex
  refine fn_of lk hcd S (fun vs H Q E h => ?_) fun A outer s H vs Q E hr h => ?_
  . obtain ⟨as, O, _, al, hp, _⟩ := h
    rw [<- al.length]; exact len as hp
  obtain ⟨as, O, hd, al, hp, q, qe⟩ := h
  obtain ⟨fs, b, c⟩ := hbody f cdv A outer s H E hr
  refine ⟨_, b, ⟨H, O⟩, startR N as, _, ⟨O, rep_start hd al⟩, c as hp, ⟨fun σ' H' Z' R' h => ?_, fun v H' p s' a' h => q p h v H' s' a', fun a H' ns s' n e h => ?_, fun _ _ _ _ _ h => h.elim, fun _ _ _ _ h => h, fun _ _ _ _ h => h, fun H' C s' h => qe C h H' s'⟩⟩
  . obtain ⟨O', R'⟩ := R'
    exact q _ h .non H' R'.same rfl
  . refine q _ h _ H' s' ⟨a, rfl, .inl ?_⟩
    rw [mn_of]
    . exact e
    . cases z : O a with
      | false => rfl
      | true => exact absurd n (hd a z)
end
section
variable {X : Cx} {G : Gx} {E : XK} {e : Expr} {es : List Expr} {pos p cpos np pos' : Pos} {i j k : Nat} {x y : Str} {ps : List Str} {pre : List PV -> Prop} {C : En -> Prop} {gs : En -> List PV} {F : List PV -> Rs} {Cc : Addr}
theorem pe_callE {sp : Sp} {t : TA} (o : OkE X.prog X.w X.K X.mg X.base j x ps sp) (hx : Passes (CXe X.prog X.w) X E) (hr : Room k X.A) (ha : PA X (e :: es) t) (hj : j <= k := by decide) (hg : Gl X x := by rfl) (hdb : (x == ("__debug__" : Str)) = false := by decide)
    (he : starEach (e :: es) X.env = (false, eval e X.env) :: starEach es X.env := by rfl) (hpl : (backTo pos (starEach es X.env)).any (·.1) = false := by rfl) : PE X (.Call (.Name x p) (e :: es) [] pos) (tCall sp [] E t) := by
  obtain ⟨f, fd, F, b, kp, m⟩ := o.ex
  exact pe_call (F.mono hj) hr hg m kp b .nil hx ha hdb he hpl
theorem passE0 : Passes (CXe X.prog X.w) X E0 := fun _ _ _ _ _ _ _ h => by obtain ⟨_, _, _, _, _, _, _, _, _, q⟩ := h; exact q.elim
def Rs.get : Rs -> PV
  | .val p => p
  | .err _ => .non
def Rs.isV : Rs -> Prop
  | .val _ => True
  | .err _ => False
theorem xst_raise (hn : NewTo X E) (hc : X.calm = true) (q : ExcC X.K Cc) (hg : Gl X x) (hm : X.mg x = some (.ref Cc)) (ha : PA X (e :: es) (tXs X.K G C gs)) (hlen : ∀ Z, (gs Z).length = (e :: es).length := by intro _; rfl) (hz : (e :: es).length <= 1000 := by decide)
    (hdb : (x == ("__debug__" : Str)) = false := by decide) (he : starEach (e :: es) X.env = (false, eval e X.env) :: starEach es X.env := by rfl) (hpl : (backTo cpos (starEach (e :: es) X.env)).any (·.1) = false := by rfl) :
    PS X (.Raise (some (.Call (.Name x np) (e :: es) [] cpos)) none pos) (ts X.K G (erE E) fun P Z => C Z /\ P.er Cc) :=
  toS (ps_raise hn hc q hg hm ha hz hdb he hpl fun σ H Q ⟨B, Z, O, R, c, q⟩ => ⟨B, Z, O, R, c, fun vs H1 s1 a1 => ⟨by rw [<- a1.length]; exact hlen Z, q vs H1 s1 a1⟩⟩) fun B σ H Z O P D R c w => ⟨B, Z, O, R, c.1, fun _ H1 s1 _ => w.er H1 Cc (R.same.trans s1) c.2⟩
end
end L3
namespace L2
open PySem PySem.Spec PyProof.Rows
structure ErrK (K : PySem.W.Frag) (C : Addr) : Prop where
  hg : PySem.W.findIn K (.ref C) "__getattribute__" = some (some (.builtin "BaseException.__getattribute__"))
  hk : PySem.W.findIn K (.ref C) "__getattr__" = some none
  hb : PySem.W.mroIn K C (.type "BaseException") = some true
  hd : PySem.W.hasDictIn K C = true
  ha : PySem.W.findIn K (.ref C) "__class__" = some (some (.builtin "object.__class__"))
  hn : PySem.W.specialIn K (.builtin "object.__class__") "__get__" = some (some (.builtin "getset_descriptor.__get__"))
  htk : PySem.W.takesIn K (.builtin "object.__class__") = some true
  hm : PySem.W.mroIn K C (.type "object") = some true
end L2
namespace L3
open PySem PySem.Spec PyProof.Rows L2
end L3
namespace L2
open PySem PySem.Spec PyProof.Rows
def ItrS (lo c : Int) (n : Nat) : It := ⟨fun i _ => i < n, fun i H x H' => H' = H /\ x = .int (lo + i * c), fun i _ => n <= i⟩
theorem turn_rangeS {P : Program} {w : World} {K : PySem.W.Frag} {tg : Expr} (it : Addr) (lo c : Int) (n : Nat) : Turn P w K tg (ItrS lo c n) [it] it (fun i h => IsRangeIter h it (lo + (i : Nat) * c) ((n : Int) - (i : Nat)) c) where
  mem := by simp
  obj := fun i h st b hb => by
    have e : b = it := by simpa using hb
    subst e
    exact ⟨_, st, fun v z => by
      have z' : Data.fields _ = Data.cell v := z
      cases z'⟩
  keep := fun i h h' st k => k it (by simp) _ st
  item := by
    intro X hP hw hK hc i pins s σ H E I hf st hg
    subst hP hw hK
    obtain ⟨f0, f1, f2, f3, f4, f5⟩ := hf it (by simp)
    have W := Walks.range (prog := X.prog) (w := X.w) (I.ok.hd hc) it lo c n
    refine W.item i s _ _ hg st fun v h' tk hv st' kk => ?_
    obtain ⟨t, rfl⟩ := hv
    have I1 : Inv X pins σ H { s with heap := h', toks := tk } := I.turned (fun b o hb e => kk b o (by simpa using hb) e) f0 f1 f3 f4 f5
    exact ⟨_, rfl, go_of (s := { s with heap := h', toks := tk }) (n := "range_iterator") st' rfl rfl (by decide) ⟨.int (lo + i * c), H, I1, ⟨t, rfl⟩, ⟨rfl, rfl⟩, st', fun b hb => (hf b hb).1⟩⟩
  done := by
    intro X hP hw hK hc i pins s σ H E I hf st hg
    subst hP hw hK
    obtain ⟨f0, f1, f2, f3, f4, f5⟩ := hf it (by simp)
    exact wpAny_pyNext_range_end (I.ok.hd hc) st (by have : n <= i := hg; omega) fun h' eb => ⟨rfl, I.turned (t' := s.toks) (fun b o hb e => eb b o hb e) f0 f1 f3 f4 f5⟩
  self := fun _ _ _ _ _ st h => wpAny_pyIter_rangeiter st h
def rngN (lo hi c : Int) : Nat := if lo < hi then ((hi - lo - 1) / c + 1).toNat else 0
theorem rngN_size {lo hi c : Int} (hc : 0 < c) : ((rngN lo hi c : Nat) : Int) = Builtin.Range.rangeSize lo hi c := by
  unfold rngN Builtin.Range.rangeSize
  rw [if_pos hc]
  split
  . have : 0 <= (hi - lo - 1) / c := Int.ediv_nonneg (by omega) (by omega)
    omega
  . rfl
def iRng3 (ta : TA) : TI := fun σ H R => ta σ H fun vs H1 => ∃ i j c : Int, vs = [.int i, .int j, .int c] /\ (0 < c /\ c < 1000 /\ -(2 ^ 62) <= i /\ i < 2 ^ 62 /\ -(2 ^ 62) <= j /\ j < 2 ^ 62) /\ R (ItrS i c (rngN i j c)) H1
theorem pi_range3 {X : Cx} {tg a b c : Expr} {ta : TA} {p pos : Pos} (hg : Gl X "range") (hm : X.mg "range" = none) (ha : PA X [a, b, c] ta) (hs : starEach [a, b, c] X.env = (false, eval a X.env) :: starEach [b, c] X.env := by rfl) (hpl : (backTo pos (starEach [b, c] X.env)).any (·.1) = false := by rfl) :
    PI X tg (.Call (.Name "range" p) [a, b, c] [] pos) (iRng3 ta) := by
  intro pins s σ H R I h
  refine Call_ (ld_blt I hg hm boot_range (PyProof.Rows.callWith_type1 (thn (ha pos pins s σ H _ I h) fun us s1 ⟨vs, H1, I1, r1, q1⟩ => ?_) hs hpl))
  obtain ⟨i, j, k, e, ⟨k1, k2, l1, l2, l3, l4⟩, q⟩ := q1
  subst e
  cases r1 with
  | cons r rr =>
    cases rr with
    | cons r' rr =>
      cases rr with
      | cons r'' rr =>
        cases rr
        obtain ⟨t, rfl⟩ := r
        obtain ⟨t', rfl⟩ := r'
        obtain ⟨t'', rfl⟩ := r''
        refine call_range_3 (by omega) ?_ (.inl (PyProof.noPylong_small (by omega)))
        have sz := rngN_size (lo := i) (hi := j) k1
        have le : ((rngN i j k : Nat) : Int) < 2 ^ 63 := by
          unfold rngN
          split
          . have h1 : (j - i - 1) / k <= (j - i - 1) := Int.ediv_le_self _ (by omega)
            have h2 : 0 <= (j - i - 1) / k := Int.ediv_nonneg (by omega) (by omega)
            omega
          . decide
        refine wpAny_pyIter_range (IsRange.new ..) ?_ ?_
        . unfold Builtin.Range.small
          rw [<- sz]
          have fits : ∀ x : Int, -(2 ^ 63) <= x -> x < 2 ^ 63 -> Builtin.Range.rangeFitsLong x = true := fun x h1 h2 => by
            unfold Builtin.Range.rangeFitsLong
            rw [Bool.and_eq_true, decide_eq_true_eq, decide_eq_true_eq]
            exact ⟨h1, h2⟩
          have n0 : (0 : Int) <= ((rngN i j k : Nat) : Int) := Int.natCast_nonneg _
          generalize ((rngN i j k : Nat) : Int) = nn at *
          simp only [fits i (by omega) (by omega), fits j (by omega) (by omega), fits k (by omega) (by omega), fits nn (by omega) (by omega), fits (j + (k - 1)) (by omega) (by omega), Bool.and_true, Bool.true_and, Bool.or_true, if_pos (show k > 0 by omega)]
        have I2 : Inv X pins σ H1 { s1 with heap := s1.heap.push { cls := .type "range", data := .fields #[.int i t, .int j t', .int k t''] }, toks := s1.toks } := I1.kept fun b o e => Heap.get?_push_of_some _ e
        refine ⟨(s1.heap.push { cls := .type "range", data := .fields #[.int i t, .int j t', .int k t''] }).objs.size, [(s1.heap.push { cls := .type "range", data := .fields #[.int i t, .int j t', .int k t''] }).objs.size], _, _, H1, rfl,
          I2.kept (t' := s1.toks) fun b o e => Heap.get?_push_of_some _ e, turn_rangeS _ i k (rngN i j k), ?_, fun b hb => ?_, q⟩
        . show IsRangeIter _ _ (i + ((0 : Nat) : Int) * k) (((rngN i j k : Nat) : Int) - ((0 : Nat) : Int)) k
          rw [sz, show i + ((0 : Nat) : Int) * k = i by simp, show Builtin.Range.rangeSize i j k - ((0 : Nat) : Int) = Builtin.Range.rangeSize i j k by simp]
          exact Heap.get?_push_size _ rfl
        . have e : b = (s1.heap.push { cls := .type "range", data := .fields #[.int i t, .int j t', .int k t''] }).objs.size := by simpa using hb
          subst e
          exact I2.fpOk (Nat.le_refl _) (I2.hok.fresh (Nat.le_refl _))
theorem for_rangeS {g : TG} {tb : TS} {D : Ends} {lo c : Int} {n : Nat} {σ : St} {H : Hp} (Pv : Nat -> St -> Hp -> Prop) (h0 : Pv 0 σ H) (hs : ∀ i σ H, i < n -> Pv i σ H -> g (.int (lo + i * c)) σ H fun σ2 H2 => tb { D with nx := Pv (i + 1), ct := Pv (i + 1), bk := D.nx } σ2 H2) (hd : ∀ σ H, Pv n σ H -> D.nx σ H) :
    ∃ W : Nat -> Nat -> St -> Hp -> Prop, (∃ m, W 0 m σ H) /\ ∀ i m σ H, W i m σ H ->
      ((ItrS lo c n).stop i H /\ D.nx σ H) \/ ((ItrS lo c n).go i H /\ ∃ N : St -> Hp -> Prop, (∀ σ' H', N σ' H' -> ∃ m', m' < m /\ W (i + 1) m' σ' H') /\ ∀ x H', (ItrS lo c n).yld i H x H' -> g x σ H' fun σ2 H2 => tb { D with nx := N, ct := N, bk := D.nx } σ2 H2) := by
  refine ⟨fun i m σ H => m = n - i /\ i <= n /\ Pv i σ H, ⟨n, by simp, Nat.zero_le _, h0⟩, ?_⟩
  rintro i m σ H ⟨rfl, hi, p⟩
  by_cases hlt : i < n
  . refine .inr ⟨hlt, Pv (i + 1), fun σ' H' p' => ⟨n - (i + 1), by omega, rfl, hlt, p'⟩, fun x H' y => ?_⟩
    obtain ⟨rfl, rfl⟩ := y
    exact hs i σ _ hlt p
  . have e : i = n := by omega
    subst e
    exact .inl ⟨Nat.le_refl _, hd σ H p⟩
end L2
namespace L3
open PySem PySem.Spec PyProof.Rows L2
mutual
def dat : PV -> PyData
  | .int n => .int n
  | .bl b => .bool b
  | .non => .none
  | .str s => .str s
  | .ints ns => .list (ns.map PyData.int)
  | .lst xs => .list (dats xs)
  | .tup xs => .tuple (dats xs)
  | _ => .none
def dats : List PV -> List PyData
  | [] => []
  | p :: ps => dat p :: dats ps
end
def eqD (p q : PV) : Prop := PySem.Spec.same (dat p) (dat q) = true
instance (p q : PV) : Decidable (eqD p q) := inferInstanceAs (Decidable (_ = true))
theorem xst_forR3 {X : Cx} {G : Gx} {Er : ER} {f : FS} {C Cb Cc : En -> Prop} {pos : Pos} {k : Nat} {x : Str} {a b c : Expr} {body : List Stmt} {g h st : En -> Int} {p px pos' : Pos} (hp : PassesOwn (model X.prog X.w) X.A X.env X.xe) (hc : X.calm = true) (hg : Gl X "range") (hm : X.mg "range" = none) (ha : PE X a (tXI X.K G C g)) (hb' : PE X b (tXI X.K G Cb h)) (hc' : PE X c (tXI X.K G Cc st)) (hN : X.N.Nodup) (hi : X.N[k]? = some x) (hx : Loc X.env.scope x)
    (hb : PSs X body (ts X.K G Er f)) (hs : starEach [a, b, c] X.env = (false, eval a X.env) :: starEach [b, c] X.env := by rfl) (hs2 : starEach [b, c] X.env = (false, eval b X.env) :: starEach [c] X.env := by rfl) (hs3 : starEach [c] X.env = [(false, eval c X.env)] := by rfl) (hpl : (backTo pos' (starEach [b, c] X.env)).any (·.1) = false := by rfl) (hfs : ∀ x, foldedSetIterable (.Call (.Name "range" p) [a, b, c] [] pos') X.env x = pure x := by intro _; rfl)
    (hf : X.fn x = true \/ X.env.scope.names.lookup x = some .local := by first | exact .inl rfl | exact .inr rfl | assumption) :
    PS X (.For (.Name x px) (.Call (.Name "range" p) [a, b, c] [] pos') body [] pos) (ts X.K G Er fun P Z => (C Z /\ Cb Z /\ Cc Z) /\ (0 < st Z /\ st Z < 1000 /\ -(2 ^ 62) <= g Z /\ g Z < 2 ^ 62 /\ -(2 ^ 62) <= h Z /\ h Z < 2 ^ 62) /\
      ∃ W : Nat -> En -> Prop, W 0 Z /\ (∀ i Z', i < rngN (g Z) (h Z) (st Z) -> W i Z' -> f { P with nx := W (i + 1), ct := W (i + 1), bk := P.nx } (Z'.set k (.fr (.int (g Z + i * st Z))))) /\ ∀ Z', W (rngN (g Z) (h Z) (st Z)) Z' -> P.nx Z') :=
  toS (ps_for hp hc (pi_range3 hg hm (pa_cons ha (pa_cons hb' (pa_cons hc' pa_nil hs3) hs2) hs) hs hpl) (pg_name hN hi hx hf) hb hfs) fun B σ H Z O P D R cc w => by
    obtain ⟨⟨c1, c2, c3⟩, l, W, w0, stp, nd⟩ := cc
    refine ⟨B, Z, O, R, c1, fun v H1 s1 a1 => ⟨B, Z, O, R.grow s1, c2, fun u H2 s2 a2 => ⟨B, Z, O, (R.grow s1).grow s2, c3, fun t H3 s3 a3 => ?_⟩⟩⟩
    have a1 : v = .int (g Z) := a1
    have a2 : u = .int (h Z) := a2
    have a3 : t = .int (st Z) := a3
    subst a1 a2 a3
    refine ⟨g Z, h Z, st Z, rfl, l, for_rangeS (fun i σ H => ∃ Z', RepE X.K G B σ H Z' /\ W i Z') ⟨Z, ⟨O, ((R.grow s1).grow s2).grow s3⟩, w0⟩ ?_ ?_⟩
    . rintro i σ H hi ⟨Z', ⟨O', R'⟩, hw⟩
      exact ⟨B, _, _, ⟨O', R'.set (p := .int _) rfl⟩, stp i Z' hi hw, ⟨fun σ' H' Z' R' h => ⟨Z', R', h⟩, w.rt, w.rl, w.rn, w.nx, fun σ' H' Z' R' h => ⟨Z', R', h⟩, w.er⟩⟩
    . rintro σ H ⟨Z', R', hw⟩
      exact w.nx σ H Z' R' (nd Z' hw)
def tR (K : PySem.W.Frag) (G : Gx) (C : En -> Prop) (F : En -> Rs) (E : XK) : TE := fun σ H Q => ∃ B Z O, Rep K G B σ H Z O /\ C Z /\ (∀ p, F Z = .val p -> ∀ v H', Same H H' -> At K G (mn H' O) p v -> Q v H') /\ ∀ c, F Z = .err c -> ∀ H', Same H H' -> E (.ref c) none H'
abbrev PR (X : Cx) (G : Gx) (e : Expr) (C : En -> Prop) (F : En -> Rs) : Prop := ∀ E, Passes (CXe X.prog X.w) X E -> PE X e (tR X.K G C F E)
section
variable {X : Cx} {G : Gx} {Er : ER} {E : XK} {e : Expr} {es : List Expr} {pos p pos' : Pos} {i j k l : Nat} {x y n : Str} {ps : List Str} {pre : List PV -> Prop} {C : En -> Prop} {gs : En -> List PV} {g : En -> PV} {F : List PV -> Rs} {FE : En -> Rs} {Cc Cl : Addr} {px py pn hp p1 p2 : Pos}
theorem xR_V (h : PR X G e C FE) : PE X e (tX X.K G (fun Z => C Z /\ (FE Z).isV) fun Z => (FE Z).get) :=
  fun pins s σ H Q I ⟨B, Z, O, R, c, q⟩ => h E0 passE0 pins s σ H Q I ⟨B, Z, O, R, c.1, fun p hp v H' s a => q v H' s (by dsimp only; rw [hp]; exact a), fun cc hcc => by
    have z := c.2
    rw [hcc] at z
    exact z.elim⟩
structure KSz (K : PySem.W.Frag) (G : Gx) : Prop where
  sz : ∀ (H : Hp) (a : Addr) (z : Int), G.ob 0 H a z -> ∃ C dx fs, H a = some (.ins C dx fs) /\ Cls K C /\ NoAttr K C "size" /\ fs.lookup ("size" : Str) = some (.int z)
def pvZ : PV -> Int
  | .ob _ z => z
  | _ => 0
theorem xn_szP (hK : KSz X.K G) (he : PE X e (tX X.K G C g)) (hb : attributeBase e "size" X.env (eval e X.env) = eval e X.env := by rfl) : PE X (.Attribute e "size" pos) (tXI X.K G (fun Z => C Z /\ g Z = .ob 0 (pvZ (g Z))) fun Z => pvZ (g Z)) :=
  toX (pe_fld he hb) fun B σ H Z O Q R c q => ⟨B, Z, O, R, c.1, fun v H1 s1 a1 => by
    rw [c.2] at a1
    obtain ⟨a, rfl, ob⟩ := a1
    obtain ⟨Ck, dx, fs, e1, e2, e3, e4⟩ := hK.sz _ _ _ ob
    exact ⟨a, Ck, dx, fs, _, rfl, mn_le _ _ e1, e2, e3, e4, q _ H1 s1 rfl⟩⟩
end
end L3
namespace L2
open PySem PySem.Spec PyProof.Rows
def spKME (KA : Hp -> Addr -> Int -> Prop) (a : Addr) (z : Int) (n : Nat) (pre : Int -> List Int -> Prop) (F : Int -> List Int -> Int ⊕ Addr) : Sp := fun vs H Q E => ∃ ns : List Int, ns.length = n /\ vs = .ref a :: ns.map V.int /\ KA H a z /\ pre z ns /\ (∀ c, F z ns = .inl c -> ∀ H', Same H H' -> Q (.int c) H') /\ ∀ e, F z ns = .inr e -> ∀ H', Same H H' -> E (.ref e) none H'
structure KME (P : Program) (w : World) (K : PySem.W.Frag) (mg : Str -> Option Value) (base : Heap) (k : Nat) (KA : Hp -> Addr -> Int -> Prop) (m : Str) (n : Nat) (pre : Int -> List Int -> Prop) (F : Int -> List Int -> Int ⊕ Addr) : Prop where
  ex : ∀ H a z, KA H a z -> ∃ C dx fs ps, H a = some (.ins C dx fs) /\ fs.lookup m = none /\ OkM P w K mg base (CXe P w) k C m ps (spKME KA a z n pre F)
end L2
namespace L3
open PySem PySem.Spec PyProof.Rows L2
def toRs : Int ⊕ Addr -> Rs
  | .inl c => .val (.int c)
  | .inr e => .err e
section
variable {X : Cx} {G : Gx} {a b c e : Expr} {es : List Expr} {pos p px apos : Pos} {C Ca Cb Cc : En -> Prop} {ga gc : En -> PV} {gs : En -> List PV} {i j k n : Nat} {x m : Str}
theorem xR_meth {KA : Hp -> Addr -> Int -> Prop} {preK : Int -> List Int -> Prop} {F : Int -> List Int -> Int ⊕ Addr} {pl : Sem Bool} (i : Nat) (M : KME X.prog X.w X.K X.mg X.base j KA m n preK F) (hr : Room k X.A) (ha : PA X (e :: es) (tXs X.K G C gs)) (hn : ∀ Z, (gs Z).length = n := by intro _; rfl) (hG : ∀ H a z, G.ob 0 H a z -> KA H a z := by first | exact fun _ _ _ h => h.2 | exact fun _ _ _ h => h.elim (fun z => z.2) fun z => absurd z.1 (by decide)) (hGm : ∀ {H H' : Hp} {a : Addr} {z : Int}, KA H a z -> Same H H' -> KA H' a z := by first | exact fun h s => KAt.same h s | exact fun h s => h.same s) (hj : j <= k := by decide)
    (hN : X.N[i]? = some x := by rfl) (hv : Vis X.env.scope x := by first | exact Or.inl rfl | exact Or.inr (Or.inl rfl) | exact Or.inr (Or.inr rfl)) (hd : (x == ("__debug__" : Str)) = false := by decide) (hcd : (x == ("__classdict__" : Str)) = false := by decide)
    (hst : starEach (e :: es) X.env = (false, eval e X.env) :: starEach es X.env := by rfl) (hpl : (backTo pos (starEach es X.env)).any (·.1) = false := by rfl)
    (ht : eval (.Call (.Attribute (.Name x px) m apos) (e :: es) [] pos) X.env = (do
      let ov <- eval (.Name x px) X.env
      standAt apos.atName
      let (f, first) <- holding [ov] (getMethod ov m pl)
      callWith pos f first (backTo pos (starEach (e :: es) X.env)) (backToKw pos (keywordEach [] X.env))) := by rfl) :
    PR X G (.Call (.Attribute (.Name x px) m apos) (e :: es) [] pos) (fun Z => isK Z i /\ C Z /\ areI (gs Z) /\ preK (getZ Z i) (allI (gs Z))) fun Z => toRs (F (getZ Z i) (allI (gs Z))) := by
  intro E hx pins s σ H Q I h
  obtain ⟨B, Z, O, R, ⟨c0, c1, c2, c3⟩, q, qe⟩ := h
  obtain ⟨v, e1, a, rfl, ka⟩ := R.fr i _ c0
  have ka1 : KA H a (getZ Z i) := hGm (hG _ _ _ ka) mn_le
  obtain ⟨Cl, dx, fs, ps, f1, f2, M'⟩ := M.ex H a _ ka1
  obtain ⟨f, fd, FF, bb, mm, cc⟩ := M'.ex
  refine pe_meth (pe_var hN hv hd hcd) cc mm (FF.mono hj) hr bb .nil hx ha hst hpl ht pins s σ H Q I ⟨_, e1, a, dx, fs, rfl, f1, f2, B, Z, O, R, c1, fun vs H1 s1 a1 => ?_⟩
  have ev := a1.ints c2
  have el : (allI (gs Z)).length = n := by rw [<- hn Z, a1.length, ev, List.length_map]
  exact ⟨allI (gs Z), el, by rw [List.append_nil, ev], hGm ka1 s1, c3, fun c hc H' s' => q (.int c) (by dsimp only; rw [hc]; rfl) _ H' (s1.trans s') rfl, fun er her H' s' => qe er (by dsimp only; rw [her]; rfl) H' (s1.trans s')⟩
end
end L3
namespace L2
open PySem PySem.Spec PyProof.Rows
end L2
namespace L3
open PySem PySem.Spec PyProof.Rows L2
end L3
namespace L2
open PySem PySem.Spec PyProof.Rows
end L2
namespace L3
open PySem PySem.Spec PyProof.Rows L2
section
variable {X : Cx} {G : Gx} {a b c e : Expr} {p pos : Pos} {C Ca Cb Cc : En -> Prop} {ga gb g : En -> PV} {gl : En -> List Int}
theorem xt_lE (he : PE X e (tXL X.K G C gl)) (ht : ∀ whole, isTrue e X.env whole = (do let v <- whole; standAt e.pos; holding [v] (truthy v)) := by intro _; rfl) : PT X e (tXT X.K G C fun Z => ¬ gl Z = []) :=
  fun pins s σ H Q I ⟨B, Z, O, R, c, q⟩ => pt_truth he ht pins s σ H Q I ⟨B, Z, O, R, c, fun v H1 s1 a1 => by
    obtain ⟨l, rfl, hq⟩ := a1
    refine ⟨_, .inl ⟨_, .inl (same_rd mn_le hq), rfl⟩, ?_⟩
    have z := q H1 s1
    have e : (!((gl Z).map V.int).isEmpty) = decide (¬ gl Z = []) := by cases gl Z <;> simp
    rw [e]; exact z⟩
theorem xv_if {pt : En -> Prop} [∀ Z, Decidable (pt Z)] (hc : PT X c (tXT X.K G Cc pt)) (ha : PE X a (tX X.K G Ca ga)) (hb : PE X b (tX X.K G Cb gb)) : PE X (.IfExp c a b pos) (tX X.K G (fun Z => Cc Z /\ (pt Z -> Ca Z) /\ (¬ pt Z -> Cb Z)) fun Z => if pt Z then ga Z else gb Z) :=
  toX (pe_ifExp hc ha hb) fun B σ H Z O Q R c q => ⟨B, Z, O, R, c.1, fun H1 s1 => by
    by_cases d : pt Z
    . rw [decide_eq_true d]
      refine iteT ⟨B, Z, O, R.grow s1, c.2.1 d, fun v H2 s2 a2 => q v H2 (s1.trans s2) ?_⟩
      show At X.K G (mn H2 O) (if pt Z then ga Z else gb Z) v
      rw [if_pos d]; exact a2
    . rw [decide_eq_false d]
      refine iteF ⟨B, Z, O, R.grow s1, c.2.2 d, fun v H2 s2 a2 => q v H2 (s1.trans s2) ?_⟩
      show At X.K G (mn H2 O) (if pt Z then ga Z else gb Z) v
      rw [if_neg d]; exact a2⟩
end
end L3
namespace L2
open PySem PySem.Spec PyProof.Rows
end L2
namespace L3
open PySem PySem.Spec PyProof.Rows L2
end L3
namespace L2
open PySem PySem.Spec PyProof.Rows
end L2
namespace L3
open PySem PySem.Spec PyProof.Rows L2
section
variable {X : Cx} {G : Gx} {Er : ER} {f : FS} {a b c e : Expr} {pos p : Pos} {C Ca Cb Cc Cs : En -> Prop} {ga gb gs : En -> Str} {gi gj gk : En -> Int} {g : En -> PV} {i k : Nat} {x : Str}
def fstP : PV -> PV
  | .tup [a, _] => a
  | _ => .non
def sndP : PV -> PV
  | .tup [_, b] => b
  | _ => .non
def isPair (q : PV) : Prop := q = .tup [fstP q, sndP q]
theorem xst_forT {k j : Nat} {x y : Str} {l : Expr} {body : List Stmt} {g : En -> List PV} {px py tp : Pos} {kk : Nat} (hp : PassesOwn (model X.prog X.w) X.A X.env X.xe) (hc : X.calm = true) (hl : PE X l (tX X.K G C fun Z => .lst (g Z)))
    (hgt : PG X (.Tuple [.Name x px, .Name y py] kk tp) (gTup X.K 2 (gCons (gName k) (gCons (gName j) gNil)))) (hb : PSs X body (ts X.K G Er f)) (hfs : ∀ x, foldedSetIterable l X.env x = pure x := by intro _; rfl) :
    PS X (.For (.Tuple [.Name x px, .Name y py] kk tp) l body [] pos) (ts X.K G Er fun P Z => (C Z /\ ∀ q ∈ g Z, isPair q) /\ ∃ W : Nat -> En -> Prop, W 0 Z /\
      (∀ i n Z', (g Z)[i]? = some n -> W i Z' -> f { P with nx := W (i + 1), ct := W (i + 1), bk := P.nx } ((Z'.set k (.fr (fstP n))).set j (.fr (sndP n)))) /\ ∀ Z', W (g Z).length Z' -> P.nx Z') :=
  toS (ps_for hp hc (pi_list hl) hgt hb hfs) fun B σ H Z O P D R c w => by
    obtain ⟨⟨c1, c2⟩, W, w0, st, nd⟩ := c
    refine ⟨B, Z, O, R, c1, fun v H1 s1 a1 => ?_⟩
    obtain ⟨a, vs, e, hq, hal⟩ := a1
    have R1 := R.grow s1
    have w1 := owe_base R1 w
    have el := hal.length
    refine ⟨a, e, ⟨_, .inl (same_rd mn_le hq)⟩, for_list (xs := vs) (fun i σ H => ∃ Z', RepE X.K G (B.at H1 O) σ H Z' /\ W i Z') ⟨Z, ⟨O, R1.rebase⟩, w0⟩ ?_ ?_ ?_⟩
    . rintro i σ H _ ⟨Z', ⟨O', R'⟩, _⟩
      exact .inl (same_rd ((Rep.base_mn B H1 O).trans R'.same) hq)
    . rintro i y σ H hy ⟨Z', ⟨O', R'⟩, hw⟩
      obtain ⟨n, en, an⟩ := hal.get hy
      have ip := c2 n (List.mem_of_getElem? en)
      have an2 := At.mono (R1.seen R') _ _ an
      rw [ip] at an2
      obtain ⟨T, us, rfl, hT, al⟩ := an2
      obtain ⟨v1, r1, rfl, x1, v2, r2, rfl, x2, rfl⟩ := al
      refine ⟨T, _, rfl, SqT.of (mn_le _ _ hT), rfl, _, _, rfl, _, _, rfl, rfl, ?_⟩
      exact ⟨_, _, _, ⟨O', (R'.set x1).set x2⟩, st i n Z' en hw, ⟨fun σ' H' Z' R' h => ⟨Z', R', h⟩, w1.rt, w1.rl, w1.rn, w1.nx, fun σ' H' Z' R' h => ⟨Z', R', h⟩, w1.er⟩⟩
    . rintro σ H ⟨Z', R', hw⟩
      rw [<- el] at hw
      exact w1.nx σ H Z' R' (nd Z' hw)
end
section
variable {K : PySem.W.Frag} {G : Gx} {σ : L2.St} {H : Hp} {Q : VK} {Cs Cb : En -> Prop} {gp : En -> PV} {cap : List (Option Nat)}
theorem lc_R2 {ga gb : En -> Int} {Ca C2 : En -> Prop} (h : tXp K G (fun Z => (Ca Z /\ C2 Z) /\ (-(2 ^ 62) <= ga Z /\ ga Z < 2 ^ 62 /\ -(2 ^ 62) <= gb Z /\ gb Z < 2 ^ 62) /\ (gb Z - ga Z).toNat <= 1000 /\ ∀ k : Nat, k < (gb Z - ga Z).toNat -> Cb ((capR (none :: cap) Z).set 0 (.fr (.int (ga Z + k))))) (fun Z => (List.range (gb Z - ga Z).toNat).map fun (k : Nat) => gp ((capR (none :: cap) Z).set 0 (.fr (.int (ga Z + k))))) σ H Q) :
    tLC (none :: cap) (iRng2 (tCons (tXI K G Ca ga) (tCons (tXI K G C2 gb) tNil))) (gName 0) noTest (tX K G Cb gp) σ H Q := by
  obtain ⟨B, Z, O, R, ⟨⟨c1, c2⟩, l, c4, c5⟩, q⟩ := h
  refine ⟨B, Z, O, R, c1, fun v H1 s1 a1 => ⟨B, Z, O, R.grow s1, c2, fun u H2 s2 a2 => ?_⟩⟩
  have a1 : v = .int (ga Z) := a1
  have a2 : u = .int (gb Z) := a2
  subst a1 a2
  have hz : (List.range (gb Z - ga Z).toNat).length = (gb Z - ga Z).toNat := List.length_range
  refine ⟨ga Z, gb Z, rfl, l, fun D hD => ?_⟩
  refine lc_main (List.range (gb Z - ga Z).toNat) (fun _ v => (capS (none :: cap) σ).set 0 (some v)) (fun (k : Nat) => (capR (none :: cap) Z).set 0 (.fr (.int (ga Z + k)))) (fun (k : Nat) => .int (ga Z + k)) ((R.grow s1).grow s2) hD (by rw [hz]; exact c4) (fun i H hi s => by rw [hz] at hi; exact hi) ?_ (fun H s => by rw [hz]; exact Nat.le_refl _) (fun k H _ s R' => R'.set (p := .int _) rfl) ?_ ?_ ?_
  . rintro i k x H H' en s ⟨rfl, rfl⟩
    have hlt : i < (gb Z - ga Z).toNat := by
      have := (List.getElem?_eq_some_iff.mp en).1
      rw [hz] at this
      exact this
    rw [List.getElem?_range hlt] at en
    cases en
    exact ⟨Same.refl _, fun kk hk => hk⟩
  . intro k
    show ExtS (none :: capS cap σ) (some (.int _) :: capS cap σ)
    exact ext_refl _
  . intro k hk
    exact c5 k (List.mem_range.mp hk)
  . intro H' ys s hd al
    exact q D ys H' ((s1.trans s2).trans s) ((s1.trans s2).free hD) hd al
end
def isGo (q : PV) : Prop := ∃ g o, q = .tup [.ints g, .int o]
end L3
namespace L2
open PySem PySem.Spec PyProof.Rows
end L2
namespace L3
open PySem PySem.Spec PyProof.Rows L2
section
variable {X : Cx} {G : Gx} {Er : ER} {a b c e : Expr} {pos p : Pos} {C Ca : En -> Prop} {gl : En -> List Int} {g : En -> PV} {gp : En -> List PV} {i : Nat} {x : Str} {px pa pc : Pos}
def isOP (Z : En) (i : Nat) : Prop := Z[i]? = some (.ow (.lst (pvP (getP Z i))))
theorem xst_appP (i : Nat) {x : Str} (he : PE X e (tX X.K G C g)) (hN : X.N[i]? = some x := by rfl) (hv : Vis X.env.scope x := by first | exact Or.inl rfl | exact Or.inr (Or.inl rfl) | exact Or.inr (Or.inr rfl))
    (hd : (x == ("__debug__" : Str)) = false := by decide) (hcd : (x == ("__classdict__" : Str)) = false := by decide)
    (hbase : attributeBase (.Name x px) "append" X.env (eval (.Name x px) X.env) = eval (.Name x px) X.env := by rfl)
    (hfew : ((backTo pc (starEach (e :: []) X.env)).all (fun x => !x.1) && (backToKw pc (keywordEach [] X.env)).all (fun x => x.1.isSome)
      && decide ((e :: []).length + ([] : List Keyword).length + (if ([] : List Keyword).isEmpty then 0 else 1) < 30)) = true := by rfl)
    (hline : (pa.endLine == pc.line) = true := by rfl) (hs : starEach (e :: []) X.env = (false, eval e X.env) :: starEach [] X.env := by rfl) (hplain : (backTo pc (starEach [] X.env)).any (·.1) = false := by rfl)
    (hsw : swapsWith (.Call (.Attribute (.Name x px) "append" pa) [e] [] pc) none pos.line X.env = pure false := by rfl) :
    PS X (.Expr (.Call (.Attribute (.Name x px) "append" pa) [e] [] pc) pos) (ts X.K G Er fun P Z => isOP Z i /\ C Z /\ (pvP (getP Z i)).length < sizeLine /\ P.nx (Z.set i (.ow (.lst (pvP (getP Z i) ++ [g Z]))))) :=
  toS (ps_expr (pe_bm PySem.F.plainAttrs_list PySem.F.slot_list_append PySem.F.type_list_append mt_append (pe_var hN hv hd hcd) (pa_cons he pa_nil hs) hbase hfew hline hs hplain) hsw) fun B σ H Z O P D R c w => by
    obtain ⟨c0, c1, c2, c3⟩ := c
    obtain ⟨a, vs, e1, e2, e3, e4, e5⟩ := R.ow i _ c0
    have e5 : AtL X.K G (mn H O) (pvP (getP Z i)) vs := e5
    have el := e5.length
    refine ⟨_, e1, .inl ⟨rfl, _, SqL.of e4⟩, B, Z, O, R, c1, fun v H1 s1 a1 => ?_⟩
    refine ⟨a, _, _, rfl, rfl, s1 _ _ e4, by rw [<- el]; exact c2, w.nx σ _ _ ⟨O, (R.grow s1).change c0 e1 (p' := .lst (pvP (getP Z i) ++ [g Z])) ?_⟩ c3⟩
    show AtL X.K G (mn H1 O) (pvP (getP Z i) ++ [g Z]) _
    exact AtL.snoc (AtL.mono (mn_same s1) _ _ e5) a1
end
def spNewR (C : Addr) : Sp := fun vs H Q _ => ∃ (x dx : Addr) (p : Int), vs = [.ref x, .int p] /\ FM.IsP p /\ H x = some (.ins C dx []) /\ Q .non (upd H x (.ins C dx [("size", .int p)]))
def KR (cR : Addr) (H : Hp) (a : Addr) (z : Int) : Prop := 0 < z /\ ∃ dx fs, H a = some (.ins cR dx fs) /\ fs.lookup ("size" : Str) = some (.int z) /\ ∀ m ∈ kMeths, fs.lookup m = none
theorem KR.same {cR : Addr} {H H' : Hp} {a : Addr} {z : Int} (k : KR cR H a z) (s : Same H H') : KR cR H' a z := by
  obtain ⟨e0, dx, fs, e, r⟩ := k
  exact ⟨e0, dx, fs, s _ _ e, r⟩
def GkR (cR : Addr) : Gx := ⟨fun k H a z => k = 0 /\ KR cR H a z, fun _ _ _ _ _ s h => ⟨h.1, h.2.same s⟩⟩
theorem gkR {cR : Addr} (H : Hp) (a dx : Addr) (p : Int) (hp : FM.IsP p) (h : H a = some (.ins cR dx [("size", .int p)])) : (GkR cR).ob 0 H a p := by
  have hm : ∀ m ∈ kMeths, List.lookup m [("size", V.int p)] = none := fun m hm => by
    have key : ∀ m ∈ kMeths, (m == ("size" : Str)) = false := by decide +kernel
    rw [List.lookup_cons, key m hm]
    rfl
  exact ⟨rfl, by have := hp.1; omega, dx, _, h, rfl, hm⟩
section
variable {X : Cx} {G : Gx} {pos p : Pos} {j k : Nat} {x y : Str} {C : Addr} {e : Expr} {Ca : En -> Prop} {ga : En -> Int}
theorem xk_R (o : OkI X.prog X.w X.K X.mg X.base CX0 j x C ["self", y] (spNewR C)) (hr : Room k X.A) (hG : ∀ (H : Hp) (a dx : Addr) (p : Int), FM.IsP p -> H a = some (.ins C dx [("size", .int p)]) -> G.ob 0 H a p) (ha : PE X e (tXI X.K G Ca ga)) (hj : j + 1 <= k := by decide) (hg : Gl X x := by rfl) (hdb : (x == ("__debug__" : Str)) = false := by decide)
    (he : starEach [e] X.env = [(false, eval e X.env)] := by rfl) (hpl : (backTo pos (starEach [] X.env)).any (·.1) = false := by rfl) : PE X (.Call (.Name x p) [e] [] pos) (tX X.K G (fun Z => Ca Z /\ FM.IsP (ga Z)) fun Z => .ob 0 (ga Z)) :=
  toX (pe_makeO o hr pass0 (pa_cons ha pa_nil he) hj hg hdb he hpl) fun B σ H Z O Q R c q => ⟨B, Z, O, R, c.1, fun v H1 s1 a1 => fun y dx hy hd hne => by
    have a1 : v = .int (ga Z) := a1
    subst a1
    refine ⟨y, dx, ga Z, rfl, c.2, upd_same, rfl, q (.ref y) _ (s1.trans (mk_grow hy hd)) ⟨y, rfl, hG _ _ dx _ c.2 ?_⟩⟩
    rw [mk_seen (R.grow s1).dom hy]
    exact upd_same⟩
end
end L3
namespace L3
open PySem L2 PyProof.Rows
end L3
namespace L2
open PySem PySem.Spec PyProof.Rows
end L2
namespace L3
open PySem PySem.Spec PyProof.Rows L2
section
variable {X : Cx} {G : Gx} {Er : ER} {a b e : Expr} {pos p px apos kp pz : Pos} {C Ca Cb : En -> Prop} {gl : En -> List Int} {gp hp : En -> List PV} {g : En -> PV} {i j k : Nat} {x : Str}
theorem xst_unp3 {x y z : Str} {px py pz tp : Pos} {kk : Nat} {g : En -> PV} (he : PE X e (tX X.K G C g)) (hgt : PG X (.Tuple [.Name x px, .Name y py, .Name z pz] kk tp) (gTup X.K 3 (gCons (gName i) (gCons (gName j) (gCons (gName k) gNil)))))
    (hs : swapsWithSole [.Tuple [.Name x px, .Name y py, .Name z pz] kk tp] e pos.line X.env = pure false := by rfl) (hw : swappedStores [.Tuple [.Name x px, .Name y py, .Name z pz] kk tp] e X.env = pure none := by rfl)
    (h1 : (assignEach [.Tuple [.Name x px, .Name y py, .Name z pz] kk tp] X.env).map (·.2) = [assign (.Tuple [.Name x px, .Name y py, .Name z pz] kk tp) X.env] := by rfl) :
    PS X (.Assign [.Tuple [.Name x px, .Name y py, .Name z pz] kk tp] e pos) (ts X.K G Er fun P Z => C Z /\ ∃ u v w, g Z = .tup [u, v, w] /\ P.nx (((Z.set i (.fr u)).set j (.fr v)).set k (.fr w))) :=
  toS (ps_asg he hgt hs hw h1) fun B σ H Z O P D R c w => by
    obtain ⟨c1, u, v, w3, eg, c3⟩ := c
    refine ⟨B, Z, O, R, c1, fun t H1 s1 a1 => ?_⟩
    rw [eg] at a1
    obtain ⟨l, vs, rfl, hl, v1, r1, rfl, b1, v2, r2, rfl, b2, v3, r3, rfl, b3, rfl⟩ := a1
    exact ⟨l, _, rfl, SqT.of (mn_le _ _ hl), rfl, _, _, rfl, _, _, rfl, _, _, rfl, rfl, w.nx _ H1 _ ⟨O, (((R.grow s1).set b1).set b2).set b3⟩ c3⟩
end
end L3
namespace L2
open PySem PySem.Spec PyProof.Rows
theorem perm_map_inv {α β : Type} {f : α -> β} {l m : List β} (h : l.Perm m) : ∀ {L : List α}, L.map f = m -> ∃ L' : List α, L'.Perm L /\ L'.map f = l := by
  induction h with
  | nil =>
    intro L e
    have : L = [] := List.map_eq_nil_iff.mp e
    subst this
    exact ⟨[], .nil, rfl⟩
  | cons x _ ih =>
    intro L e
    obtain ⟨a, r, rfl, rfl, e2⟩ := List.map_eq_cons_iff.mp e
    obtain ⟨L', p, q⟩ := ih e2
    exact ⟨a :: L', .cons a p, by rw [List.map_cons, q]⟩
  | swap x y l =>
    intro L e
    obtain ⟨a, r1, rfl, rfl, e2⟩ := List.map_eq_cons_iff.mp e
    obtain ⟨b, r, rfl, rfl, rfl⟩ := List.map_eq_cons_iff.mp e2
    exact ⟨b :: a :: r, .swap a b r, rfl⟩
  | trans _ _ ih1 ih2 =>
    intro L e
    obtain ⟨L1, p1, q1⟩ := ih2 e
    obtain ⟨L2, p2, q2⟩ := ih1 q1
    exact ⟨L2, p2.trans p1, q2⟩
theorem perm_one {α : Type} (k : α -> Int) : ∀ {a b : List α}, a.Perm b -> a.Pairwise (fun x y => k x <= k y) -> b.Pairwise (fun x y => k x <= k y) -> (b.map k).Nodup -> a = b
  | [], b, p, _, _, _ => (List.Perm.nil_eq p)
  | x :: a, [], p, _, _, _ => absurd p.length_eq (by simp)
  | x :: a, y :: b, p, sa, sb, nd => by
    rw [List.pairwise_cons] at sa sb
    rw [List.map_cons, List.nodup_cons] at nd
    have e : x = y := by
      have h1 : x ∈ y :: b := p.mem_iff.mp List.mem_cons_self
      have h2 : y ∈ x :: a := p.mem_iff.mpr List.mem_cons_self
      rcases List.mem_cons.mp h1 with h1 | h1
      . exact h1
      rcases List.mem_cons.mp h2 with h2 | h2
      . exact h2.symm
      have k1 := sb.1 x h1
      have k2 := sa.1 y h2
      have ke : k y = k x := Int.le_antisymm k1 k2
      exact absurd (List.mem_map.mpr ⟨x, h1, ke.symm⟩) nd.1
    subst e
    rw [perm_one k (List.Perm.cons_inv p) sa.2 sb.2 nd.2]
section
variable {X : Cx} {pins : List (Addr × Obj)} {σ : St} {H : Hp} {s : Shared}
theorem triples_app : ∀ {l m : List Value}, TriplesOk l -> TriplesOk m -> TriplesOk (l ++ m)
  | [], _, _, h => h
  | .int _ _ :: .int _ _ :: _ :: rest, m, h1, h2 => by
    show TriplesOk (rest ++ m)
    exact triples_app (l := rest) h1 h2
theorem among_app {pos : Pos} {cv : Value} {m : List Value} : ∀ {l : List Value}, TriplesOk l -> codeAmong pos (l ++ m) = some cv -> codeAmong pos l = some cv \/ codeAmong pos m = some cv
  | [], _, h => .inr h
  | .int line t :: .int col u :: c :: rest, ht, h => by
    have h : (if line == pos.line && col == pos.col then some c else codeAmong pos (rest ++ m)) = some cv := h
    show (if line == pos.line && col == pos.col then some c else codeAmong pos rest) = some cv \/ _
    split at h
    . rename_i g
      rw [if_pos g]
      exact .inl h
    . rename_i g
      rw [if_neg g]
      exact among_app (l := rest) ht h
theorem Inv.grown {P c' : Addr} {t : TabD} {oc : Obj} {more : Array Value} {h' : Heap} {tk : Nat} (I : Inv X pins σ H s) (e : H P = some (.tbl t)) (hx : ∀ b o, b ≠ P -> s.heap.get? b = some o -> h'.get? b = some o) (hge : s.heap.objs.size <= c')
    (hc : h'.get? c' = some oc) (hq : CodeQ oc t.q) (hP : h'.get? P = some (PySem.W.tabObj (t.ps ++ more))) (ht : TriplesOk more.toList) (hm : ∀ p cv, codeAmong p more.toList = some cv -> cv = .ref c') :
    Inv X pins σ (upd (upd H c' (.frz oc (.ext fun _ => True))) P (.tbl (t ++ more))) { s with heap := h', toks := tk } := by
  have fr : H c' = none := I.hok.fresh hge
  have hcP : c' ≠ P := fun z => by rw [z, e] at fr; cases fr
  have old : ∀ b u, H b = some u -> b ≠ c' := fun b u q z => by rw [z, fr] at q; cases q
  have nP : ∀ b, H b = none -> b ≠ P := fun b q z => by rw [z, e] at q; cases q
  refine I.un ⟨fun b o q n _ _ => hx b o (nP b n) q, fun b o q n _ _ => ⟨o.slots, hx b o (nP b n) q⟩, fun b o q n _ => ?_, fun b o q _ => ?_, fun b xs q => ?_, fun b o u q => ?_, fun b ps q => ?_⟩ fun b u q => ?_
  . rw [upd_ne (nP b n), upd_ne (Nat.ne_of_lt (Nat.lt_of_lt_of_le (Heap.lt_size q) hge))]
    exact n
  . by_cases z : b = P
    . subst z; exact ⟨_, hP⟩
    . exact ⟨o, hx b o z q⟩
  . rw [upd_ne (fun z => by rw [z, e] at q; cases q), upd_ne (old b _ q)]; exact q
  . rw [upd_ne (fun z => by rw [z, e] at q; cases q), upd_ne (old b _ q)]; exact q
  . by_cases z : b = P
    . subst z
      rw [e] at q; cases q
      exact ⟨more, upd_same⟩
    . exact ⟨#[], by rw [upd_ne z, upd_ne (old b _ q), q]; simp⟩
  . have frz2 : ∀ c o u, H c = some (.frz o u) -> (upd (upd H c' (.frz oc (.ext fun _ => True))) P (.tbl (t ++ more))) c = some (.frz o u) := fun c o u q => by
      rw [upd_ne (fun z => by rw [z, e] at q; cases q), upd_ne (old c _ q)]; exact q
    by_cases z : b = P
    . subst z
      rw [upd_same] at q; cases q
      obtain ⟨e1, e2, e3⟩ := I.hok b _ e
      refine ⟨hP, ?_, fun p cv hcm => ?_⟩
      . show TriplesOk (t.ps ++ more).toList
        rw [Array.toList_append]
        exact triples_app e2 ht
      . have hcm : codeAmong p (t.ps ++ more).toList = some cv := hcm
        rw [Array.toList_append] at hcm
        rcases among_app e2 hcm with hcm | hcm
        . obtain ⟨c, o1, u1, y, q1, q2⟩ := e3 p cv hcm
          exact ⟨c, o1, u1, y, frz2 c o1 u1 q1, q2⟩
        . exact ⟨c', oc, _, hm p cv hcm, by rw [upd_ne hcP, upd_same], hq⟩
    . rw [upd_ne z] at q
      by_cases y : b = c'
      . subst y
        rw [upd_same] at q; cases q
        exact ⟨hc, tT, ⟨_, hc⟩, fun _ _ h _ => h⟩
      . rw [upd_ne y] at q
        have up : ∀ c o, H c = some o -> c ≠ P -> (upd (upd H c' (.frz oc (.ext fun _ => True))) P (.tbl (t ++ more))) c = some o := fun c o q n => by
          rw [upd_ne n, upd_ne (old c _ q)]; exact q
        refine (I.hok b u q).stay (fun c v hcb r => hx c v ?_ r) (fun c r => up c _ r fun w => by rw [w, e] at r; cases r) (fun c xs r => up c _ r fun w => by rw [w, e] at r; cases r) fun c o u r => frz2 c o u r
        rcases hcb with rfl | hcb
        . exact z
        . exact fun w => by rw [w, e] at hcb; cases hcb
theorem CodeQ.rec {h : Heap} {c : Addr} {oc : Obj} {q : Str} (e : h.get? c = some oc) (k : CodeQ oc q) : h.CodeRec (.ref c) q := let ⟨vs, t, a, b⟩ := k; ⟨c, oc, vs, t, rfl, e, a, b⟩
theorem lam_eval {c P : Addr} {q : Str} {params : Arguments} {body : Expr} {scope : Scope} {posL : Pos} {E : Value -> Shared -> Prop} (I : Inv X pins σ H s) (hcode : X.env.code = .ref c) (hx : (c, P, q) ∈ lamsIn X.K) (hq : X.env.qual ++ "<lambda>" = q)
    (hdef : defaultsOf params X.env = ([], [])) (hcl : closureFor scope X.env = pure [])
    (Q : Value -> Shared -> Prop)
    (h : ∀ f c' ctv H' s', Inv X pins σ H' s' -> (∀ b o, H b = some o -> (∀ t, o ≠ .tbl t) -> H' b = some o) -> (∀ b t, H b = some (.tbl t) -> ∃ ps, H' b = some (.tbl ⟨t.q, ps⟩)) -> s'.heap.get? f = some (PySem.W.kla_obj "<lambda>" q params body scope [] ((X.mg "__name__").getD .none) c' ctv) -> H' f = none ->
      (∃ oc u, H' c' = some (.frz oc u) /\ CodeQ oc q) -> s'.os = s.os -> Q (.ref f) s') :
    wpAny (model X.prog X.w) X.A (eval (.Lambda params body scope posL) X.env) Q E s := by
  obtain ⟨ps0, e0⟩ := I.ok.frf.t _ hx
  obtain ⟨m1, e1⟩ := I.base.tbls _ _ e0
  have e1 : H P = some (.tbl ⟨q, ps0 ++ m1⟩) := e1
  generalize ps0 ++ m1 = ps at e1
  obtain ⟨hP, ht, hr⟩ := I.hok P _ e1
  have hP : s.heap.get? P = some (PySem.W.tabObj ps) := hP
  have C : PySem.W.CodeHd s.heap c P := PySem.W.codeHd_of_K I.kIn (lamsIn_hd hx)
  have hg : s.heap.Ns mainGlobals X.mg := I.mod.glob.keeps I.bk
  have nob : ∀ b o, X.base.get? b = some o -> b ≠ P := fun b o e z => by
    have := (I.bs b o e).2
    rw [z, e1] at this; cases this
  have hgP : mainGlobals ≠ P := by
    obtain ⟨o, es, ep, e, _⟩ := I.mod.glob
    exact nob _ _ e
  obtain ⟨bm, ob, b1, b2, b3, b4, b5, b6⟩ := I.mod.bm
  have hbG : bm ≠ mainGlobals := fun z => by
    obtain ⟨o, es, ep, e, hd, _⟩ := I.mod.glob
    rw [z, e] at b3; cases b3; rw [hd] at b6; cases b6
  have hb : s.heap.BuiltinsAt X.mg P := ⟨bm, ob, b1, b2, hbG, nob _ _ b3, I.bk _ _ b3, b4, b5, b6⟩
  refine PySem.W.kla_eval hdef ?_
  rw [hq]
  cases hf : codeAmong posL ps.toList with
  | none =>
    refine PySem.W.kla_makeFunction (mg := X.mg) hcl I.ok.glob hg hcode C hP ht hf hgP hb fun c' ctv h' tk hx' hge hlt hrec htb => ?_
    obtain ⟨c2, oc, vs, t, ec, hoc, hd, hv⟩ := hrec
    cases ec
    have I2 := I.grown (c' := c') (oc := oc) (more := #[rawInt posL.line, rawInt posL.col, .ref c']) (h' := h') (tk := tk) e1 (fun b o n e => hx' b o n e) hge hoc ⟨vs, t, hd, hv⟩ htb trivial (fun p cv hc => by
      have hc : (if (posL.line : Int) == p.line && (posL.col : Int) == p.col then some (Value.ref c') else none) = some cv := hc
      split at hc
      . exact (Option.some.inj hc).symm
      . cases hc)
    have I3 := I2.kept (h' := h'.push (PySem.W.kla_obj "<lambda>" q params body scope [] ((X.mg "__name__").getD .none) c' ctv)) (t' := tk) fun b u e => Heap.get?_push_of_some _ e
    have fr : H c' = none := I.hok.fresh hge
    have old : ∀ b u, H b = some u -> b ≠ c' := fun b u q z => by rw [z, fr] at q; cases q
    have hcP : c' ≠ P := fun z => by rw [z, e1] at fr; cases fr
    refine h h'.objs.size c' ctv _ _ I3 (fun b o q n => ?_) (fun b t q => ?_) (Heap.get?_push_size _ rfl) (I2.hok.fresh (Nat.le_refl _)) ⟨oc, _, by rw [upd_ne hcP, upd_same], vs, t, hd, hv⟩ rfl
    . rw [upd_ne (fun z => by rw [z, e1] at q; cases q; exact n _ rfl), upd_ne (old b _ q)]; exact q
    . by_cases z : b = P
      . subst z
        rw [e1] at q; cases q
        exact ⟨_, upd_same⟩
      . exact ⟨t.ps, by rw [upd_ne z, upd_ne (old b _ q), q]⟩
  | some cv =>
    obtain ⟨c', oc, u, rfl, g1, g2⟩ := hr posL cv hf
    refine PySem.W.kla_makeFunctionHit (mg := X.mg) hcl I.ok.glob hg hcode C hP ht hf hb fun ctv h' tk hk hsz => ?_
    have I3 := I.kept (h' := h'.push (PySem.W.kla_obj "<lambda>" q params body scope [] ((X.mg "__name__").getD .none) c' ctv)) (t' := tk) fun b u e => Heap.get?_push_of_some _ (hk b u e)
    exact h h'.objs.size c' ctv _ _ I3 (fun b o q _ => q) (fun b t q => ⟨t.ps, q⟩) (Heap.get?_push_size _ rfl) (I.hok.fresh hsz) ⟨oc, u, g1, g2⟩ rfl
end
theorem bt_sorted : bootBuiltins "sorted" = some (.builtin "sorted") := by decide +kernel
theorem ns_one {h : Heap} {a : Addr} {m m' : Str -> Option Value} (x : h.Ns a m) (y : h.Ns a m') : m = m' := by
  obtain ⟨o, es, ep, e, d, _, k⟩ := x
  obtain ⟨o', es', ep', e', d', _, k'⟩ := y
  rw [e] at e'; cases e'
  rw [d] at d'
  injection d' with d1 _
  subst d1
  funext n
  rw [<- k n, <- k' n]
section
variable {prog : Program} {w : World} {A : Around} {s : Shared} {Q : Value -> Shared -> Prop} {E : Value -> Shared -> Prop}
theorem lam_call1 {f c' t : Addr} {its : List Value} {wv pm ctv : Value} {y q : Str} {params : Arguments} {scope : Scope} {p1 p2 p3 : Pos} {j : Nat}
    (ho : s.heap.get? f = some (PySem.W.kla_obj "<lambda>" q params (.Subscript (.Name y p1) (.Constant (.int 1) j p2) p3) scope [] pm c' ctv)) (hcd : s.heap.CodeRec (.ref c') q) (hroom : A.depth < recursionLimit) (hlim : s.heap.NoLimit)
    (hbind : bindArgs (PySem.W.kla_fn "<lambda>" q params (.Subscript (.Name y p1) (.Constant (.int 1) j p2) p3) scope [] pm (.ref c') ctv) ⟨[.ref t], []⟩ = pure [(y, .ref t)])
    (hloc : scope.names.lookup y = some .local) (hnc : ∀ z ∈ scope.names, z.2 ≠ .cell) (hk : scope.kind = .function) (hco : scope.isCoroutine = false) (hgen : scope.isGenerator = false) (hyd : (y == ("__debug__" : Str)) = false)
    (tup : IsTup s.heap t its.toArray) (hi : its[1]? = some wv)
    (h : ∀ h' tk, (∀ b o, s.heap.get? b = some o -> h'.get? b = some o) -> Q wv { s with heap := h', toks := tk }) :
    wpAny (model prog w) A (call (.ref f) [.ref t]) Q E s := by
  refine wpAny_call (PySem.W.kla_callFunE hroom ho rfl hco hgen rfl hcd ?_)
  rw [hbind]
  refine wpAny_pure (wpAny_newFunctionEnv hnc (fun z hz => ?_) (fun h₁ hns hsb => ⟨hlim.fresh _ hsb, ?_⟩) hk)
  . rw [List.mem_singleton.mp hz]
    exact hloc
  have hk₁ : ∀ b o, s.heap.get? b = some o -> h₁.get? b = some o := fun b o e => hsb.extBut b o (Nat.ne_of_lt (Heap.lt_size e)) (Heap.get?_push_of_some _ e)
  show codeAny _ _ (.expr _ (PySem.W.envX q scope s.heap.objs.size f (.ref c') [])) _ _
  refine PySem.W.kla_codeExpr ?_
  have tup1 : IsTup h₁ t its.toArray := by
    obtain ⟨o, e, r⟩ := tup
    exact ⟨o, hk₁ _ _ e, r⟩
  have len : 1 < its.length := (List.getElem?_eq_some_iff.mp hi).1
  refine Subscript_ (wpAny_Name (wpAny_loadName_local hk hloc hns (v := .ref t) ?_ ?_) hyd)
  . show List.lookup y [(y, Value.ref t)].reverse = _
    simp
  refine wpAny_Constant_int ?_
  refine subscriptTail_builtinR (x := wv) tup1.typeIs slot_tuple_getitem.lookup (getItem_tuple (j := 1) (Q := fun r s' => r = wv /\ _) tup1 (by decide) (by decide) ?_ (by simpa using hi) ⟨rfl, ?_⟩) rfl
  . rw [List.size_toArray]
    unfold seqIndex?
    have : (1 : Int) < (its.length : Int) := by omega
    simp [this]
  . exact h _ _ hk₁
end
end L2
namespace L3
open PySem PySem.Spec PyProof.Rows L2
def keyP : PV -> Int
  | .tup [_, .int k] => k
  | _ => 0
open Classical in
def sortP (ps : List PV) : List PV := if h : ∃ l : List PV, l.Perm ps /\ l.Pairwise (fun a b => keyP a <= keyP b) then h.choose else []
theorem sortP_eq {l ps : List PV} (p : l.Perm ps) (o : l.Pairwise fun a b => keyP a <= keyP b) (nd : (ps.map keyP).Nodup) : sortP ps = l := by
  have h : ∃ l : List PV, l.Perm ps /\ l.Pairwise (fun a b => keyP a <= keyP b) := ⟨l, p, o⟩
  unfold sortP
  rw [dif_pos h]
  have s := h.choose_spec
  exact perm_one keyP (s.1.trans p.symm) s.2 o ((p.map keyP).nodup_iff.mpr nd)
structure PairsOk (ps : List PV) : Prop where
  len : ps.length < 64
  two : ∀ p ∈ ps, ∃ x, p = .tup [x, .int (keyP p)]
  nd : (ps.map keyP).Nodup
theorem zip3 {α β γ δ : Type} (f : α -> δ) : ∀ (a : List α) (b : List β) (c : List γ), a.length = b.length -> b.length = c.length -> ((a.zip (b.zip c)).map fun t => (f t.1, t.2.2)) = (a.map f).zip c /\ (a.zip (b.zip c)).map (fun t => t.1) = a
  | [], _, _, _, _ => ⟨rfl, rfl⟩
  | x :: a, [], _, h, _ => absurd h (by simp)
  | x :: a, y :: b, [], _, h => absurd h (by simp)
  | x :: a, y :: b, z :: c, h, k => by
    obtain ⟨e1, e2⟩ := zip3 f a b c (by simpa using h) (by simpa using k)
    refine ⟨?_, ?_⟩
    . rw [List.zip_cons_cons, List.zip_cons_cons, List.map_cons, e1, List.map_cons, List.zip_cons_cons]
    . rw [List.zip_cons_cons, List.zip_cons_cons, List.map_cons, e2]
section
variable {K : PySem.W.Frag} {G : Gx} {H : Hp}
theorem zip_at : ∀ {ps : List PV} {xs : List V} {its : List Value}, AtL K G H ps xs -> Vals xs its -> ∀ t ∈ ps.zip (xs.zip its), At K G H t.1 t.2.1 /\ RelV t.2.1 t.2.2
  | [], _, _, _, _, t, ht => by simp at ht
  | p :: ps, _, _, h, r, t, ht => by
    obtain ⟨v, vs, rfl, q, al⟩ := h
    cases r with
    | cons r0 r1 =>
      rcases List.mem_cons.mp ht with rfl | ht
      . exact ⟨q, r0⟩
      . exact zip_at al r1 t ht
theorem atL_map : ∀ {T : List (PV × V × Value)}, (∀ t ∈ T, At K G H t.1 t.2.1) -> AtL K G H (T.map fun t => t.1) (T.map fun t => t.2.1)
  | [], _ => rfl
  | t :: T, h => ⟨_, _, rfl, h t List.mem_cons_self, atL_map fun x hx => h x (List.mem_cons_of_mem _ hx)⟩
theorem vals_map : ∀ {T : List (PV × V × Value)}, (∀ t ∈ T, RelV t.2.1 t.2.2) -> Vals (T.map fun t => t.2.1) (T.map fun t => t.2.2)
  | [], _ => .nil
  | t :: T, h => .cons (h t List.mem_cons_self) (vals_map fun x hx => h x (List.mem_cons_of_mem _ hx))
end
def LamC (K : PySem.W.Frag) (cd : Value) (q : Str) : Prop := ∃ c P, cd = .ref c /\ (c, P, q) ∈ lamsIn K
section
variable {X : Cx} {G : Gx} {a : Expr} {pos p kp posL p1 p2 p3 : Pos} {Ca : En -> Prop} {ga : En -> PV} {k j : Nat} {y : Str} {params : Arguments} {scope : Scope}
theorem xp_sortL (hl : LamC X.K X.env.code (X.env.qual ++ "<lambda>")) (hr : Room k X.A) (hm : X.mg "sorted" = none) (ha : PE X a (tX X.K G Ca ga)) (hg : Gl X "sorted" := by rfl) (he : starEach [a] X.env = [(false, eval a X.env)] := by rfl)
    (hdef : defaultsOf params X.env = ([], []) := by rfl) (hcl : closureFor scope X.env = pure [] := by rfl)
    (hbind : ∀ (pm ctv : Value) (c' t : Addr), bindArgs (PySem.W.kla_fn "<lambda>" (X.env.qual ++ "<lambda>") params (.Subscript (.Name y p1) (.Constant (.int 1) j p2) p3) scope [] pm (.ref c') ctv) ⟨[.ref t], []⟩ = pure [(y, .ref t)] := by intros; rfl)
    (hloc : scope.names.lookup y = some .local := by rfl) (hnc : ∀ z ∈ scope.names, z.2 ≠ .cell := by decide) (hk : scope.kind = .function := by rfl) (hco : scope.isCoroutine = false := by rfl) (hgen : scope.isGenerator = false := by rfl) (hyd : (y == ("__debug__" : Str)) = false := by decide) :
    PE X (.Call (.Name "sorted" p) [a] [⟨some "key", .Lambda params (.Subscript (.Name y p1) (.Constant (.int 1) j p2) p3) scope posL, kp⟩] pos) (tXp X.K G (fun Z => Ca Z /\ ga Z = .lst (pvP (ga Z)) /\ PairsOk (pvP (ga Z))) fun Z => sortP (pvP (ga Z))) := by
  intro pins s σ H Q I ⟨B, Z, O, R, c, q⟩
  refine wpAny_Call_Name_kw (ld_blt I hg hm bt_sorted ?_ (by decide) (by decide))
  refine PyProof.Rows.callWith_kw (thn (pa_cons ha pa_nil he pos pins s σ H (fun vs H' => ∃ l xs, vs = [.ref l] /\ Same H H' /\ Rd (mn H' O) l (.lst xs) /\ AtL X.K G (mn H' O) (pvP (ga Z)) xs) I ⟨B, Z, O, R, c.1, fun v H1 s1 a1 => ?_⟩) fun us t1 h => ?_) (by rw [he]; rfl) (by rw [he]; rfl)
  . rw [c.2.1] at a1
    obtain ⟨l, xs, rfl, r1, al⟩ := a1
    exact ⟨l, xs, rfl, s1, r1, al⟩
  obtain ⟨vs, H1, I1, rv, l, xs, rfl, s1, rd, al⟩ := h
  obtain ⟨u, rfl, ru⟩ := vals1 rv
  cases ru
  obtain ⟨cc, P, hcode, hx⟩ := hl
  obtain ⟨_, _, PO⟩ := c
  have q : ∀ (a : Addr) (vs : List V) (H' : Hp), Same H H' -> H a = none -> H' a = some (HO.lst vs) -> AtL X.K G (mn H' (hide a O)) (sortP (pvP (ga Z))) vs -> Q (V.ref a) H' := q
  generalize pvP (ga Z) = ps at *
  refine kws_cons (lam_eval I1 hcode hx rfl hdef hcl _ fun f c' ctv H2 t2 I2 kp2 tb2 hf fn fz os => kws_nil ?_)
  have s2 : Same H1 H2 := fun b o e => by
    cases o <;> first | exact kp2 b _ e (fun t z => by cases z) | (obtain ⟨ps', z⟩ := tb2 b _ e; exact ⟨ps', z⟩)
  show wpAny _ _ (call (.builtin "sorted") [.ref l] [("key", .ref f)]) _ _ t2
  obtain ⟨_, its, n, r, hlen, e⟩ := L3.Inv.lstR I2 (same_rd (mn_le.trans s2) rd)
  have al2 := AtL.mono (mn_same s2) _ _ al
  have lps : ps.length = xs.length := al2.length
  obtain ⟨m, F⟩ := I2.fr
  have N := news_all (g := X.base) (h := t2.heap) (L := X.env.locals)
  have hfL : f ≠ X.env.locals := fun z => by
    obtain ⟨m', ⟨o, es, ep, ho, hd, _⟩, _⟩ := I2.loc
    rw [<- z, hf] at ho
    cases ho
    cases hd
  have kept : ∀ {h : Heap} {own : List (Addr × Obj)}, Fr X.base X.env.locals h m -> News X.base X.env.locals h (allNews X.base t2.heap X.env.locals ++ own) -> ∀ b o, b ≠ X.env.locals -> t2.heap.get? b = some o -> h.get? b = some o := fun {h own} F' N' b o hb eb => by
    cases z : X.base.get? b with
    | some u =>
      have := I2.bk b u z
      rw [eb] at this; cases this
      exact F'.keep b _ z
    | none => exact (N' (b, o) (List.mem_append_left _ (mem_allNews hb z eb))).1
  have tr : ∀ b u, H2 b = some u -> b ≠ X.env.locals := fun b u z w => by rw [w, I2.free] at z; cases z
  obtain ⟨oc, fu, fz1, fz2⟩ := fz
  have hoc := (I2.hok c' _ fz1).1
  refine PyProof.Rows.ksk_sorted (b := false) (kz := ps.map keyP) (f := .ref f) F N (vs := its) ⟨_, e, rfl, n, rfl⟩ (by rw [List.length_map, lps, hlen]) (by rw [<- hlen, <- lps]; exact PO.len) (PyProof.Rows.ksk_s1 _ _) (fun x => PyProof.Rows.ksk_l1 _ _) (fun x => PyProof.Rows.ksk_t1 _ _) (fun i v kk hv hkk h tk own F' N' => ?_) (fun D h' tk out cz F' N' lt ko => ?_)
  . rw [List.getElem?_map] at hkk
    cases hp : ps[i]? with
    | none => rw [hp] at hkk; cases hkk
    | some pp =>
      rw [hp] at hkk
      have hkk : some (keyP pp) = some kk := hkk
      cases hkk
      obtain ⟨xv, hxv, at1⟩ := al2.at hp
      obtain ⟨v', hv', rl⟩ := r.get hxv
      rw [hv] at hv'; cases hv'
      obtain ⟨x, ex⟩ := PO.two pp (List.mem_of_getElem? hp)
      rw [ex] at at1
      obtain ⟨t, us, rfl, ht, ux, ur, rfl, _, ui, un, rfl, hui, hun⟩ := at1
      cases rl
      have hun : un = [] := hun
      have hui : ui = .int (keyP pp) := hui
      subst hun hui
      have ht2 : H2 t = some (.tup [ux, .int (keyP pp)]) := (mn_get ht).2
      obtain ⟨_, its2, r2, tup⟩ := I2.hok t _ ht2
      cases r2 with
      | cons q0 q1 =>
        cases q1 with
        | cons q2 q3 =>
          cases q3
          obtain ⟨tok, rfl⟩ := q2
          obtain ⟨o, eo, ro⟩ := tup
          have tup' : IsTup h t _ := ⟨o, kept F' N' _ _ (tr t _ ht2) eo, ro⟩
          refine lam_call1 (s := { t2 with heap := h, toks := tk }) (kept F' N' _ _ hfL hf) (CodeQ.rec (kept F' N' _ _ (tr c' _ fz1) hoc) fz2) hr.depth (I2.ok.mod.nolimit.keeps F'.keep) (hbind _ _ _ _) hloc hnc hk hco hgen hyd tup' rfl fun h'' tk' kk => ?_
          exact ⟨h'', tk', tok, rfl, rfl, F'.kept kk, fun p hp => ⟨kk _ _ (N' p hp).1, (N' p hp).2⟩⟩
  . have keptD : ∀ b o, b ≠ X.env.locals -> t2.heap.get? b = some o -> h'.get? b = some o := fun b o hb eb => by
      cases z : X.base.get? b with
      | some u =>
        have := I2.bk b u z
        rw [eb] at this; cases this
        exact F'.keep b _ z
      | none => exact (N' (b, o) (List.mem_cons_of_mem _ (mem_allNews hb z eb))).1
    obtain ⟨hD, DL, Db⟩ := N' (D, _) List.mem_cons_self
    have hD : h'.get? D = some (seqObj "list" out cz) := hD
    have DL : D ≠ X.env.locals := DL
    have Db : X.base.get? D = none := Db
    have Dn : t2.heap.get? D = none := by
      cases z : t2.heap.get? D with
      | none => rfl
      | some o => exact absurd (lt (D, o) (mem_allNews DL Db z)) (Nat.lt_irrefl _)
    have HD : H2 D = none := by
      cases z : H2 D with
      | none => rfl
      | some u =>
        obtain ⟨o, eo⟩ := ObjOk.get (I2.hok D u z)
        rw [Dn] at eo; cases eo
    obtain ⟨pz, hperm, hout, hord⟩ := ko
    obtain ⟨z1, z2⟩ := zip3 keyP ps xs its lps hlen
    rw [<- z1] at hperm
    obtain ⟨T, tp, te⟩ := perm_map_inv hperm rfl
    have mem := zip_at al2 r
    have eps : T.map (fun t => t.1) = sortP ps := by
      refine (sortP_eq ?_ ?_ PO.nd).symm
      . have := tp.map fun t => t.1
        rw [z2] at this
        exact this
      . rw [<- te] at hord
        rw [List.pairwise_map] at hord ⊢
        exact hord
    have eout : out.toList = T.map fun t => t.2.2 := by
      rw [hout, <- te, List.map_map]
      rfl
    have rv : Vals (T.map fun t => t.2.1) out.toList := by
      rw [eout]
      exact vals_map fun t ht => (mem t (tp.mem_iff.mp ht)).2
    have alT : AtL X.K G (mn H2 O) (sortP ps) (T.map fun t => t.2.1) := by
      rw [<- eps]
      exact atL_map fun t ht => (mem t (tp.mem_iff.mp ht)).1
    have lT : (T.map fun t => t.2.1).length <= sizeLine := by
      rw [List.length_map, tp.length_eq, List.length_zip, List.length_zip]
      have h1 := PO.len
      exact Nat.le_of_lt (small1000 (by omega))
    have hobj : h'.get? D = some { cls := .type "list", data := .seq out.toList.toArray cz } := by
      rw [hD]
      all_goals simp [seqObj]
    have I3 : Inv X pins σ (upd H2 D (.lst (T.map fun t => t.2.1))) { t2 with heap := h', gens := t2.gens, drawn := t2.drawn, toks := tk } := by
      refine I2.step (ch := []) (fun b hb => absurd hb (by simp)) (fun b o hb _ _ eo _ => keptD b o hb eo) (fun b o hb _ _ eo _ => ⟨o.slots, keptD b o hb eo⟩) (fun b o _ eo no => ?_) (fun b o _ eo => ?_) (fun b xs z => ?_) (fun b o u z => ?_) (fun b ps z => ⟨#[], ?_⟩) (fun m0 hm0 => ?_) (fun b u z => ?_) I2.bare
      . rw [upd_ne (fun w => by rw [w, Dn] at eo; cases eo)]; exact no
      . by_cases w : b = X.env.locals
        . obtain ⟨o', es, ep, ho, _⟩ := F'.ns
          rw [w]
          exact ⟨o', ho⟩
        . exact ⟨o, keptD b o w eo⟩
      . rw [upd_ne (ne_of_none z HD)]; exact z
      . rw [upd_ne (ne_of_none z HD)]; exact z
      . rw [upd_ne (ne_of_none z HD), z]; simp
      . have := ns_one hm0 F.ns
        subst this
        exact F'.ns
      . by_cases w : b = D
        . subst w
          rw [upd_same] at z; cases z
          exact ⟨lT, out.toList, cz, rv, hobj⟩
        . rw [upd_ne w] at z
          refine (I2.hok b u z).stay (fun c v hcb rr => keptD c v ?_ rr) (fun c rr => by rw [upd_ne (ne_of_none rr HD)]; exact rr) (fun c _ rr => by rw [upd_ne (ne_of_none rr HD)]; exact rr) fun c _ _ rr => by rw [upd_ne (ne_of_none rr HD)]; exact rr
          rcases hcb with rfl | hcb
          . exact tr c _ z
          . exact tr c _ hcb
    have sD : Same H2 (upd H2 D (.lst (T.map fun t => t.2.1))) := same_new HD _
    exact ⟨.ref D, _, I3, rfl, q D _ _ ((s1.trans s2).trans sD) ((s1.trans s2).free HD) upd_same (AtL.mono (mn_hide sD HD) _ _ alT)⟩
end
def LamDef (K : PySem.W.Frag) (mg : Str -> Option Value) (x : Str) : Prop := ∃ f oc od fd sl, mg x = some (.ref f) /\ K.lookup f = some ⟨oc, od, .func fd, sl⟩ /\ LamC K fd.code (x ++ ".<locals>." ++ "<lambda>")
def lamHas (K : PySem.W.Frag) (cd : Value) (q : Str) : Bool := match cd with
  | .ref c => (lamsIn K).any fun x => x.1 == c && x.2.2 == q
  | _ => false
theorem lamHas_of {K : PySem.W.Frag} {cd : Value} {q : Str} (h : lamHas K cd q = true) : LamC K cd q := by
  unfold lamHas at h
  split at h
  . rename_i c
    obtain ⟨x, hx, e⟩ := List.any_eq_true.mp h
    rw [Bool.and_eq_true, beq_iff_eq, beq_iff_eq] at e
    obtain ⟨a, b, d⟩ := x
    obtain ⟨e1, e2⟩ := e
    have e1 : a = c := e1
    have e2 : d = q := e2
    subst e1 e2
    exact ⟨a, b, rfl, hx⟩
  . cases h
def lamOkB (K : PySem.W.Frag) (ts : List Addr) : Bool := (lamsIn K).all fun x => (ts.contains x.2.1 && (K.lookup x.2.1).isNone) && (lamsIn K).all fun y => x.2.1 != y.2.1 || x.2.2 == y.2.2
theorem lamOk_of {K : PySem.W.Frag} {h : Heap} {ts : List Addr} (e : lamOkB K ts = true) (t : ∀ P ∈ ts, h.get? P = some (PySem.W.tabObj #[])) : LamOk K h := by
  have a := fun x hx => Bool.and_eq_true_iff.mp (List.all_eq_true.mp e x hx)
  refine ⟨fun x hx => t _ ?_, fun x hx => ?_, fun x hx y hy z => ?_⟩
  . exact List.contains_iff_mem.mp (Bool.and_eq_true_iff.mp (a x hx).1).1
  . exact Option.isNone_iff_eq_none.mp (Bool.and_eq_true_iff.mp (a x hx).1).2
  . have := List.all_eq_true.mp (a x hx).2 y hy
    rw [Bool.or_eq_true, bne_iff_ne, beq_iff_eq] at this
    exact this.resolve_left fun n => n z
section
variable {P : Program} {w : World} {K : PySem.W.Frag} {mg : Str -> Option Value} {base : Heap} {G : Gx}
theorem okFL {x : Str} {st : Stmt} {N ps : List Str} {k : Nat} {pre : List PV -> Prop} {F : List PV -> PV} (d : Def K mg x st ps) (S : FnScope N ps (defScope st)) (LD : LamDef K mg x) (len : ∀ as, pre as -> as.length = ps.length)
    (hbody : ∀ (f : Addr) (cdv : Value) (A : Around) (outer : List Env) (s : Shared) (H : Hp) (E : XK), Room k (A.deeper (envOfC x (defScope st) s.heap.objs.size f cdv)) -> LamC K cdv (x ++ ".<locals>." ++ "<lambda>") ->
      ∃ fs, PSs (cxOf CX0 P w K mg base N x (defScope st) f cdv A outer s H E).nox (defBody st) (ts K G ER0 fs) /\ ∀ as, pre as -> fs { nx := fun _ => F as = .non, rt := fun p => p = F as, rl := fun ns => F as = .ints ns } (startR N as)) : Ok P w K mg base (k + 1) x ps (spF K G pre F) := by
  obtain ⟨f, fd, FF, b, m⟩ := d.ex
  refine ⟨f, fd, ?_, b, FF.kp, m⟩
  obtain ⟨oc, od, kV, doc, pm, an, cdv, ct, osl, rfl, lk, hcd⟩ := FF.ex
  have hl : LamC K cdv (x ++ ".<locals>." ++ "<lambda>") := by
    obtain ⟨f', oc', od', fd', sl', m', lk', hl⟩ := LD
    rw [m] at m'
    cases m'
    rw [lk] at lk'
    cases lk'
    exact hl
  refine fn_of lk hcd S (fun vs H Q E h => ?_) fun A outer s H vs Q E hr h => ?_
  . obtain ⟨as, O, _, al, hp, _⟩ := h
    rw [<- al.length]; exact len as hp
  obtain ⟨as, O, hd, al, hp, q⟩ := h
  obtain ⟨fs, b, c⟩ := hbody f cdv A outer s H E hr hl
  refine ⟨_, b.nox, ⟨H, O⟩, startR N as, _, ⟨O, rep_start hd al⟩, c as hp, ⟨fun σ' H' Z' R' h => ?_, fun v H' p s' a' h => ?_, fun a H' ns s' n e h => ?_, fun _ _ _ _ _ h => h.elim, fun _ _ _ _ h => h, fun _ _ _ _ h => h, fun _ _ _ h => h⟩⟩
  . obtain ⟨O', R'⟩ := R'
    exact q .non H' R'.same (by rw [show F as = .non from h]; rfl)
  . have h : p = F as := h
    subst h
    exact q v H' s' a'
  . have h : F as = .ints ns := h
    refine q _ H' s' ?_
    rw [h]
    exact ⟨a, rfl, .inl (by
      rw [mn_of]
      . exact e
      . cases z : O a with
        | false => rfl
        | true => exact absurd n (hd a z))⟩
end
end L3
namespace K25
open PySem L2 L3 PyProof.Rows FM
abbrev s_cut_noughts : Stmt := top 7
theorem sc_cut_noughts : FnScope ["numbers"] ["numbers"] (defScope s_cut_noughts) := ⟨rfl, rfl, rfl, by decide +kernel, rfl, by decide +kernel, by decide +kernel⟩
abbrev s_trimmed : Stmt := top 8
theorem sc_trimmed : FnScope ["kind", "f", "numbers"] ["kind", "f"] (defScope s_trimmed) := ⟨rfl, rfl, rfl, by decide +kernel, rfl, by decide +kernel, by decide +kernel⟩
abbrev s_plus : Stmt := top 9
theorem sc_plus : FnScope ["kind", "f", "g", "sums", "at", "number"] ["kind", "f", "g"] (defScope s_plus) := ⟨rfl, rfl, rfl, by decide +kernel, rfl, by decide +kernel, by decide +kernel⟩
abbrev s_less : Stmt := top 10
theorem sc_less : FnScope ["kind", "f", "g"] ["kind", "f", "g"] (defScope s_less) := ⟨rfl, rfl, rfl, by decide +kernel, rfl, by decide +kernel, by decide +kernel⟩
abbrev s_times : Stmt := top 11
theorem sc_times : FnScope ["kind", "f", "g", "ones", "others", "sums", "at", "one", "behind", "other"] ["kind", "f", "g"] (defScope s_times) := ⟨rfl, rfl, rfl, by decide +kernel, rfl, by decide +kernel, by decide +kernel⟩
abbrev s_scaled : Stmt := top 12
theorem sc_scaled : FnScope ["kind", "f", "number"] ["kind", "f", "number"] (defScope s_scaled) := ⟨rfl, rfl, rfl, by decide +kernel, rfl, by decide +kernel, by decide +kernel⟩
abbrev s_slope : Stmt := top 13
theorem sc_slope : FnScope ["kind", "f"] ["kind", "f"] (defScope s_slope) := ⟨rfl, rfl, rfl, by decide +kernel, rfl, by decide +kernel, by decide +kernel⟩
abbrev s_divided : Stmt := top 14
theorem sc_divided : FnScope ["kind", "f", "g", "rest", "divisor", "quotient", "gap", "often", "at", "number"] ["kind", "f", "g"] (defScope s_divided) := ⟨rfl, rfl, rfl, by decide +kernel, rfl, by decide +kernel, by decide +kernel⟩
abbrev s_common : Stmt := top 16
theorem sc_common : FnScope ["kind", "f", "g", "before", "rest", "behind"] ["kind", "f", "g"] (defScope s_common) := ⟨rfl, rfl, rfl, by decide +kernel, rfl, by decide +kernel, by decide +kernel⟩
abbrev s_with_lead_one : Stmt := top 17
theorem sc_with_lead_one : FnScope ["kind", "f"] ["kind", "f"] (defScope s_with_lead_one) := ⟨rfl, rfl, rfl, by decide +kernel, rfl, by decide +kernel, by decide +kernel⟩
abbrev s_turned_lead : Stmt := top 18
theorem sc_turned_lead : FnScope ["kind", "f"] ["kind", "f"] (defScope s_turned_lead) := ⟨rfl, rfl, rfl, by decide +kernel, rfl, by decide +kernel, by decide +kernel⟩
abbrev s_shares : Stmt := top 19
theorem sc_shares : FnScope ["kind", "f", "g", "before", "row", "often", "behind", "factor"] ["kind", "f", "g"] (defScope s_shares) := ⟨rfl, rfl, rfl, by decide +kernel, rfl, by decide +kernel, by decide +kernel⟩
abbrev s_row_less : Stmt := top 20
theorem sc_row_less : FnScope ["kind", "row", "often", "other"] ["kind", "row", "often", "other"] (defScope s_row_less) := ⟨rfl, rfl, rfl, by decide +kernel, rfl, by decide +kernel, by decide +kernel⟩
abbrev s_free_parts : Stmt := top 22
theorem sc_free_parts : FnScope ["kind", "f", "left", "pairs", "factor", "found", "g", "often"] ["kind", "f"] (defScope s_free_parts) := ⟨rfl, rfl, rfl, by decide +kernel, rfl, by decide +kernel, by decide +kernel⟩
abbrev s_seen_by_slope : Stmt := top 23
theorem sc_seen_by_slope : FnScope ["kind", "f", "deeper", "layer", "pairs", "often", "next_layer", "g"] ["kind", "f"] (defScope s_seen_by_slope) := ⟨rfl, rfl, rfl, by decide +kernel, rfl, by decide +kernel, by decide +kernel⟩
abbrev s_is_prime : Stmt := top 26
theorem sc_is_prime : FnScope ["number", "divisor"] ["number"] (defScope s_is_prime) := ⟨rfl, rfl, rfl, by decide +kernel, rfl, by decide +kernel, by decide +kernel⟩
abbrev s_turned : Stmt := top 27
theorem sc_turned : FnScope ["number", "size", "before", "rest", "share_before", "share", "often", "rest_behind", "share_behind"] ["number", "size"] (defScope s_turned) := ⟨rfl, rfl, rfl, by decide +kernel, rfl, by decide +kernel, by decide +kernel⟩
abbrev s_refuse_no_prime : Stmt := top 28
theorem sc_refuse_no_prime : FnScope ["number"] ["number"] (defScope s_refuse_no_prime) := ⟨rfl, rfl, rfl, by decide +kernel, rfl, by decide +kernel, by decide +kernel⟩
abbrev s_cell_at : Stmt := top 32
theorem sc_cell_at : FnScope ["_law_script", "_law_k"] ["_law_script", "_law_k"] (defScope s_cell_at) := ⟨rfl, rfl, rfl, by decide +kernel, rfl, by decide +kernel, by decide +kernel⟩
abbrev s_whole : Stmt := top 33
theorem sc_whole : FnScope ["_law_found"] ["_law_found"] (defScope s_whole) := ⟨rfl, rfl, rfl, by decide +kernel, rfl, by decide +kernel, by decide +kernel⟩
abbrev s_law_divided : Stmt := top 34
theorem sc_law_divided : FnScope ["_law_number", "_law_by"] ["_law_number"] (defScope s_law_divided) := ⟨rfl, rfl, rfl, by decide +kernel, rfl, by decide +kernel, by decide +kernel⟩
abbrev s_prime_by : Stmt := top 35
theorem sc_prime_by : FnScope ["_law_cell", "_law_number"] ["_law_cell"] (defScope s_prime_by) := ⟨rfl, rfl, rfl, by decide +kernel, rfl, by decide +kernel, by decide +kernel⟩
abbrev s_form : Stmt := top 36
theorem sc_form : FnScope ["_law_row", "_law_prime"] ["_law_row", "_law_prime"] (defScope s_form) := ⟨rfl, rfl, rfl, by decide +kernel, rfl, by decide +kernel, by decide +kernel⟩
abbrev s_law_times : Stmt := top 37
theorem sc_law_times : FnScope ["_law_one", "_law_other", "_law_prime", "_law_row", "_law_i", "_law_k"] ["_law_one", "_law_other", "_law_prime"] (defScope s_law_times) := ⟨rfl, rfl, rfl, by decide +kernel, rfl, by decide +kernel, by decide +kernel⟩
abbrev s_law_plus : Stmt := top 38
theorem sc_law_plus : FnScope ["_law_one", "_law_other", "_law_prime", "_law_row", "_law_k"] ["_law_one", "_law_other", "_law_prime"] (defScope s_law_plus) := ⟨rfl, rfl, rfl, by decide +kernel, rfl, by decide +kernel, by decide +kernel⟩
abbrev s_law_slope : Stmt := top 39
theorem sc_law_slope : FnScope ["_law_row", "_law_prime"] ["_law_row", "_law_prime"] (defScope s_law_slope) := ⟨rfl, rfl, rfl, by decide +kernel, rfl, by decide +kernel, by decide +kernel⟩
abbrev s_in_form : Stmt := top 40
theorem sc_in_form : FnScope ["_law_found", "_law_prime", "_law_number"] ["_law_found", "_law_prime"] (defScope s_in_form) := ⟨rfl, rfl, rfl, by decide +kernel, rfl, by decide +kernel, by decide +kernel⟩
abbrev s_built : Stmt := top 41
theorem sc_built : FnScope ["_law_script", "_law_prime", "_law_made", "_law_k", "_law_some", "_law_row", "_law_often", "_law_turn"] ["_law_script", "_law_prime"] (defScope s_built) := ⟨rfl, rfl, rfl, by decide +kernel, rfl, by decide +kernel, by decide +kernel⟩
abbrev s_apart : Stmt := top 42
theorem sc_apart : FnScope ["_law_kind", "_law_one", "_law_other", "_law_prime", "_law_d", "_law_a", "_law_b", "_law_made"] ["_law_kind", "_law_one", "_law_other", "_law_prime"] (defScope s_apart) := ⟨rfl, rfl, rfl, by decide +kernel, rfl, by decide +kernel, by decide +kernel⟩
abbrev s_law : Stmt := top 43
theorem sc_law : FnScope ["_law_script", "_law_prime", "_law_kind", "_law_f", "_law_tail", "_law_handed", "_law_found", "_law_made", "_law_last", "_law_k", "_law_row", "_law_often", "_law_j", "_law_turn"] ["_law_script"] (defScope s_law) := ⟨rfl, rfl, rfl, by decide +kernel, rfl, by decide +kernel, by decide +kernel⟩
abbrev s_Kind_init : Stmt := inClass (top 29) 0
theorem sc_Kind_init : FnScope ["self", "size"] ["self", "size"] (defScope s_Kind_init) := ⟨rfl, rfl, rfl, by decide +kernel, rfl, by decide +kernel, by decide +kernel⟩
abbrev s_Kind_plain : Stmt := inClass (top 29) 1
theorem sc_Kind_plain : FnScope ["self", "number"] ["self", "number"] (defScope s_Kind_plain) := ⟨rfl, rfl, rfl, by decide +kernel, rfl, by decide +kernel, by decide +kernel⟩
abbrev s_Kind_over : Stmt := inClass (top 29) 5
theorem sc_Kind_over : FnScope ["self", "a", "b"] ["self", "a", "b"] (defScope s_Kind_over) := ⟨rfl, rfl, rfl, by decide +kernel, rfl, by decide +kernel, by decide +kernel⟩
abbrev s_Rests_init : Stmt := inClass (top 30) 0
theorem sc_Rests_init : FnScope ["self", "prime"] ["self", "prime"] (defScope s_Rests_init) := ⟨rfl, rfl, rfl, by decide +kernel, rfl, by decide +kernel, by decide +kernel⟩
structure Top (K : W.Frag) (mg : Str -> Option Value) (cNO : Addr) (cK : Addr) (cR : Addr) : Prop where
  d_cut_noughts : Def K mg "cut_noughts" s_cut_noughts ["numbers"]
  d_trimmed : Def K mg "trimmed" s_trimmed ["kind", "f"]
  d_plus : Def K mg "plus" s_plus ["kind", "f", "g"]
  d_less : Def K mg "less" s_less ["kind", "f", "g"]
  d_times : Def K mg "times" s_times ["kind", "f", "g"]
  d_scaled : Def K mg "scaled" s_scaled ["kind", "f", "number"]
  d_slope : Def K mg "slope" s_slope ["kind", "f"]
  d_divided : Def K mg "divided" s_divided ["kind", "f", "g"]
  d_common : Def K mg "common" s_common ["kind", "f", "g"]
  d_with_lead_one : Def K mg "with_lead_one" s_with_lead_one ["kind", "f"]
  d_turned_lead : Def K mg "turned_lead" s_turned_lead ["kind", "f"]
  d_shares : Def K mg "shares" s_shares ["kind", "f", "g"]
  d_row_less : Def K mg "row_less" s_row_less ["kind", "row", "often", "other"]
  d_free_parts : Def K mg "free_parts" s_free_parts ["kind", "f"]
  d_seen_by_slope : Def K mg "seen_by_slope" s_seen_by_slope ["kind", "f"]
  d_is_prime : Def K mg "is_prime" s_is_prime ["number"]
  d_turned : Def K mg "turned" s_turned ["number", "size"]
  d_refuse_no_prime : Def K mg "refuse_no_prime" s_refuse_no_prime ["number"]
  d_cell_at : Def K mg "_law_cell_at" s_cell_at ["_law_script", "_law_k"]
  d_whole : Def K mg "_law_whole" s_whole ["_law_found"]
  d_law_divided : Def K mg "_law_divided" s_law_divided ["_law_number"]
  d_prime_by : Def K mg "_law_prime_by" s_prime_by ["_law_cell"]
  d_form : Def K mg "_law_form" s_form ["_law_row", "_law_prime"]
  d_law_times : Def K mg "_law_times" s_law_times ["_law_one", "_law_other", "_law_prime"]
  d_law_plus : Def K mg "_law_plus" s_law_plus ["_law_one", "_law_other", "_law_prime"]
  d_law_slope : Def K mg "_law_slope" s_law_slope ["_law_row", "_law_prime"]
  d_in_form : Def K mg "_law_in_form" s_in_form ["_law_found", "_law_prime"]
  d_built : Def K mg "_law_built" s_built ["_law_script", "_law_prime"]
  d_apart : Def K mg "_law_apart" s_apart ["_law_kind", "_law_one", "_law_other", "_law_prime"]
  l_free_parts : LamDef K mg "free_parts"
  b_len : mg "len" = none
  b_range : mg "range" = none
  b_isinstance : mg "isinstance" = none
  b_bool : mg "bool" = none
  b_int : mg "int" = none
  b_list : mg "list" = none
  b_max : mg "max" = none
  b_min : mg "min" = none
  b_enumerate : mg "enumerate" = none
  b_tuple : mg "tuple" = none
  b_sorted : mg "sorted" = none
  g_LARGEST_PRIME : ∃ tk, mg "LARGEST_PRIME" = some (.int 9973 tk)
  i_int_int : W.kitOne K (.type "int") (.type "int") = some true
  i_int_bool : W.kitOne K (.type "int") (.type "bool") = some false
  i_list_list : W.kitOne K (.type "list") (.type "list") = some true
  i_tuple_tuple : W.kitOne K (.type "tuple") (.type "tuple") = some true
  m_NoOver : mg "NoOver" = some (.ref cNO)
  x_NoOver : ExcC K cNO
  m_Kind : mg "Kind" = some (.ref cK)
  m_Rests : mg "Rests" = some (.ref cR)
  cl_Rests : Cls K cR
  na_Rests_size : NoAttr K cR "size"
  f_Kind_init : ∃ f fd, Fun K "__init__" "Kind.__init__" s_Kind_init f fd /\ Binds K fd ["self", "size"] [] /\ ClsFn K cK "__init__" f
  f_Kind_plain : ∃ f fd, Fun K "plain" "Kind.plain" s_Kind_plain f fd /\ Binds K fd ["self", "number"] [] /\ Meth K cR "plain" f
  f_Kind_over : ∃ f fd, Fun K "over" "Kind.over" s_Kind_over f fd /\ Binds K fd ["self", "a", "b"] [] /\ Meth K cR "over" f
  f_Rests_init : ∃ f fd, Fun K "__init__" "Rests.__init__" s_Rests_init f fd /\ Binds K fd ["self", "prime"] [] /\ Mk K cR f
local macro_rules | `(tactic| walk_at "pn0") => `(tactic| first | omega | (dsimp only; omega) | (dsimp only [List.length_cons, List.length_nil]; omega) | (simp [L2.gI, L2.start] <;> omega))
local macro_rules | `(tactic| walk_at "pn1") => `(tactic| first | exact tT | rfl | assumption | decide | decide +kernel | exact L2.mul_okR (by decide) | exact L2.mul_okL (by decide) | exact ⟨by decide, by decide +kernel⟩ | exact ⟨by decide, by decide, by decide⟩ | walk_at "pn0" | exact L2.mul_okR ⟨by walk_at "pn0", by walk_at "pn0"⟩ | exact L2.mul_okL ⟨by walk_at "pn0", by walk_at "pn0"⟩)
local macro_rules | `(tactic| walk_at "pn") => `(tactic| first | (refine ⟨?_, ?_⟩ <;> walk_at "pn") | walk_at "pn1" | (intro _; walk_at "pn"))
local macro_rules | `(tactic| walk_at "xs1") => `(tactic| first | exact tT | exact (rfl : _ = some _) | exact (rfl : L3.isI _ _) | exact (rfl : L3.isL _ _) | exact (rfl : L3.isF _ _) | exact (rfl : L3.isK _ _) | exact (rfl : L3.isO _ _) | exact (Or.inl rfl : L3.isLO _ _) | exact (Or.inr (Or.inl rfl) : L3.isLO _ _) | exact (Or.inr (Or.inr rfl) : L3.isLO _ _) | walk_at "pn1")
local macro_rules | `(tactic| walk_at "xs") => `(tactic| first | (refine And.intro ?_ ?_ <;> walk_at "xs") | walk_at "xs1")
section
variable {P : Program} {w : World} {K : PySem.W.Frag} {mg : Str -> Option Value} {base : Heap} {cNO cK cR : Addr}
theorem ok_is_prime (T : Top K mg cNO cK cR) : Ok P w K mg base 1 "is_prime" ["number"] (spB 1 yes F_P) := by
  refine Def.ok T.d_is_prime sc_is_prime (fun vs H Q E h => ?_) (fun f cdv A outer s H vs Q E hr h => ?_)
  . obtain ⟨ns, hl, rfl, _⟩ := h
    rw [List.length_map, hl]; rfl
  obtain ⟨ns, hl, rfl, hp, k⟩ := h
  obtain ⟨n, rfl⟩ := len1 hl
  refine ⟨_, (pss_cons (ps_ifP (pw_orP (ptn_lt (pn_var 0) pn_int) (pw_or1P (ptn_gt (pn_var 0) (pn_glob (by rfl) T.g_LARGEST_PRIME)))).pt
 (pss_one (ps_ret pe_bl))
 pss_nil)
 (pss_cons (ps_setN (i := 1) sc_is_prime.nd rfl (Or.inl rfl) pn_int)
 (pss_cons (ps_whileP PassesOwn.never (ptn_le (pn_mul (pn_var 1) (pn_var 1)) (pn_var 0))
 (pss_cons (ps_ifP (ptn_eq (pn_mod (pn_var 0) (pn_var 1)) pn_int)
 (pss_one (ps_ret pe_bl))
 pss_nil)
 (pss_one (ps_augN (i := 1) sc_is_prime.nd rfl (Or.inl rfl) pn_int iop_addT))))
 (pss_one (ps_ret pe_bl))))), ?_⟩
  have k : Q (.bl (isP n)) H := k
  refine ⟨by walk_at "pn", fun h => ?_, fun h => ?_⟩
  . have h : n < 2 \/ 9973 < n := h
    rw [isP_false (fun q => by have := q.1; have := q.2.1; omega)] at k
    exact k
  have h : ¬ (n < 2 \/ 9973 < n) := h
  refine ⟨by walk_at "pn", fun d0 e0 => ?_⟩
  have e0 : d0 = 2 := e0
  subst e0
  refine ⟨fun σ H' => ∃ d, σ = [some (.int n), some (.int d)] /\ H' = H /\ 2 <= d /\ d <= 10000 /\ Clean n d, fun σ _ => (10001 - gI σ 1).toNat, ⟨2, rfl, rfl, by omega, by omega, fun e h1 h2 => by omega⟩, ?_⟩
  rintro σ H' ⟨d, rfl, rfl, h2, h3, cl⟩
  refine ⟨⟨⟨rfl, rfl, mul_okR ⟨?_, ?_⟩⟩, rfl⟩, fun c => ?_, fun c => ?_⟩
  . show -(2 : Int) ^ 64 < d
    omega
  . show d < (2 : Int) ^ 64
    omega
  . have c : d * d <= n := c
    have := sq_ge h2
    refine ⟨⟨⟨rfl, rfl, by show (0 : Int) < d; omega⟩, tT⟩, fun hit => ?_, fun hit => ?_⟩
    . have hit : n % d = 0 := hit
      rw [isP_false (fun q => q.2.2 d h2 c hit)] at k
      exact k
    . have hit : ¬ n % d = 0 := hit
      refine ⟨rfl, tT, tT, fun m e => ?_⟩
      have e : m = d + 1 := e
      subst e
      exact ⟨⟨d + 1, rfl, rfl, by omega, by omega, cl.next hit⟩, by show (10001 - (d + 1)).toNat < (10001 - d).toNat; omega⟩
  . have c : ¬ d * d <= n := c
    rw [isP_true (.out cl h2 (by omega) (by omega) c)] at k
    exact k
def spRefuse : Sp := fun vs H Q _ => ∃ n : Int, vs = [.int n] /\ IsP n /\ Q .non H
theorem ok_refuse_no_prime (T : Top K mg cNO cK cR) : Ok P w K mg base 2 "refuse_no_prime" ["number"] spRefuse := by
  refine Def.ok T.d_refuse_no_prime sc_refuse_no_prime (fun vs H Q E h => ?_) (fun f cdv A outer s H vs Q E hr h => ?_)
  . obtain ⟨c, rfl, _⟩ := h
    rfl
  obtain ⟨n, rfl, hn, k⟩ := h
  refine ⟨_, (pss_one (ps_ifP (pt_notP (pt_V (pv_call (ok_is_prime T) hr (pns_cons (pn_var 0) pns_nil))))
 (pss_one ps_never)
 pss_nil)), ?_⟩
  refine ⟨⟨⟨rfl, tT⟩, tT⟩, fun q => ?_, fun q => ?_⟩
  . have q : ¬ isP n = true := q
    exact (q (isP_true hn)).elim
  . exact k
def spKInit (K : PySem.W.Frag) : Sp := fun vs H Q _ => ∃ (p C dx : Addr) (z : Int), vs = [.ref p, .int z] /\ H p = some (.ins C dx []) /\ Cls K C /\ NoAttr K C "size" /\ Q .non (upd H p (.ins C dx [("size", .int z)]))
theorem oc_Kind_init (T : Top K mg cNO cK cR) : OkC P w K mg base CX0 1 "Kind" cK "__init__" ["self", "size"] (spKInit K) := by
  obtain ⟨f, fd, F, b, c⟩ := T.f_Kind_init
  refine ⟨f, fd, F.ok sc_Kind_init (fun vs H Q E h => ?_) (fun cdv A outer s H vs Q E hr h => ?_), b, c, T.m_Kind⟩
  . obtain ⟨p, C, dx, z, rfl, _⟩ := h
    rfl
  obtain ⟨p, C, dx, z, rfl, hp, cl, na, k⟩ := h
  refine ⟨_, (pss_one (ps_fld (pv 0) (pn_var 1) rfl)), ?_⟩
  exact ⟨rfl, _, rfl, p, C, dx, [], rfl, hp, cl, na, by decide, k⟩
theorem oi_Rests (T : Top K mg cNO cK cR) : OkI P w K mg base CX0 3 "Rests" cR ["self", "prime"] (spNewR cR) := by
  obtain ⟨f, fd, F, b, c⟩ := T.f_Rests_init
  refine ⟨f, fd, F.ok sc_Rests_init (fun vs H Q E h => ?_) (fun cdv A outer s H vs Q E hr h => ?_), b, c, T.m_Rests⟩
  . obtain ⟨x, dx, p, rfl, _⟩ := h
    rfl
  obtain ⟨x, dx, p, rfl, hp, hx, k⟩ := h
  refine ⟨_, (pss_cons (ps_expr (pe_callO (ok_refuse_no_prime T) hr (pa_cons (pn_var 1) pa_nil)))
 (pss_one (ps_expr (pe_clsO (oc_Kind_init T) hr pass0 (pa_cons (pv 0) (pa_cons (pn_var 1) pa_nil)))))), ?_⟩
  exact ⟨rfl, p, rfl, hp, _, rfl, rfl, x, cR, dx, p, rfl, hx, T.cl_Rests, T.na_Rests_size, k⟩
def F_plain : Int -> List Int -> Int := fun z ns => match ns with
  | [n] => pl z n
  | _ => 0
abbrev anyK : Int -> List Int -> Prop := fun _ _ => True
theorem km_plain (T : Top K mg cNO cK cR) : KM P w K mg base 1 (KR cR) "plain" 1 anyK F_plain := by
  refine ⟨fun H a z ka => ?_⟩
  obtain ⟨q0, dx, fs, e, hz, hm⟩ := ka
  refine ⟨cR, dx, fs, ["self", "number"], e, hm "plain" (by decide +kernel), ?_⟩
  obtain ⟨f, fd, F, b, m1⟩ := T.f_Kind_plain
  refine ⟨f, fd, F.ok sc_Kind_plain (fun vs H Q E h => ?_) (fun cdv A outer s H vs Q E hr h => ?_), b, m1, T.cl_Rests⟩
  . obtain ⟨ns, hl, rfl, _⟩ := h
    show (ns.map V.int).length + 1 = 2
    rw [List.length_map, hl]
  . obtain ⟨ns, hl, rfl, ⟨_, dx', fs', e', hz', _⟩, _, k⟩ := h
    obtain ⟨n, rfl⟩ := len1 hl
    have k : Q (.int (pl z n)) H := k
    rw [pl_pos q0] at k
    refine ⟨_, (pss_one (ps_ret (pe_op op_mod (pn_var 1) (pe_fld (pv 0) rfl)))), ?_⟩
    exact ⟨rfl, _, rfl, a, cR, dx', fs', _, rfl, e', T.cl_Rests, T.na_Rests_size, hz', _, _, rfl, rfl, q0, k⟩
theorem ksz (T : Top K mg cNO cK cR) : KSz K (GkR cR) := by
  refine ⟨fun H a z h => ?_⟩
  obtain ⟨_, _, dx, fs, e, hz, _⟩ := h
  exact ⟨cR, dx, fs, e, T.cl_Rests, T.na_Rests_size, hz⟩
def preCell : List Int -> List Int -> Prop := fun _ is => match is with
  | [k] => 0 <= k
  | _ => False
def F_cell : List Int -> List Int -> Int := fun xs is => match is with
  | [k] => xs.getD k.toNat 0
  | _ => 0
theorem ok_cell_at (T : Top K mg cNO cK cR) : Ok P w K mg base 1 "_law_cell_at" ["_law_script", "_law_k"] (spS K 1 preCell F_cell) := by
  refine Def.ok T.d_cell_at sc_cell_at (fun vs H Q E h => ?_) (fun f cdv A outer s H vs Q E hr h => ?_)
  . obtain ⟨a, xs, is, hl, rfl, _⟩ := h
    show (is.map V.int).length + 1 = 2
    rw [List.length_map, hl]
  obtain ⟨sa, ns, is, hl, rfl, hS, hp, k⟩ := h
  obtain ⟨i, rfl⟩ := len1 hl
  have hp : 0 <= i := hp
  have k : Q (.int (ns.getD i.toNat 0)) H := k
  refine ⟨_, (pss_cons (ps_ifP (ptn_lt (pn_var 1) (pn_len 0 sa (ns.map V.int) T.b_len))
 (pss_one (ps_ret (pn_item 0 sa ns (pn_var 1) (fun _ _ => rfl))))
 pss_nil)
 (pss_one (ps_ret pn_int))), ?_⟩
  have el : (ns.map V.int).length = ns.length := List.length_map _
  refine ⟨⟨rfl, ⟨rfl, hS⟩⟩, fun q => ?_, fun q => ?_⟩
  . have q : i < ((ns.map V.int).length : Int) := q
    refine ⟨⟨rfl, rfl, hS, ?_, ?_⟩, ?_⟩
    . show -(ns.length : Int) <= i
      omega
    . show i < (ns.length : Int)
      omega
    . show Q (.int (ns.getD (if 0 <= i then i else i + ns.length).toNat 0)) H
      rw [if_pos hp]
      exact k
  . have q : ¬ i < ((ns.map V.int).length : Int) := q
    have e : ns.getD i.toNat 0 = 0 := by
      rw [gQ, List.getElem?_eq_none (by omega)]; rfl
    rw [e] at k
    exact ⟨tT, k⟩
theorem kx_cell_at (T : Top K mg cNO cK cR) : Ok P w K mg base 1 "_law_cell_at" ["_law_script", "_law_k"] (spFI K (GkR cR) (L3.preS 1 preCell) fun as => F_cell (scrI as) (allI as.tail)) := liftS (ok_cell_at T)
theorem kx_whole (T : Top K mg cNO cK cR) : Ok P w K mg base 1 "_law_whole" ["_law_found"] (spFB K (GkR cR) (fun as => ∃ n, as = [.int n]) fun _ => true) := by
  refine okF T.d_whole sc_whole (fun as ⟨c, h⟩ => by rw [h]; rfl) (fun f cdv A outer s H E hr => ⟨_, (xss_one (xst_ret (xe_and (xe_isinst T.b_isinstance (xv 0) (xv_bltn (by rfl) T.b_int bt_int)) (pe_one (xe_not (xe_isinst T.b_isinstance (xv 0) (xv_bltn (by rfl) T.b_bool bt_bool))))))), fun as hp => ?_⟩)
  obtain ⟨n, rfl⟩ := hp
  have h1 : instP K (.int n) (.ty "int") = true := instP_of rfl rfl T.i_int_int
  have h2 : instP K (.int n) (.ty "bool") = false := instP_of rfl rfl T.i_int_bool
  refine ⟨⟨⟨rfl, tT, _, _, _, rfl, rfl, T.i_int_int⟩, fun _ => ⟨rfl, tT, _, _, _, rfl, rfl, T.i_int_bool⟩⟩, ?_⟩
  show PV.bl (decide (instP K (.int n) (.ty "int") = true /\ ¬ instP K (.int n) (.ty "bool") = true)) = PV.bl true
  rw [h1, h2]
  rfl
theorem trimZ_step {ns : List Int} (h : ns ≠ []) (h0 : ns.getD (ns.length - 1) 0 = 0) : trimZ ns.dropLast = trimZ ns := by
  have e : ns = ns.dropLast ++ [0] := by
    have e1 := List.dropLast_concat_getLast h
    have e2 : ns.getLast h = 0 := by
      rw [List.getLast_eq_getElem]
      rw [gQ, List.getElem?_eq_getElem (by have := lP h; omega)] at h0
      exact h0
    rw [e2] at e1
    exact e1.symm
  rw [e, trimZ_zero, List.dropLast_concat]
theorem trimZ_done {ns : List Int} (h : ¬ (ns ≠ [] /\ ns.getD (ns.length - 1) 0 = 0)) : trimZ ns = ns := by
  by_cases c : ns = []
  . rw [c]; rfl
  . have h0 : ¬ ns.getD (ns.length - 1) 0 = 0 := fun z => h ⟨c, z⟩
    have e1 := List.dropLast_concat_getLast c
    have e2 : ns.getLast c ≠ 0 := by
      rw [List.getLast_eq_getElem]
      rw [gQ, List.getElem?_eq_getElem (by have := lP c; omega)] at h0
      exact h0
    rw [<- e1, trimZ_ne _ e2]
theorem last_at (ns : List Int) (h : ns ≠ []) : ixO ns.length (-1) = ns.length - 1 := by
  have := lP h
  unfold ixO
  rw [if_neg (by omega)]
  omega
theorem kx_cut_noughts (T : Top K mg cNO cK cR) : Ok P w K mg base 1 "cut_noughts" ["numbers"] (spM (fun _ => True) trimZ) := by
  refine Def.ok T.d_cut_noughts sc_cut_noughts (fun vs H Q E h => ?_) (fun f cdv A outer s H vs Q E hr h => ?_)
  . obtain ⟨a, ns, rfl, _⟩ := h
    rfl
  obtain ⟨a, ns, rfl, hH, _, q⟩ := h
  refine ⟨_, (pss_one (ps_while PassesOwn.never (pw_and (pt_truth (pv 0) (fun _ => rfl)) (pw_and1 (pt_cmpR op_eq (pe_item 0 (pn_neg pn_int) (fun _ _ => rfl)) pn_int (nomark _)))).pt
 (pss_one (ps_expr (pe_bm0 PySem.F.plainAttrs_list PySem.F.slot_list_pop PySem.F.type_list_pop mt_pop (pv 0)))))), ?_⟩
  refine ⟨fun m σ H' => σ = [some (.ref a)] /\ ∃ ms, m = ms.length /\ H' = upd H a (.lst (ms.map V.int)) /\ trimZ ms = trimZ ns, ⟨ns.length, rfl, ns, rfl, ?_, rfl⟩, ?_⟩
  . funext b
    by_cases c : b = a
    . rw [c, upd_same, hH]
    . rw [upd_ne c]
  rintro m σ H' ⟨rfl, ms, rfl, rfl, hm⟩
  refine ⟨_, rfl, _, .inl ⟨_, SqL.of upd_same, rfl⟩, ?_⟩
  by_cases c : ms = []
  . subst c
    refine iteF ?_
    refine iteF ?_
    refine q _ (fun b o hb e => ?_) ?_
    . rw [upd_ne hb]; exact e
    . rw [upd_same, <- hm]; rfl
  . have hlen := lP c
    have e1 : (!(ms.map V.int).isEmpty) = true := by cases ms <;> simp at c ⊢
    rw [e1]
    refine iteT ?_
    refine ⟨tT, a, ms, ms.getD (ms.length - 1) 0, rfl, SqL.of upd_same, ?_, ?_⟩
    . have z := getD_at (ns := ms) (i := -1) (by omega) (by omega)
      show atI (ms.map V.int) (-1) = _
      rw [z, if_neg (by omega)]
      have : (-1 + (ms.length : Int)).toNat = ms.length - 1 := by omega
      rw [this]
    refine ⟨tT, rfl, _, rfl, ?_⟩
    by_cases d : ms.getD (ms.length - 1) 0 = 0
    . have e2 : decide (V.int (ms.getD (ms.length - 1) 0) = V.int 0) = true := decide_eq_true (by rw [d])
      rw [e2]
      refine iteT ?_
      refine ⟨fun σ H' => σ = [some (.ref a)] /\ H' = upd H a (.lst (ms.dropLast.map V.int)), ?_, ?_⟩
      . rintro σ' H' ⟨rfl, rfl⟩
        refine ⟨ms.dropLast.length, by rw [List.length_dropLast]; omega, rfl, _, rfl, rfl, ?_⟩
        rw [<- hm]; exact trimZ_step c d
      . refine ⟨_, rfl, .inl ⟨rfl, _, SqL.of upd_same⟩, a, _, V.int (ms[ms.length - 1]'(by omega)), rfl, rfl, upd_same, ?_, rfl, ?_⟩
        . rw [List.length_map, List.getElem?_map, List.getElem?_eq_getElem (by omega)]
          rfl
        . rw [upd_upd, List.map_dropLast]
    . have e2 : decide (V.int (ms.getD (ms.length - 1) 0) = V.int 0) = false := decide_eq_false (by intro z; exact d (by injection z))
      rw [e2]
      refine iteF ?_
      refine q _ (fun b o hb e => ?_) ?_
      . rw [upd_ne hb]; exact e
      . rw [upd_same, <- hm, trimZ_done fun z => d z.2]
theorem kx_trimmed (T : Top K mg cNO cK cR) : Ok P w K mg base 2 "trimmed" ["kind", "f"] (spL K (GkR cR) (fun as => ∃ z f, as = [.ob 0 z, .ints f] /\ f.length <= 1000) fun as => match as with
    | [.ob 0 z, .ints f] => trimZ (f.map (pl z))
    | _ => []) := by
  refine okL T.d_trimmed sc_trimmed (fun as ⟨a, b, h, _⟩ => by rw [h]; rfl) (fun f cdv A outer s H E hr => ⟨_, (xss_cons (xst_lcL (i := 2) sc_trimmed.nd rfl rfl (N' := ["number", "kind"]) (cap := [some 0]) (lc_ok rfl rfl rfl rfl ⟨⟨rfl, Or.inr (Or.inl rfl), (fun z => nomatch (show (some NameKind.cell : Option NameKind) = some NameKind.local from z)), Or.inl rfl, _, rfl, rfl⟩, tT⟩ ⟨rfl, tT⟩ rfl) rfl (xl 1) (fun _ _ _ => (pg_name (i := 0) (show (["number", "kind"] : List Str).Nodup by decide +kernel) rfl (Or.inl rfl) (.inr rfl))) (fun _ _ _ => (xn_kmeth 1 (km_plain T) hr (xa_cons (xn 0) xa_nil))) rfl)
 (xss_cons (xst_mut 2 (kx_cut_noughts T) hr)
 (xss_one (xst_retO 2)))), fun as hp => ?_⟩)
  obtain ⟨z, f, rfl, hf⟩ := hp
  refine ⟨⟨rfl, hf, fun n _ => ⟨rfl, ⟨rfl, tT⟩, tT, tT⟩⟩, fun ns e => ?_⟩
  have e : ns = f.map (pl z) := e
  refine ⟨rfl, tT, rfl, ?_⟩
  show trimZ ns = trimZ (f.map (pl z))
  rw [e]
def addL (f g : List Int) : List Int := (List.range (max f.length g.length)).map fun n => f.getD n 0 + g.getD n 0
theorem addL_get (f g : List Int) (n : Nat) : (addL f g).getD n 0 = f.getD n 0 + g.getD n 0 := by
  unfold addL
  by_cases h : n < max f.length g.length
  . rw [getD_lt (by rw [List.length_map, List.length_range]; exact h), List.getElem_map, List.getElem_range]
  . rw [getD_ge (by rw [List.length_map, List.length_range]; omega), getD_ge (by omega), getD_ge (by omega)]
    rfl
theorem app_zero (f : List Int) (k n : Nat) : (f ++ List.replicate k 0).getD n 0 = f.getD n 0 := by
  by_cases h : n < f.length
  . rw [getD_lt (by rw [List.length_append]; omega), List.getElem_append_left h, getD_lt h]
  . rw [getD_ge (xs := f) (by omega)]
    by_cases h2 : n < f.length + k
    . rw [getD_lt (by rw [List.length_append, List.length_replicate]; exact h2), List.getElem_append_right (by omega), List.getElem_replicate]
    . rw [getD_ge (by rw [List.length_append, List.length_replicate]; omega)]
def SumAt (f g : List Int) (i : Nat) (row : List Int) : Prop := row.length = f.length + (g.length - f.length) /\ ∀ n, row.getD n 0 = f.getD n 0 + if n < i then g.getD n 0 else 0
theorem sum_step {f g row : List Int} {i : Nat} (h : SumAt f g i row) (hi : i < g.length) : SumAt f g (i + 1) (row.set i (row.getD i 0 + g.getD i 0)) := by
  obtain ⟨hl, hr⟩ := h
  refine ⟨by rw [List.length_set]; exact hl, fun n => ?_⟩
  rw [set_get _ _ _ _ (by omega)]
  by_cases c : n = i
  . subst c
    rw [if_pos rfl, hr, if_neg (by omega), if_pos (by omega)]
    omega
  . rw [if_neg c, hr]
    by_cases d : n < i
    . rw [if_pos d, if_pos (by omega)]
    . rw [if_neg d, if_neg (by omega)]
theorem sum_end {z : Int} {f g row : List Int} (h : SumAt f g g.length row) : Tz z row = Tz z (addL f g) := by
  refine trim_pl fun n => ?_
  rw [h.2, addL_get]
  by_cases d : n < g.length
  . rw [if_pos d]
  . rw [if_neg d, getD_ge (xs := g) (by omega)]
theorem kx_plus (T : Top K mg cNO cK cR) : Ok P w K mg base 3 "plus" ["kind", "f", "g"] (spL K (GkR cR) (fun as => ∃ z f g, as = [.ob 0 z, .ints f, .ints g] /\ f.length <= 500 /\ g.length <= 500) fun as => match as with
    | [.ob 0 z, .ints f, .ints g] => Tz z (addL f g)
    | _ => []) := by
  refine okL T.d_plus sc_plus (fun as ⟨a, b, c, h, _⟩ => by rw [h]; rfl) (fun f cdv A outer s H E hr => ⟨_, (xss_cons (xst_own (i := 3) sc_plus.nd rfl (Or.inl rfl) (xl_cat (newL (xl_list T.b_list (xl 1) (fun _ => .inl rfl))) (newL (xl_rep (xl_lst (xa_cons xn_int xa_nil)) (xn_sub (xn_len 2 T.b_len) (xn_len 1 T.b_len)) (fun _ => rfl)))))
 (xss_cons (xst_forE (k := 4) (j := 5) PassesOwn.never rfl (by rfl) T.b_enumerate (xl 2) (pg_tup rfl (pgs_cons (pg_name (i := 4) sc_plus.nd rfl (Or.inl rfl)) (pgs_cons (pg_name (i := 5) sc_plus.nd rfl (Or.inl rfl)) pgs_nil)))
 (xss_one (xst_augit 3 (xn 4) (xn 5) iop_addT)))
 (xss_freeze 3 (xss_one (xst_retl (xcl (kx_trimmed T) hr (xa_cons (xv 0) (xa_cons (xl 3) xa_nil)))))))), fun as hp => ?_⟩)
  obtain ⟨z, f, g, rfl, hf, hg⟩ := hp
  have en : ((g.length : Int) - (f.length : Int)).toNat = g.length - f.length := by omega
  refine ⟨⟨rfl, ⟨⟨⟨tT, tT⟩, tT⟩, ⟨.inl rfl, .inl rfl⟩, ?_, ?_⟩, ?_⟩, fun r0 er0 => ?_⟩
  . show -(2 : Int) ^ 63 <= (g.length : Int) - (f.length : Int)
    omega
  . show ((g.length : Int) - (f.length : Int)).toNat <= 1000
    omega
  . refine Nat.le_of_lt (small1000 ?_)
    show f.length + (List.replicate ((g.length : Int) - (f.length : Int)).toNat (0 : Int)).length <= 1000
    rw [List.length_replicate]
    omega
  have er0 : r0 = f ++ List.replicate (g.length - f.length) 0 := by rw [<- en]; exact er0
  refine ⟨rfl, fun i Z => ∃ row v1 v2, Z = [.fr (.ob 0 z), .fr (.ints f), .fr (.ints g), .ow (.ints row), v1, v2] /\ SumAt f g i row, ⟨r0, .un, .un, rfl, ?_⟩, ?_, ?_⟩
  . rw [er0]
    refine ⟨by rw [List.length_append, List.length_replicate], fun n => ?_⟩
    rw [app_zero, if_neg (by omega), Int.add_zero]
  . rintro i n Z hn ⟨row, v1, v2, rfl, hr⟩
    have hn : g[i]? = some n := hn
    have hi := at_lt hn
    have l1 : -(row.length : Int) <= (i : Int) := by omega
    have l2 : (i : Int) < (row.length : Int) := by have := hr.1; omega
    have ix : ixO row.length (i : Int) = i := by unfold ixO; rw [if_pos (by omega)]; omega
    refine ⟨rfl, rfl, ⟨l1, l2⟩, rfl, tT, row.set i (row.getD i 0 + n), .fr (.int i), .fr (.int n), ?_, ?_⟩
    . show [Sl.fr (.ob 0 z), .fr (.ints f), .fr (.ints g), .ow (.ints (row.set (ixO row.length (i : Int)) (row.getD (ixO row.length (i : Int)) 0 + n))), .fr (.int i), .fr (.int n)] = _
      rw [ix]
    . have q := sum_step hr hi
      rw [getD_at' hn] at q
      exact q
  . rintro Z ⟨row, v1, v2, rfl, hr⟩
    have hr : SumAt f g g.length row := hr
    refine ⟨⟨⟨rfl, rfl, tT⟩, z, row, rfl, ?_⟩, ?_⟩
    . rw [hr.1]; omega
    . show Tz z row = Tz z (addL f g)
      exact sum_end hr
theorem kx_less (T : Top K mg cNO cK cR) : Ok P w K mg base 4 "less" ["kind", "f", "g"] (spL K (GkR cR) (fun as => ∃ z f g, as = [.ob 0 z, .ints f, .ints g] /\ f.length <= 500 /\ g.length <= 500) fun as => match as with
    | [.ob 0 z, .ints f, .ints g] => Tz z (addL f (g.map fun n => -n))
    | _ => []) := by
  refine okL T.d_less sc_less (fun as ⟨a, b, c, h, _⟩ => by rw [h]; rfl) (fun f cdv A outer s H E hr => ⟨_, (xss_one (xst_retl (xcl (kx_plus T) hr (xa_cons (xv 0) (xa_cons (xl 1) (xa_cons (newL (xl_lcL (N' := ["number"]) (cap := []) (lc_ok rfl rfl rfl rfl tT tT rfl) rfl (xl 2) (fun _ _ _ => (pg_name (i := 0) (show (["number"] : List Str).Nodup by decide +kernel) rfl (Or.inl rfl) (.inr rfl))) (fun _ _ _ => (xn_neg (xn 0))))) xa_nil)))))), fun as hp => ?_⟩)
  obtain ⟨z, f, g, rfl, hf, hg⟩ := hp
  refine ⟨⟨⟨rfl, rfl, ⟨rfl, by show g.length <= 1000; omega, fun n _ => rfl⟩, tT⟩, z, f, _, rfl, hf, ?_⟩, rfl⟩
  show (g.map fun n => -n).length <= 500
  rw [List.length_map]
  exact hg
theorem kx_scaled (T : Top K mg cNO cK cR) : Ok P w K mg base 3 "scaled" ["kind", "f", "number"] (spL K (GkR cR) (fun as => ∃ z f n, as = [.ob 0 z, .ints f, .int n] /\ f.length <= 1000 /\ n.natAbs < 2 ^ 9000 /\ ∀ m ∈ f, m.natAbs < 2 ^ 9000) fun as => match as with
    | [.ob 0 z, .ints f, .int n] => Tz z (f.map fun m => n * m)
    | _ => []) := by
  refine okL T.d_scaled sc_scaled (fun as ⟨a, b, c, h, _⟩ => by rw [h]; rfl) (fun f cdv A outer s H E hr => ⟨_, (xss_one (xst_retl (xcl (kx_trimmed T) hr (xa_cons (xv 0) (xa_cons (newL (xl_lcL (N' := ["one", "number"]) (cap := [some 2]) (lc_ok rfl rfl rfl rfl ⟨⟨rfl, Or.inr (Or.inl rfl), (fun z => nomatch (show (some NameKind.cell : Option NameKind) = some NameKind.local from z)), Or.inl rfl, _, rfl, rfl⟩, tT⟩ ⟨rfl, tT⟩ rfl) rfl (xl 1) (fun _ _ _ => (pg_name (i := 0) (show (["one", "number"] : List Str).Nodup by decide +kernel) rfl (Or.inl rfl) (.inr rfl))) (fun _ _ _ => (xn_mul (xn 1) (xn 0))))) xa_nil))))), fun as hp => ?_⟩)
  obtain ⟨z, f, n, rfl, hf, hn, hm⟩ := hp
  refine ⟨⟨⟨rfl, ⟨rfl, hf, fun m hm' => ⟨rfl, rfl, mul_ok (n := 9000) (m := 9000) hn (hm m hm')⟩⟩, tT⟩, z, _, rfl, ?_⟩, rfl⟩
  show (f.map fun m => n * m).length <= 1000
  rw [List.length_map]
  exact hf
theorem Tz_b {z : Int} {f : List Int} (hz : 0 <= z) (hz2 : z < ((2 ^ 9000 : Nat) : Int)) (hf : ∀ m ∈ f, m.natAbs < 2 ^ 9000) : ∀ m ∈ Tz z f, m.natAbs < 2 ^ 9000 := fun m hm => by
  obtain ⟨k, hk, rfl⟩ := Tz_mem hm
  exact pl_small hz hz2 (hf k hk)
theorem kx_times (T : Top K mg cNO cK cR) : Ok P w K mg base 3 "times" ["kind", "f", "g"] (spL K (GkR cR) (fun as => ∃ z f g, as = [.ob 0 z, .ints f, .ints g] /\ 0 <= z /\ z < ((2 ^ 9000 : Nat) : Int) /\ f.length + g.length <= 1000 /\ (∀ m ∈ f, m.natAbs < 2 ^ 9000) /\ (∀ m ∈ g, m.natAbs < 2 ^ 9000)) fun as => match as with
    | [.ob 0 z, .ints f, .ints g] => Tz z (convL (Tz z f) (Tz z g))
    | _ => []) := by
  refine okL T.d_times sc_times (fun as ⟨a, b, c, h, _⟩ => by rw [h]; rfl) (fun f cdv A outer s H E hr => ⟨_, (xss_cons (xst_setL (i := 3) sc_times.nd rfl (Or.inl rfl) (newL (xcl (kx_trimmed T) hr (xa_cons (xv 0) (xa_cons (xl 1) xa_nil)))))
 (xss_cons (xst_setL (i := 4) sc_times.nd rfl (Or.inl rfl) (newL (xcl (kx_trimmed T) hr (xa_cons (xv 0) (xa_cons (xl 2) xa_nil)))))
 (xss_cons (xst_own (i := 5) sc_times.nd rfl (Or.inl rfl) (xl_rep (xl_lst (xa_cons xn_int xa_nil)) (xn_add (xn_len 3 T.b_len) (xn_len 4 T.b_len)) (fun _ => rfl)))
 (xss_cons (xst_forE (k := 6) (j := 7) PassesOwn.never rfl (by rfl) T.b_enumerate (xl 3) (pg_tup rfl (pgs_cons (pg_name (i := 6) sc_times.nd rfl (Or.inl rfl)) (pgs_cons (pg_name (i := 7) sc_times.nd rfl (Or.inl rfl)) pgs_nil)))
 (xss_one (xst_forE (k := 8) (j := 9) PassesOwn.never rfl (by rfl) T.b_enumerate (xl 4) (pg_tup rfl (pgs_cons (pg_name (i := 8) sc_times.nd rfl (Or.inl rfl)) (pgs_cons (pg_name (i := 9) sc_times.nd rfl (Or.inl rfl)) pgs_nil)))
 (xss_one (xst_augit 5 (xn_add (xn 6) (xn 8)) (xn_mul (xn 7) (xn 9)) iop_addT)))))
 (xss_freeze 5 (xss_one (xst_retl (xcl (kx_trimmed T) hr (xa_cons (xv 0) (xa_cons (xl 5) xa_nil)))))))))), fun as hp => ?_⟩)
  obtain ⟨z, f, g, rfl, hz, hz2, hl, hf, hg⟩ := hp
  refine ⟨⟨⟨rfl, rfl, tT⟩, z, f, rfl, by omega⟩, fun fo efo => ?_⟩
  have efo : fo = Tz z f := efo
  refine ⟨⟨⟨rfl, rfl, tT⟩, z, g, rfl, by omega⟩, fun go ego => ?_⟩
  have ego : go = Tz z g := ego
  have lf : fo.length <= f.length := by rw [efo]; exact Tz_len _ _
  have lg : go.length <= g.length := by rw [ego]; exact Tz_len _ _
  have bf : ∀ m ∈ fo, m.natAbs < 2 ^ 9000 := by rw [efo]; exact Tz_b hz hz2 hf
  have bg : ∀ m ∈ go, m.natAbs < 2 ^ 9000 := by rw [ego]; exact Tz_b hz hz2 hg
  have en : ((fo.length : Int) + (go.length : Int)).toNat = fo.length + go.length := by omega
  refine ⟨⟨⟨⟨tT, tT⟩, tT⟩, ⟨.inl rfl, .inl rfl⟩, ?_, ?_⟩, fun r0 er0 => ?_⟩
  . show -(2 : Int) ^ 63 <= (fo.length : Int) + (go.length : Int)
    omega
  . show ((fo.length : Int) + (go.length : Int)).toNat <= 1000
    omega
  have er0 : r0 = List.replicate (fo.length + go.length) 0 := by rw [<- en]; exact er0
  refine ⟨rfl, fun i Z => ∃ row v1 v2 v3 v4, Z = [.fr (.ob 0 z), .fr (.ints f), .fr (.ints g), .fr (.ints fo), .fr (.ints go), .ow (.ints row), v1, v2, v3, v4] /\ RowAt fo go i 0 row, ⟨r0, .un, .un, .un, .un, rfl, by rw [er0]; exact row_start fo go⟩, ?_, ?_⟩
  . rintro i n Z hn ⟨row, v1, v2, v3, v4, rfl, hr⟩
    have hn : fo[i]? = some n := hn
    have hi := at_lt hn
    refine ⟨rfl, fun j Z => ∃ row v3 v4, Z = [.fr (.ob 0 z), .fr (.ints f), .fr (.ints g), .fr (.ints fo), .fr (.ints go), .ow (.ints row), .fr (.int i), .fr (.int n), v3, v4] /\ RowAt fo go i j row, ⟨row, v3, v4, rfl, hr⟩, ?_, ?_⟩
    . rintro j m Z hm ⟨row, v3, v4, rfl, hr⟩
      have hm : go[j]? = some m := hm
      have hj := at_lt hm
      have l1 : -(row.length : Int) <= (i : Int) + (j : Int) := by omega
      have l2 : (i : Int) + (j : Int) < (row.length : Int) := by have := hr.1; omega
      have ix : ixO row.length ((i : Int) + (j : Int)) = i + j := by unfold ixO; rw [if_pos (by omega)]; omega
      refine ⟨rfl, ⟨rfl, rfl⟩, ⟨l1, l2⟩, ⟨rfl, rfl, ?_⟩, tT, row.set (i + j) (row.getD (i + j) 0 + n * m), .fr (.int j), .fr (.int m), ?_, ?_⟩
      . exact mul_ok (n := 9000) (m := 9000) (bf n (at_mem hn)) (bg m (at_mem hm))
      . rw [<- ix]; rfl
      . have q := row_step hr hi hj
        rw [getD_at' hn, getD_at' hm] at q
        exact q
    . rintro Z ⟨row, v3, v4, rfl, hr⟩
      exact ⟨row, _, _, v3, v4, rfl, row_next hr⟩
  . rintro Z ⟨row, v1, v2, v3, v4, rfl, hr⟩
    have er := row_end hr
    refine ⟨⟨⟨rfl, rfl, tT⟩, z, row, rfl, ?_⟩, ?_⟩
    . rw [hr.1]; omega
    . show trimZ (row.map (pl z)) = _
      rw [er, efo, ego]
      rfl
open Classical in
def tu (n z : Int) : Int := if h : ∃ x : Int, 0 <= x /\ x < z /\ x * n % z = 1 then Classical.choose h else 0
theorem tu_one {n z x : Int} (hz : 2 <= z) (h0 : 0 <= x) (h1 : x < z) (h2 : x * n % z = 1) : tu n z = x := by
  have ex : ∃ x : Int, 0 <= x /\ x < z /\ x * n % z = 1 := ⟨x, h0, h1, h2⟩
  have e : tu n z = Classical.choose ex := by unfold tu; rw [dif_pos ex]
  obtain ⟨y0, y1, y2⟩ := Classical.choose_spec ex
  rw [e]
  generalize Classical.choose ex = y at y0 y1 y2
  have a1 : (y * (x * n)) % z = y := by
    rw [Int.mul_emod, h2, Int.mul_one, Int.emod_emod, Int.emod_eq_of_lt y0 y1]
  have a2 : (x * (y * n)) % z = x := by
    rw [Int.mul_emod, y2, Int.mul_one, Int.emod_emod, Int.emod_eq_of_lt h0 h1]
  exact (a1.symm.trans (by rw [Int.mul_left_comm y x n])).trans a2
theorem tu_spec {n z : Int} (hz : 2 <= z) (h : ∃ x : Int, 0 <= x /\ x < z /\ x * n % z = 1) : 0 <= tu n z /\ tu n z < z /\ tu n z * n % z = 1 := by
  obtain ⟨x, h0, h1, h2⟩ := h
  rw [tu_one hz h0 h1 h2]
  exact ⟨h0, h1, h2⟩
theorem tu_ex {n z : Int} (hz : 2 <= z) (h : Int.gcd n z = 1) : ∃ x : Int, 0 <= x /\ x < z /\ x * n % z = 1 := by
  have run : ∀ (m : Nat) (b r sb s : Int), r.toNat <= m -> Eu n z b r sb s -> ∃ x : Int, 0 <= x /\ x < z /\ x * n % z = 1 := by
    intro m
    induction m with
    | zero =>
      intro b r sb s hm I
      have := I.r0
      have e : r = 0 := by omega
      subst e
      have gc := I.end
      exact ⟨sb % z, Int.emod_nonneg _ (by omega), Int.emod_lt_of_pos _ (by omega), I.one hz (by omega)⟩
    | succ m ih =>
      intro b r sb s hm I
      by_cases c : r = 0
      . subst c
        have gc := I.end
        exact ⟨sb % z, Int.emod_nonneg _ (by omega), Int.emod_lt_of_pos _ (by omega), I.one hz (by omega)⟩
      . have I2 := I.step c
        have := I2.rb
        have := I2.r0
        have := I.r0
        exact ih _ _ _ _ (by omega) I2
  exact run _ _ _ _ _ (Nat.le_refl _) (Eu.start hz)
def F_tu (C : Addr) : List PV -> Rs := fun as => match as with
  | [.int n, .int z] => if Int.gcd n z = 1 then .val (.int (tu n z)) else .err C
  | _ => .err C
theorem small9 {x z : Int} (h : (x.natAbs : Int) <= z) (hz : z.natAbs < 2 ^ 9000) : x.natAbs < 2 ^ 9000 := by
  generalize 2 ^ 9000 = B at *
  omega
theorem kx_turned (T : Top K mg cNO cK cR) : OkE P w K mg base 1 "turned" ["number", "size"] (spE K (GkR cR) (fun as => ∃ n z, as = [.int n, .int z] /\ 2 <= z /\ z.natAbs < 2 ^ 9000) (F_tu cNO)) := by
  refine okE T.d_turned sc_turned (fun as ⟨n, z, h, _⟩ => by rw [h]; rfl) (fun f cdv A outer s H E hr => ⟨_, (xss_cons (xst_setI (i := 2) sc_turned.nd rfl (Or.inl rfl) (xn 1))
 (xss_cons (xst_setI (i := 3) sc_turned.nd rfl (Or.inl rfl) (xn_mod (xn 0) (xn 1)))
 (xss_cons (xst_setI (i := 4) sc_turned.nd rfl (Or.inl rfl) xn_int)
 (xss_cons (xst_setI (i := 5) sc_turned.nd rfl (Or.inl rfl) xn_int)
 (xss_cons (xst_while PassesOwn.leaving (xt_ne (xn 3) xn_int)
 (xss_cons (xst_setI (i := 6) sc_turned.nd rfl (Or.inl rfl) (xn_div (xn 2) (xn 3)))
 (xss_cons (xst_setI (i := 7) sc_turned.nd rfl (Or.inl rfl) (xn_sub (xn 2) (xn_mul (xn 6) (xn 3))))
 (xss_cons (xst_setI (i := 8) sc_turned.nd rfl (Or.inl rfl) (xn_sub (xn 4) (xn_mul (xn 6) (xn 5))))
 (xss_cons (xst_setI (i := 2) sc_turned.nd rfl (Or.inl rfl) (xn 3))
 (xss_cons (xst_setI (i := 3) sc_turned.nd rfl (Or.inl rfl) (xn 7))
 (xss_cons (xst_setI (i := 4) sc_turned.nd rfl (Or.inl rfl) (xn 5))
 (xss_one (xst_setI (i := 5) sc_turned.nd rfl (Or.inl rfl) (xn 8))))))))))
 (xss_cons (xst_if (xt_ne (xn 2) xn_int)
 (xss_one (xst_raise newE rfl T.x_NoOver (by rfl) T.m_NoOver (xa_cons xs_str xa_nil)))
 xss_nil)
 (xss_one (xst_ret (xn_mod (xn 4) (xn 1)))))))))), fun as hp => ?_⟩)
  obtain ⟨n, z, rfl, hz, hz9⟩ := hp
  refine ⟨rfl, fun b0 e0 => ?_⟩
  have e0 : b0 = z := e0
  subst e0
  refine ⟨⟨rfl, rfl, by show 0 < b0; omega⟩, fun r0 er => ?_⟩
  have er : r0 = n % b0 := er
  refine ⟨tT, fun z0 ez => ?_⟩
  have ez : z0 = 0 := ez
  subst ez
  refine ⟨tT, fun o0 eo => ?_⟩
  have eo : o0 = 1 := eo
  subst eo
  refine ⟨fun Z => ∃ b r sb s o rb sbh, Z = [.fr (.int n), .fr (.int b0), .fr (.int b), .fr (.int r), .fr (.int sb), .fr (.int s), o, rb, sbh] /\ Eu n b0 b r sb s, fun Z => (getI Z 3).toNat, ⟨b0, r0, 0, 1, .un, .un, .un, rfl, by rw [er]; exact Eu.start hz⟩, ?_⟩
  rintro Z ⟨b, r, sb, s, o, rb, sbh, rfl, I⟩
  have sm := I.id
  have sbz := I.bz
  have rlt := I.rb
  have rnn := I.r0
  have s9 : s.natAbs < 2 ^ 9000 := small9 (z := b0) (by
    have h1 : (s.natAbs : Int) * 1 <= (s.natAbs : Int) * b := Int.mul_le_mul_of_nonneg_left (by omega) (by omega)
    have h2 : 0 <= (sb.natAbs : Int) * r := Int.mul_nonneg (by omega) rnn
    omega) hz9
  have r9 : r.natAbs < 2 ^ 9000 := small9 (z := b0) (by omega) hz9
  refine ⟨⟨rfl, tT⟩, fun c => ?_, fun c => ?_⟩
  . have c : ¬ r = 0 := c
    have q0 : 0 <= b / r := Int.ediv_nonneg (by omega) (by omega)
    have q1 : b / r <= b := Int.ediv_le_self _ (by omega)
    have q9 : (b / r).natAbs < 2 ^ 9000 := small9 (z := b0) (by omega) hz9
    refine ⟨⟨rfl, rfl, by show 0 < r; omega, (Nat.log2_lt (by show r.natAbs ≠ 0; omega)).mpr r9⟩, fun q eq => ?_⟩
    have eq : q = b / r := eq
    subst eq
    refine ⟨⟨rfl, rfl, rfl, mul_ok q9 r9⟩, fun r1 e1 => ?_⟩
    refine ⟨⟨rfl, rfl, rfl, mul_ok q9 s9⟩, fun s1 e2 => ?_⟩
    have f1 : r1 = b - b / r * r := e1
    have f2 : s1 = sb - b / r * s := e2
    clear e1 e2
    refine ⟨rfl, fun b' eb => ?_⟩
    have eb : b' = r := eb
    subst eb
    refine ⟨rfl, fun r2 e3 => ?_⟩
    have e3 : r2 = r1 := e3
    subst e3
    refine ⟨rfl, fun s2 e4 => ?_⟩
    have e4 : s2 = s := e4
    subst e4
    refine ⟨rfl, fun s3 e5 => ?_⟩
    have e5 : s3 = s1 := e5
    subst e5
    have I2 := I.step c
    rw [<- f1, <- f2] at I2
    refine ⟨⟨_, _, _, _, _, _, _, rfl, I2⟩, ?_⟩
    show r2.toNat < b'.toNat
    have := I2.rb
    have := I2.r0
    omega
  . have c : ¬ ¬ r = 0 := c
    have c : r = 0 := by omega
    subst c
    have gc := I.end
    refine ⟨⟨rfl, tT⟩, fun hb => ?_, fun hb => ?_⟩
    . have hb : ¬ b = 1 := hb
      refine ⟨⟨tT, tT⟩, ?_⟩
      show F_tu cNO [.int n, .int b0] = .err cNO
      show (if Int.gcd n b0 = 1 then _ else _) = _
      rw [if_neg (by omega)]
    . have hb : ¬ ¬ b = 1 := hb
      have hb : b = 1 := by omega
      refine ⟨⟨rfl, rfl, by show 0 < b0; omega⟩, ?_⟩
      show F_tu cNO [.int n, .int b0] = .val (.int (sb % b0))
      show (if Int.gcd n b0 = 1 then _ else _) = _
      rw [if_pos (by omega), tu_one hz (Int.emod_nonneg _ (by omega)) (Int.emod_lt_of_pos _ (by omega)) (I.one hz hb)]
theorem pl_iff (z a b : Int) : pl z a = pl z b ↔ z ∣ a - b := by
  unfold pl
  split
  . rename_i h
    subst h
    rw [Int.zero_dvd]
    omega
  . rw [Int.emod_eq_emod_iff_emod_sub_eq_zero, Int.dvd_iff_emod_eq_zero]
theorem pl_same {z a b : Int} (ha : pl z a = a) (hb : pl z b = b) (h : z ∣ a - b) : a = b := by rw [<- ha, <- hb]; exact (pl_iff z a b).mpr h
theorem pl_dvd (z a : Int) : z ∣ pl z a - a := (pl_iff z _ _).mp (pl_pl z a)
def lastI (xs : List Int) : Int := xs.getD (xs.length - 1) 0
theorem sm_dvd {z : Int} {f : Nat -> Int} : ∀ {N : Nat}, (∀ j, j < N -> z ∣ f j) -> z ∣ sm N f
  | 0, _ => Int.dvd_zero z
  | N + 1, h => Int.dvd_add (sm_dvd fun j hj => h j (by omega)) (h N (by omega))
theorem sm_one {z : Int} {f : Nat -> Int} {i : Nat} : ∀ {N : Nat}, i < N -> (∀ j, j < N -> j ≠ i -> z ∣ f j) -> z ∣ sm N f - f i
  | 0, h, _ => by omega
  | N + 1, h, k => by
    show z ∣ sm N f + f N - f i
    by_cases c : i = N
    . subst c
      have e : sm i f + f i - f i = sm i f := by omega
      rw [e]
      exact sm_dvd fun j hj => k j (by omega) (by omega)
    . have e : sm N f + f N - f i = (sm N f - f i) + f N := by omega
      rw [e]
      exact Int.dvd_add (sm_one (by omega) fun j hj hne => k j (by omega) hne) (k N (by omega) (by omega))
theorem sm_upd {f g : Nat -> Int} {k : Nat} : ∀ {N : Nat}, (∀ i, i < N -> i ≠ k -> f i = g i) -> sm N f = sm N g + if k < N then f k - g k else 0
  | 0, _ => by show (0 : Int) = 0 + _; rw [if_neg (by omega)]; rfl
  | N + 1, h => by
    show sm N f + f N = sm N g + g N + _
    rw [sm_upd (f := f) (g := g) (k := k) fun i hi hne => h i (by omega) hne]
    by_cases c : k = N
    . subst c
      rw [if_neg (by omega), if_pos (by omega)]
      omega
    . rw [h N (by omega) (by omega)]
      by_cases d : k < N
      . rw [if_pos d, if_pos (by omega)]; omega
      . rw [if_neg d, if_neg (by omega)]; omega
theorem cm_top {z : Int} {E d : List Int} {i : Nat} (hd : 0 < d.length) (up : ∀ j, i < j -> z ∣ E.getD j 0) : z ∣ cm E d (i + (d.length - 1)) - E.getD i 0 * lastI d := by
  have h := sm_one (z := z) (f := fun j => E.getD j 0 * d.getD (i + (d.length - 1) - j) 0) (i := i) (N := i + (d.length - 1) + 1) (by omega) fun j hj hne => by
    rcases Nat.lt_or_gt_of_ne hne with c | c
    . show z ∣ E.getD j 0 * d.getD (i + (d.length - 1) - j) 0
      rw [getD_ge (show d.length <= i + (d.length - 1) - j by omega), Int.mul_zero]
      exact Int.dvd_zero z
    . exact Int.dvd_mul_of_dvd_left (up j c)
  have e : i + (d.length - 1) - i = d.length - 1 := by omega
  rw [e] at h
  exact h
theorem topE {z : Int} {E d : List Int} {S : Nat} (hd : 0 < d.length) (nz : ∀ x, z ∣ x * lastI d -> z ∣ x) (h : ∀ n, S + (d.length - 1) <= n -> z ∣ cm E d n) : ∀ i, S <= i -> z ∣ E.getD i 0 := by
  have key : ∀ k i, S <= i -> E.length <= i + k -> z ∣ E.getD i 0 := by
    intro k
    induction k with
    | zero => intro i _ hk; rw [getD_ge (by omega)]; exact Int.dvd_zero z
    | succ k ih =>
      intro i hi hk
      have one := cm_top (z := z) (E := E) hd (i := i) fun j hj => ih j (by omega) (by omega)
      refine nz _ ?_
      have := Int.dvd_sub (h (i + (d.length - 1)) (by omega)) one
      rw [Int.sub_sub_self] at this
      exact this
  exact fun i hi => key E.length i hi (by omega)
theorem cm_set {q d : List Int} {g : Nat} {c : Int} (hg : g < q.length) (h0 : q.getD g 0 = 0) (n : Nat) : cm (q.set g c) d n = cm q d n + if g <= n then c * d.getD (n - g) 0 else 0 := by
  unfold cm
  rw [sm_upd (f := fun i => (q.set g c).getD i 0 * d.getD (n - i) 0) (g := fun i => q.getD i 0 * d.getD (n - i) 0) (k := g) fun i hi hne => by
    show (q.set g c).getD i 0 * d.getD (n - i) 0 = _
    rw [set_get _ _ _ _ hg, if_neg hne]]
  congr 1
  by_cases k : g < n + 1
  . rw [if_pos k, if_pos (by omega)]
    show (q.set g c).getD g 0 * d.getD (n - g) 0 - q.getD g 0 * d.getD (n - g) 0 = _
    rw [set_get _ _ _ _ hg, if_pos rfl, h0]
    omega
  . rw [if_neg k, if_neg (by omega)]
def subL (a b : List Int) : List Int := (List.range (max a.length b.length)).map fun i => a.getD i 0 - b.getD i 0
theorem subL_get (a b : List Int) (n : Nat) : (subL a b).getD n 0 = a.getD n 0 - b.getD n 0 := by
  unfold subL
  by_cases h : n < max a.length b.length
  . rw [getD_lt (by rw [List.length_map, List.length_range]; exact h), List.getElem_map, List.getElem_range]
  . rw [getD_ge (by rw [List.length_map, List.length_range]; omega), getD_ge (xs := a) (by omega), getD_ge (xs := b) (by omega)]; rfl
theorem sm_sub (f g : Nat -> Int) : ∀ N, sm N (fun i => f i - g i) = sm N f - sm N g
  | 0 => rfl
  | N + 1 => by
    show sm N (fun i => f i - g i) + (f N - g N) = sm N f + f N - (sm N g + g N)
    rw [sm_sub f g N]
    omega
theorem cm_sub (a b d : List Int) (n : Nat) : cm (subL a b) d n = cm a d n - cm b d n := by
  unfold cm
  rw [<- sm_sub]
  exact sm_congr fun i _ => by rw [subL_get, Int.sub_mul]
theorem form_len {xs : List Int} {L : Nat} (hf : InForm xs) (h : ∀ n, L <= n -> xs.getD n 0 = 0) : xs.length <= L := by
  by_cases c : xs.length <= L
  . exact c
  . exact absurd (h (xs.length - 1) (by omega)) (hf fun e => by rw [e] at c; exact c (Nat.zero_le _))
def nextR (z : Int) (d r : List Int) (c : Int) : List Int := trimZ ((List.range r.length).map fun n => if r.length - d.length <= n then pl z (r.getD n 0 - c * d.getD (n - (r.length - d.length)) 0) else r.getD n 0)
theorem nextR_get {z : Int} {d r : List Int} {c : Int} (hd : d.length <= r.length) (n : Nat) : (nextR z d r c).getD n 0 = if r.length - d.length <= n then pl z (r.getD n 0 - c * d.getD (n - (r.length - d.length)) 0) else r.getD n 0 := by
  unfold nextR
  rw [trim_get]
  by_cases h : n < r.length
  . rw [getD_lt (by rw [List.length_map, List.length_range]; exact h), List.getElem_map, List.getElem_range]
  . rw [getD_ge (by rw [List.length_map, List.length_range]; omega), if_pos (by omega), getD_ge (xs := r) (by omega), getD_ge (xs := d) (by omega), Int.mul_zero, Int.sub_zero, pl_0]
def dvN (z : Int) (ov : Int -> Int -> Option Int) (d : List Int) : Nat -> List Int -> List Int -> Option (List Int × List Int)
  | 0, q, r => some (q, r)
  | n + 1, q, r => if r.length < d.length then some (q, r) else match ov (lastI r) (lastI d) with
    | none => none
    | some c => dvN z ov d n (q.set (r.length - d.length) c) (nextR z d r c)
structure DInv (z : Int) (f d q r : List Int) : Prop where
  eq : ∀ n, z ∣ cm q d n + r.getD n 0 - f.getD n 0
  rr : ∀ n, pl z (r.getD n 0) = r.getD n 0
  rf : InForm r
  qr : ∀ n, pl z (q.getD n 0) = q.getD n 0
  ql : q.length = f.length + 1 - d.length
  rl : r.length <= f.length
  q0 : ∀ n, n + d.length <= r.length -> q.getD n 0 = 0
  qt : r.length < f.length -> q.getD (f.length - d.length) 0 ≠ 0
theorem DInv.start {z : Int} {f d : List Int} (hf : InForm f) (hr : ∀ n, pl z (f.getD n 0) = f.getD n 0) : DInv z f d (List.replicate (f.length + 1 - d.length) 0) f := by
  have g0 : ∀ n, (List.replicate (f.length + 1 - d.length) (0 : Int)).getD n 0 = 0 := fun n => by
    by_cases h : n < f.length + 1 - d.length
    . rw [getD_lt (by rw [List.length_replicate]; exact h), List.getElem_replicate]
    . rw [getD_ge (by rw [List.length_replicate]; omega)]
  refine ⟨fun n => ?_, hr, hf, fun n => ?_, List.length_replicate, Nat.le_refl _, fun n _ => g0 n, fun h => absurd h (Nat.lt_irrefl _)⟩
  . have e : cm (List.replicate (f.length + 1 - d.length) 0) d n = 0 := sm_zero fun i _ => by rw [g0, Int.zero_mul]
    rw [e]
    have : (0 : Int) + f.getD n 0 - f.getD n 0 = 0 := by omega
    rw [this]
    exact Int.dvd_zero z
  . rw [g0, pl_0]
theorem DInv.step {z : Int} {f d q r : List Int} {c : Int} (I : DInv z f d q r) (hd : 0 < d.length) (hl : d.length <= r.length) (hc : pl z (c * lastI d) = lastI r) (hp : pl z c = c) : DInv z f d (q.set (r.length - d.length) c) (nextR z d r c) /\ (nextR z d r c).length < r.length := by
  have hg : r.length - d.length < q.length := by rw [I.ql]; have := I.rl; omega
  have h0 : q.getD (r.length - d.length) 0 = 0 := I.q0 _ (by omega)
  have rne : r ≠ [] := fun e => by rw [e] at hl; exact absurd hl (by show ¬ d.length <= 0; omega)
  have l0 : lastI r ≠ 0 := I.rf rne
  have hc2 : c ≠ 0 := fun e => by
    rw [e, Int.zero_mul, pl_0] at hc
    exact l0 hc.symm
  have hlen : (nextR z d r c).length < r.length := by
    have : (nextR z d r c).length <= r.length - 1 := by
      refine form_len (trim_form _) fun n hn => ?_
      rw [nextR_get hl, if_pos (by omega)]
      by_cases k : n = r.length - 1
      . subst k
        have e1 : r.length - 1 - (r.length - d.length) = d.length - 1 := by omega
        rw [e1]
        show pl z (lastI r - c * lastI d) = 0
        rw [<- pl_0 z]
        refine (pl_iff z _ _).mpr ?_
        have h1 := pl_dvd z (c * lastI d)
        rw [hc] at h1
        rw [Int.sub_zero]
        exact h1
      . rw [getD_ge (xs := r) (by omega), getD_ge (xs := d) (by omega), Int.mul_zero, Int.sub_zero, pl_0]
    omega
  refine ⟨⟨fun n => ?_, fun n => ?_, trim_form _, fun n => ?_, by rw [List.length_set]; exact I.ql, by have := I.rl; omega, fun n hn => ?_, fun _ => ?_⟩, hlen⟩
  . rw [cm_set hg h0, nextR_get hl]
    have e := I.eq n
    by_cases k : r.length - d.length <= n
    . rw [if_pos k, if_pos k]
      have p := pl_dvd z (r.getD n 0 - c * d.getD (n - (r.length - d.length)) 0)
      have s := Int.dvd_add e p
      generalize pl z (r.getD n 0 - c * d.getD (n - (r.length - d.length)) 0) = u at s ⊢
      generalize c * d.getD (n - (r.length - d.length)) 0 = v at s ⊢
      have q : cm q d n + v + u - f.getD n 0 = cm q d n + r.getD n 0 - f.getD n 0 + (u - (r.getD n 0 - v)) := by omega
      rw [q]
      exact s
    . rw [if_neg k, if_neg k, Int.add_zero]
      exact e
  . rw [nextR_get hl]
    split
    . exact pl_pl z _
    . exact I.rr n
  . rw [set_get _ _ _ _ hg]
    split
    . exact hp
    . exact I.qr n
  . rw [set_get _ _ _ _ hg, if_neg (by omega)]
    exact I.q0 n (by omega)
  . rw [set_get _ _ _ _ hg]
    split
    . exact hc2
    . have := I.rl
      exact I.qt (by omega)
theorem dvN_ok {z : Int} {ov : Int -> Int -> Option Int} {f d : List Int} (hd : 0 < d.length) (hov : ∀ a c, pl z a = a -> ov a (lastI d) = some c -> pl z (c * lastI d) = a /\ pl z c = c) : ∀ (fuel : Nat) (q r : List Int), DInv z f d q r -> r.length < fuel ->
    (∀ Q R, dvN z ov d fuel q r = some (Q, R) -> DInv z f d Q R /\ R.length < d.length) /\ (dvN z ov d fuel q r = none -> ∃ q' r', DInv z f d q' r' /\ d.length <= r'.length /\ ov (lastI r') (lastI d) = none)
  | 0, _, _, _, h => by omega
  | n + 1, q, r, I, h => by
    unfold dvN
    by_cases c : r.length < d.length
    . rw [if_pos c]
      refine ⟨fun Q R e => ?_, fun e => by cases e⟩
      cases e
      exact ⟨I, c⟩
    . rw [if_neg c]
      cases o : ov (lastI r) (lastI d) with
      | none => exact ⟨(fun Q R e => by cases e), fun _ => ⟨q, r, I, by omega, o⟩⟩
      | some x =>
        obtain ⟨h1, h2⟩ := hov (lastI r) x (I.rr _) o
        obtain ⟨J, hl⟩ := I.step hd (by omega) h1 h2
        exact dvN_ok hd hov n _ _ J (by omega)
def TakeAt (z : Int) (d r : List Int) (c : Int) (i : Nat) (row : List Int) : Prop := row.length = r.length /\ ∀ n, row.getD n 0 = if r.length - d.length <= n /\ n - (r.length - d.length) < i then pl z (r.getD n 0 - c * d.getD (n - (r.length - d.length)) 0) else r.getD n 0
theorem take_start (z : Int) (d r : List Int) (c : Int) : TakeAt z d r c 0 r := ⟨rfl, fun n => by rw [if_neg (by omega)]⟩
theorem take_step {z : Int} {d r row : List Int} {c : Int} {i : Nat} (h : TakeAt z d r c i row) (hl : d.length <= r.length) (hi : i < d.length) : TakeAt z d r c (i + 1) (row.set (r.length - d.length + i) (pl z (row.getD (r.length - d.length + i) 0 - c * d.getD i 0))) := by
  obtain ⟨h1, h2⟩ := h
  refine ⟨by rw [List.length_set]; exact h1, fun n => ?_⟩
  rw [set_get _ _ _ _ (by omega)]
  by_cases k : n = r.length - d.length + i
  . subst k
    rw [if_pos rfl, if_pos (by omega), h2, if_neg (by omega), show r.length - d.length + i - (r.length - d.length) = i by omega]
  . rw [if_neg k, h2]
    by_cases q : r.length - d.length <= n /\ n - (r.length - d.length) < i
    . rw [if_pos q, if_pos (by omega)]
    . rw [if_neg q, if_neg (by omega)]
theorem take_end {z : Int} {d r row : List Int} {c : Int} (h : TakeAt z d r c d.length row) (hl : d.length <= r.length) : trimZ row = nextR z d r c := by
  unfold nextR
  refine trim_ext fun n => ?_
  rw [h.2 n]
  by_cases k : n < r.length
  . rw [getD_lt (xs := (List.range r.length).map _) (by rw [List.length_map, List.length_range]; exact k), List.getElem_map, List.getElem_range]
    by_cases q : r.length - d.length <= n
    . rw [if_pos ⟨q, by omega⟩, if_pos q]
    . rw [if_neg (by omega), if_neg q]
  . rw [getD_ge (xs := (List.range r.length).map _) (by rw [List.length_map, List.length_range]; omega), if_neg (by omega), getD_ge (by omega)]
theorem Tz_form (z : Int) (f : List Int) : InForm (Tz z f) := trim_form _
theorem Tz_red (z : Int) (f : List Int) (n : Nat) : pl z ((Tz z f).getD n 0) = (Tz z f).getD n 0 := by rw [Tz_get, pl_pl]
theorem last_ix (ns : List Int) (h : 0 < ns.length) : ns.getD (ixO ns.length (-1)) 0 = lastI ns := by
  have e : ixO ns.length (-1) = ns.length - 1 := by
    unfold ixO
    rw [if_neg (by omega)]
    omega
  rw [e]
  rfl
theorem sm_add (f g : Nat -> Int) : ∀ N, sm N (fun i => f i + g i) = sm N f + sm N g
  | 0 => rfl
  | N + 1 => by
    show sm N (fun i => f i + g i) + (f N + g N) = sm N f + f N + (sm N g + g N)
    rw [sm_add f g N]
    omega
theorem sm_mulL (l : Int) (f : Nat -> Int) : ∀ n, sm n (fun i => l * f i) = l * sm n f
  | 0 => (Int.mul_zero l).symm
  | n + 1 => by
    show sm n (fun i => l * f i) + l * f n = l * (sm n f + f n)
    rw [sm_mulL l f n, Int.mul_add]
theorem cm_consL (o : Int) (q d : List Int) (i : Nat) : cm (o :: q) d i = o * d.getD i 0 + if i = 0 then 0 else cm q d (i - 1) := by
  unfold cm
  rw [sm_head]
  have e1 : ((o :: q).getD 0 0 : Int) = o := rfl
  rw [e1, Nat.sub_zero]
  congr 1
  by_cases c : i = 0
  . subst c; rfl
  . rw [if_neg c]
    obtain ⟨k, rfl⟩ : ∃ k, i = k + 1 := ⟨i - 1, by omega⟩
    refine sm_congr fun j hj => ?_
    have e2 : ((o :: q).getD (j + 1) 0 : Int) = q.getD j 0 := rfl
    have e3 : k + 1 - (j + 1) = k - j := by omega
    have e4 : k + 1 - 1 - j = k - j := by omega
    show (o :: q).getD (j + 1) 0 * d.getD (k + 1 - (j + 1)) 0 = q.getD j 0 * d.getD (k + 1 - 1 - j) 0
    rw [e2, e3, e4]
theorem cm_nil (d : List Int) (n : Nat) : cm [] d n = 0 := sm_zero fun i _ => by
  show ([] : List Int).getD i 0 * _ = 0
  rw [getD_ge (Nat.zero_le _), Int.zero_mul]
theorem cm_zero {f g : List Int} (h : ∀ n, f.getD n 0 = 0) (n : Nat) : cm f g n = 0 := sm_zero fun i _ => by rw [h i, Int.zero_mul]
theorem cm_same {f f' g g' : List Int} (h : ∀ n, f.getD n 0 = f'.getD n 0) (k : ∀ n, g.getD n 0 = g'.getD n 0) (n : Nat) : cm f g n = cm f' g' n := sm_congr fun i _ => by rw [h, k]
theorem cm_step {a u g h : List Int} {o : Int} (ha : ∀ i, a.getD i 0 = o * g.getD i 0 + if i = 0 then 0 else u.getD (i - 1) 0) (n : Nat) : cm a h n = o * cm g h n + if n = 0 then 0 else cm u h (n - 1) := by
  unfold cm
  have e : sm (n + 1) (fun i => a.getD i 0 * h.getD (n - i) 0) = sm (n + 1) fun i => o * (g.getD i 0 * h.getD (n - i) 0) + (if i = 0 then 0 else u.getD (i - 1) 0) * h.getD (n - i) 0 := sm_congr fun i _ => by rw [ha, Int.add_mul, Int.mul_assoc]
  rw [e, sm_add, sm_mulL]
  congr 1
  rw [sm_head]
  have e0 : (if (0 : Nat) = 0 then (0 : Int) else u.getD (0 - 1) 0) * h.getD (n - 0) 0 = 0 := by rw [if_pos rfl, Int.zero_mul]
  rw [e0, Int.zero_add]
  by_cases c : n = 0
  . subst c; rfl
  . rw [if_neg c]
    obtain ⟨k, rfl⟩ : ∃ k, n = k + 1 := ⟨n - 1, by omega⟩
    refine sm_congr fun j _ => ?_
    have e3 : k + 1 - (j + 1) = k + 1 - 1 - j := by omega
    show (if j + 1 = 0 then 0 else u.getD (j + 1 - 1) 0) * h.getD (k + 1 - (j + 1)) 0 = _
    rw [if_neg (by omega), e3]
    rfl
theorem cm_assoc (g h : List Int) : ∀ (f : List Int) (n : Nat), cm (convL f g) h n = cm f (convL g h) n
  | [], n => by
    rw [cm_nil, cm_zero]
    intro i
    rw [convL_get, cm_nil]
  | o :: q, n => by
    rw [cm_consL, cm_step (u := convL q g) (g := g) (o := o) (fun i => by
      rw [convL_get, cm_consL]
      congr 1
      by_cases c : i = 0
      . rw [if_pos c, if_pos c]
      . rw [if_neg c, if_neg c, convL_get])]
    rw [convL_get]
    congr 1
    by_cases c : n = 0
    . rw [if_pos c, if_pos c]
    . rw [if_neg c, if_neg c, cm_assoc g h q]
def mu (f g : List Int) : List Int := trimZ (convL f g)
def EqM (p : Int) (d a b : List Int) : Prop := ∃ Q : List Int, ∀ n, p ∣ a.getD n 0 - b.getD n 0 - cm Q d n
theorem EqM.refl (p : Int) (d a : List Int) : EqM p d a a := ⟨[], fun n => by rw [cm_nil, Int.sub_self]; exact Int.dvd_zero p⟩
theorem EqM.of {p : Int} {d a b : List Int} (h : ∀ n, p ∣ a.getD n 0 - b.getD n 0) : EqM p d a b := ⟨[], fun n => by rw [cm_nil, Int.sub_zero]; exact h n⟩
theorem cm_addL (a b d : List Int) (n : Nat) : cm (addL a b) d n = cm a d n + cm b d n := by
  unfold cm
  rw [<- sm_add]
  exact sm_congr fun i _ => by rw [addL_get, Int.add_mul]
theorem cm_neg (a d : List Int) (n : Nat) : cm (a.map fun x => -x) d n = -cm a d n := by
  have h := sm_mulL (-1) (fun i => a.getD i 0 * d.getD (n - i) 0) (n + 1)
  unfold cm
  rw [Int.neg_one_mul] at h
  rw [<- h]
  exact sm_congr fun i _ => by rw [getD_map _ (by decide), Int.neg_one_mul, Int.neg_mul]
theorem EqM.symm {p : Int} {d a b : List Int} (h : EqM p d a b) : EqM p d b a := by
  obtain ⟨Q, h⟩ := h
  refine ⟨Q.map fun x => -x, fun n => ?_⟩
  rw [cm_neg]
  have e : b.getD n 0 - a.getD n 0 - -cm Q d n = -(a.getD n 0 - b.getD n 0 - cm Q d n) := by omega
  rw [e]
  exact Int.dvd_neg.mpr (h n)
theorem EqM.trans {p : Int} {d a b c : List Int} (h : EqM p d a b) (k : EqM p d b c) : EqM p d a c := by
  obtain ⟨Q, h⟩ := h
  obtain ⟨S, k⟩ := k
  refine ⟨addL Q S, fun n => ?_⟩
  rw [cm_addL]
  have e : a.getD n 0 - c.getD n 0 - (cm Q d n + cm S d n) = (a.getD n 0 - b.getD n 0 - cm Q d n) + (b.getD n 0 - c.getD n 0 - cm S d n) := by omega
  rw [e]
  exact Int.dvd_add (h n) (k n)
theorem cm_left {p : Int} {a b c : List Int} (h : ∀ n, p ∣ a.getD n 0 - b.getD n 0) (n : Nat) : p ∣ cm a c n - cm b c n := by
  rw [<- cm_sub]
  exact sm_dvd fun i _ => by
    show p ∣ (subL a b).getD i 0 * c.getD (n - i) 0
    rw [subL_get]
    exact Int.dvd_mul_of_dvd_left (h i)
theorem EqM.mul {p : Int} {d a b : List Int} (h : EqM p d a b) (c : List Int) : EqM p d (convL a c) (convL b c) := by
  obtain ⟨Q, h⟩ := h
  refine ⟨convL Q c, fun n => ?_⟩
  have k := cm_left (p := p) (a := subL a b) (b := convL Q d) (c := c) (fun i => by rw [subL_get, convL_get]; exact h i) n
  rw [cm_sub] at k
  have e : cm (convL Q c) d n = cm (convL Q d) c n := by
    rw [cm_assoc, cm_assoc]
    exact cm_same (fun _ => rfl) (fun i => by rw [convL_get, convL_get, cm_comm]) n
  rw [convL_get, convL_get, e]
  exact k
theorem EqM.comm (p : Int) (d a b : List Int) : EqM p d (convL a b) (convL b a) := .of fun n => by
  rw [convL_get, convL_get, cm_comm, Int.sub_self]
  exact Int.dvd_zero p
theorem EqM.mul2 {p : Int} {d a b c e : List Int} (h : EqM p d a b) (k : EqM p d c e) : EqM p d (convL a c) (convL b e) :=
  (h.mul c).trans (((EqM.comm p d b c).trans (k.mul b)).trans (EqM.comm p d e b))
theorem EqM.assoc (p : Int) (d a b c : List Int) : EqM p d (convL (convL a b) c) (convL a (convL b c)) := .of fun n => by
  rw [convL_get, convL_get, cm_assoc, Int.sub_self]
  exact Int.dvd_zero p
theorem EqM.Tz (p : Int) (d a : List Int) : EqM p d a (FM.Tz p a) := .of fun n => by
  rw [Tz_get]
  have := pl_dvd p (a.getD n 0)
  have e : a.getD n 0 - pl p (a.getD n 0) = -(pl p (a.getD n 0) - a.getD n 0) := by omega
  rw [e]
  exact Int.dvd_neg.mpr this
theorem EqM.one (p : Int) (d a : List Int) : EqM p d (convL a [1]) a := .of fun n => by
  rw [convL_get, cm_comm, cm_consL]
  by_cases c : n = 0
  . rw [if_pos c, Int.one_mul, Int.add_zero, Int.sub_self]; exact Int.dvd_zero p
  . rw [if_neg c, cm_nil, Int.one_mul, Int.add_zero, Int.sub_self]; exact Int.dvd_zero p
structure IsR (p : Int) (d r : List Int) : Prop where
  form : InForm r
  red : ∀ n, pl p (r.getD n 0) = r.getD n 0
  len : r.length < d.length
theorem rest_one {p : Int} {d r s : List Int} (nz : ∀ x, p ∣ x * lastI d -> p ∣ x) (hr : IsR p d r) (hs : IsR p d s) (h : EqM p d r s) : r = s := by
  obtain ⟨Q, h⟩ := h
  have hd : 0 < d.length := Nat.lt_of_le_of_lt (Nat.zero_le _) hr.len
  have l1 := hr.len
  have l2 := hs.len
  have top := topE (z := p) (E := Q) (S := 0) hd nz fun n hn => by
    have := h n
    rw [getD_ge (xs := r) (by omega), getD_ge (xs := s) (by omega)] at this
    have e : (0 : Int) - 0 - cm Q d n = -cm Q d n := by omega
    rw [e] at this
    exact Int.dvd_neg.mp this
  refine form_ext hr.form hs.form fun n => pl_same (hr.red n) (hs.red n) ?_
  have k := h n
  have c : p ∣ cm Q d n := sm_dvd fun i _ => Int.dvd_mul_of_dvd_left (top i (Nat.zero_le _))
  have e : r.getD n 0 - s.getD n 0 = (r.getD n 0 - s.getD n 0 - cm Q d n) + cm Q d n := by omega
  rw [e]
  exact Int.dvd_add k c
open Classical in
def rm (p : Int) (d a : List Int) : List Int := if h : ∃ r, IsR p d r /\ EqM p d a r then Classical.choose h else []
theorem rm_eq {p : Int} {d a r : List Int} (nz : ∀ x, p ∣ x * lastI d -> p ∣ x) (hr : IsR p d r) (h : EqM p d a r) : rm p d a = r := by
  have ex : ∃ r, IsR p d r /\ EqM p d a r := ⟨r, hr, h⟩
  have e : rm p d a = Classical.choose ex := by unfold rm; rw [dif_pos ex]
  obtain ⟨h1, h2⟩ := Classical.choose_spec ex
  rw [e]
  exact rest_one nz h1 hr (h2.symm.trans h)
def pw (a : List Int) : Nat -> List Int
  | 0 => [1]
  | k + 1 => convL (pw a k) a
theorem pw_mod {p : Int} {d a b : List Int} (h : EqM p d a b) : ∀ k, EqM p d (pw a k) (pw b k)
  | 0 => .refl p d [1]
  | k + 1 => (pw_mod h k).mul2 h
def preO : Int -> List Int -> Prop := fun z ns => match ns with
  | [a, b] => 2 <= z /\ z.natAbs < 2 ^ 9000 /\ a.natAbs < 2 ^ 9000
  | _ => False
def F_O (C : Addr) : Int -> List Int -> Int ⊕ Addr := fun z ns => match ns with
  | [a, b] => if Int.gcd b z = 1 then .inl (pl z (a * tu b z)) else .inr C
  | _ => .inr C
theorem FO_r {C : Addr} {z x y : Int} (g : Int.gcd y z = 1) : F_O C z [x, y] = .inl (pl z (x * tu y z)) := if_pos g
theorem FO_e {C : Addr} {z x y : Int} (g : ¬ Int.gcd y z = 1) : F_O C z [x, y] = .inr C := if_neg g
theorem kme_over (T : Top K mg cNO cK cR) : KME P w K mg base 2 (KR cR) "over" 2 preO (F_O cNO) := by
  refine ⟨fun H a z ka => ?_⟩
  obtain ⟨q0, dx, fs, e, hz, hm⟩ := id ka
  obtain ⟨f, fd, Fu, b, m1⟩ := T.f_Kind_over
  refine ⟨cR, dx, fs, ["self", "a", "b"], e, hm "over" (by decide +kernel), f, fd, ?_, b, m1, T.cl_Rests⟩
  obtain ⟨oc, od, kV, doc, pm, an, cdv, ct, osl, rfl, lk, hcd⟩ := Fu.ex
  refine fn_of lk hcd sc_Kind_over (fun vs H Q E h => ?_) fun A outer s H vs Q E hr h => ?_
  . obtain ⟨ns, hl, rfl, _⟩ := h
    show (ns.map V.int).length + 1 = 3
    rw [List.length_map, hl]
  obtain ⟨ns, hl, rfl, ka2, hp, k, ke⟩ := h
  obtain ⟨x, y, rfl⟩ := len2 hl
  obtain ⟨hz2, h9, hx⟩ := hp
  obtain ⟨_, dx2, fs2, e2, hz', _⟩ := id ka2
  obtain ⟨C3, dx3, fs3, ps3, e3, l3, M3⟩ := (km_plain (P := P) (w := w) (base := base) T).ex H a z ka2
  obtain ⟨f3, fd3, F3, b3, mm3, c3⟩ := M3.ex
  refine ⟨_, (pss_one (ps_ret (pe_meth (pv 0) c3 mm3 F3 hr b3 .nil pass0 (pa_cons (pe_op op_mulB (pn_var 1) (pe_callE (kx_turned T) passE hr (pa_cons (pn_var 2) (pa_cons (pe_fld (pv 0) rfl) pa_nil)))) pa_nil)))), ?_⟩
  refine ⟨_, rfl, a, dx3, fs3, rfl, e3, l3, rfl, rfl, _, rfl, a, cR, dx2, fs2, _, rfl, e2, T.cl_Rests, T.na_Rests_size, hz', [.int y, .int z], fun _ => false, (fun _ z => by cases z), ⟨_, _, rfl, rfl, _, _, rfl, rfl, rfl⟩, ⟨y, z, rfl, hz2, h9⟩, fun p hp v H1 s1 a1 => ?_, fun er her H1 s1 => ?_⟩
  . have hp : F_tu cNO [.int y, .int z] = .val p := hp
    by_cases g : Int.gcd y z = 1
    . rw [show F_tu cNO [.int y, .int z] = .val (.int (tu y z)) from if_pos g] at hp
      cases hp
      have a1 : v = .int (tu y z) := a1
      subst a1
      obtain ⟨t0, t1, _⟩ := tu_spec hz2 (tu_ex hz2 g)
      have tb : (tu y z).natAbs < 2 ^ 9000 := by
        generalize 2 ^ 9000 = B at *
        omega
      refine ⟨x, tu y z, rfl, rfl, mul_ok (n := 9000) (m := 9000) hx tb, [x * tu y z], rfl, rfl, ka2.same s1, tT, ?_⟩
      exact k _ (FO_r g) H1 s1
    . rw [show F_tu cNO [.int y, .int z] = .err cNO from if_neg g] at hp
      cases hp
  . have her : F_tu cNO [.int y, .int z] = .err er := her
    by_cases g : Int.gcd y z = 1
    . rw [show F_tu cNO [.int y, .int z] = .val (.int (tu y z)) from if_pos g] at her
      cases her
    . rw [show F_tu cNO [.int y, .int z] = .err cNO from if_neg g] at her
      cases her
      exact ke cNO (FO_e g) H1 s1
def ovp (z a b : Int) : Option Int := some (pl z (a * tu b z))
theorem hov {z b : Int} (z2 : 2 <= z) (g : Int.gcd b z = 1) (a c : Int) (ha : pl z a = a) (h : ovp z a b = some c) : pl z (c * b) = a /\ pl z c = c := by
  have e := Option.some.inj h
  subst e
  obtain ⟨_, _, t⟩ := tu_spec z2 (tu_ex z2 g)
  refine ⟨?_, pl_pl _ _⟩
  rw [pl_mul]
  have e1 : pl z (a * tu b z * b) = pl z (a * pl z (tu b z * b)) := by rw [pl_mul', Int.mul_assoc]
  rw [e1, pl_pos (n := tu b z * b) (by omega), t, Int.mul_one, ha]
def dvT (z : Int) (fo d : List Int) : Option (List Int × List Int) := dvN z (ovp z) d (fo.length + 1) (List.replicate (fo.length + 1 - d.length) 0) fo
def dvF (z : Int) (fo d : List Int) : PV := match dvT z fo d with
  | none => .non
  | some p => .tup [.ints p.1, .ints p.2]
structure DOk (p : Int) (g : List Int) : Prop where
  pr : IsP p
  len : g.length <= 200
  ne : Tz p g ≠ []
  gcd : Int.gcd (lastI (Tz p g)) p = 1
theorem DOk.nz {p : Int} {g : List Int} (h : DOk p g) (x : Int) (hx : p ∣ x * lastI (Tz p g)) : p ∣ x := by
  obtain ⟨t, _, _, ht⟩ := tu_ex h.pr.1 h.gcd
  have h1 := Int.dvd_sub_self_of_emod_eq ht
  have h2 : p ∣ x * lastI (Tz p g) * t := Int.dvd_mul_of_dvd_left hx
  have h3 : p ∣ x * (1 - t * lastI (Tz p g)) := Int.dvd_mul_of_dvd_right h1
  have e1 : x = x * lastI (Tz p g) * t + x * (1 - t * lastI (Tz p g)) := by
    rw [Int.mul_sub, Int.mul_one, Int.mul_comm t, <- Int.mul_assoc]
    omega
  rw [e1]
  exact Int.dvd_add h2 h3
theorem dv_rest {p : Int} {g : List Int} (h : DOk p g) (f : List Int) : ∃ q, dvT p (Tz p f) (Tz p g) = some (q, rm p (Tz p g) f) /\ IsR p (Tz p g) (rm p (Tz p g) f) /\ EqM p (Tz p g) f (rm p (Tz p g) f) := by
  have hd := lP h.ne
  have p2 : 2 <= p := h.pr.1
  obtain ⟨h1, h2⟩ := dvN_ok (z := p) (ov := ovp p) (f := Tz p f) (d := Tz p g) hd (fun a c ha hc => hov p2 h.gcd a c ha hc) ((Tz p f).length + 1) _ _ (DInv.start (Tz_form p f) (Tz_red p f)) (Nat.lt_succ_self _)
  cases o : dvN p (ovp p) (Tz p g) ((Tz p f).length + 1) (List.replicate ((Tz p f).length + 1 - (Tz p g).length) 0) (Tz p f) with
  | none =>
    obtain ⟨_, _, _, _, z⟩ := h2 o
    cases z
  | some x =>
    obtain ⟨q, r⟩ := x
    obtain ⟨I, hl⟩ := h1 q r o
    have ir : IsR p (Tz p g) r := ⟨I.rf, I.rr, hl⟩
    have er : EqM p (Tz p g) f r := (EqM.Tz p (Tz p g) f).trans ⟨q, fun n => by
      have k := I.eq n
      have e : (Tz p f).getD n 0 - r.getD n 0 - cm q (Tz p g) n = -(cm q (Tz p g) n + r.getD n 0 - (Tz p f).getD n 0) := by omega
      rw [e]
      exact Int.dvd_neg.mpr k⟩
    have em := rm_eq h.nz ir er
    rw [em]
    exact ⟨q, o, ir, er⟩
theorem dv_more {z : Int} {d q r : List Int} {n : Nat} (hl : d.length <= r.length) : dvN z (ovp z) d (n + 1) q r = dvN z (ovp z) d n (q.set (r.length - d.length) (pl z (lastI r * tu (lastI d) z))) (nextR z d r (pl z (lastI r * tu (lastI d) z))) := by
  conv => lhs; unfold dvN
  rw [if_neg (by omega)]
  rfl
theorem dv_done {z : Int} {d q r : List Int} {n : Nat} (hl : r.length < d.length) : dvN z (ovp z) d (n + 1) q r = some (q, r) := by
  unfold dvN
  rw [if_pos hl]
theorem red_s {p m : Int} (hp : IsP p) (h : pl p m = m) : 0 <= m /\ m < 9973 := by
  have := pl_lt (z := p) (n := m) (by have := hp.1; omega)
  have := hp.2.1
  omega
theorem kx_divided (T : Top K mg cNO cK cR) : Ok P w K mg base 3 "divided" ["kind", "f", "g"] (spF K (GkR cR) (fun as => ∃ p f g, as = [.ob 0 p, .ints f, .ints g] /\ DOk p g /\ f.length <= 200) fun as => match as with
    | [.ob 0 p, .ints f, .ints g] => dvF p (Tz p f) (Tz p g)
    | _ => .non) := by
  refine okF T.d_divided sc_divided (fun as ⟨a, b, c, h, _⟩ => by rw [h]; rfl) (fun f cdv A outer s H E hr => ⟨_, (xss_cons (xst_own (i := 3) sc_divided.nd rfl (Or.inl rfl) (xcl (kx_trimmed T) hr (xa_cons (xv 0) (xa_cons (xl 1) xa_nil))))
 (xss_cons (xst_setL (i := 4) sc_divided.nd rfl (Or.inl rfl) (newL (xcl (kx_trimmed T) hr (xa_cons (xv 0) (xa_cons (xl 2) xa_nil)))))
 (xss_cons (xst_if (xt_not (xt_list 4))
 (xss_one xst_never)
 xss_nil)
 (xss_cons (xst_own (i := 5) sc_divided.nd rfl (Or.inl rfl) (xl_rep (xl_lst (xa_cons xn_int xa_nil)) (xn_add (xn_sub (xn_len 3 T.b_len) (xn_len 4 T.b_len)) xn_int) (fun _ => rfl)))
 (xss_cons (xst_while PassesOwn.never (xt_ge (xn_len 3 T.b_len) (xn_len 4 T.b_len))
 (xss_cons (xst_setI (i := 6) sc_divided.nd rfl (Or.inl rfl) (xn_sub (xn_len 3 T.b_len) (xn_len 4 T.b_len)))
 (xss_cons (xst_setI (i := 7) sc_divided.nd rfl (Or.inl rfl) (xn_of (xR_V (xR_meth 0 (kme_over T) hr (xa_cons (xn_item 3 (xn_neg xn_int) (fun _ _ => rfl)) (xa_cons (xn_item 4 (xn_neg xn_int) (fun _ _ => rfl)) xa_nil))))))
 (xss_cons (xst_setit 5 (xn 6) (xn 7))
 (xss_cons (xst_forE (k := 8) (j := 9) PassesOwn.never rfl (by rfl) T.b_enumerate (xl 4) (pg_tup rfl (pgs_cons (pg_name (i := 8) sc_divided.nd rfl (Or.inl rfl)) (pgs_cons (pg_name (i := 9) sc_divided.nd rfl (Or.inl rfl)) pgs_nil)))
 (xss_one (xst_setit 3 (xn_add (xn 6) (xn 8)) (xn_kmeth 0 (km_plain T) hr (xa_cons (xn_sub (xn_item 3 (xn_add (xn 6) (xn 8)) (fun _ _ => rfl)) (xn_mul (xn 7) (xn 9))) xa_nil)))))
 (xss_one (xst_mut 3 (kx_cut_noughts T) hr)))))))
 (xss_freeze 3 (xss_freeze 5 (xss_one (xst_ret (xp_tup (xa_cons (xl 5) (xa_cons (xl 3) xa_nil)))))))))))), fun as hp => ?_⟩)
  obtain ⟨z, f, g, rfl, ok, hfl⟩ := hp
  have hgl := ok.len
  have p2 : 2 <= z := ok.pr.1
  have h9 : z.natAbs < 2 ^ 9000 := by
    have : z.natAbs <= 2 ^ 14 := by have := ok.pr.2.1; omega
    exact Nat.lt_of_le_of_lt this (Nat.pow_lt_pow_right (by decide) (by decide))
  refine ⟨⟨⟨rfl, rfl, tT⟩, z, f, rfl, by omega⟩, fun fo efo => ?_⟩
  have efo : fo = Tz z f := efo
  refine ⟨⟨⟨rfl, rfl, tT⟩, z, g, rfl, by omega⟩, fun d ed => ?_⟩
  have ed : d = Tz z g := ed
  have lf : fo.length <= 200 := by rw [efo]; exact Nat.le_trans (Tz_len _ _) hfl
  have lg : d.length <= 200 := by rw [ed]; exact Nat.le_trans (Tz_len _ _) hgl
  have ff : InForm fo := by rw [efo]; exact Tz_form z f
  have fr : ∀ n, pl z (fo.getD n 0) = fo.getD n 0 := by rw [efo]; exact Tz_red z f
  have dr : ∀ n, pl z (d.getD n 0) = d.getD n 0 := by rw [ed]; exact Tz_red z g
  have dne : ¬ d = [] := by rw [ed]; exact ok.ne
  have gc : Int.gcd (lastI d) z = 1 := by rw [ed]; exact ok.gcd
  have hd := lP dne
  have goal : ∀ q r, dvT z fo d = some (q, r) -> PV.tup [.ints q, .ints r] = dvF z (Tz z f) (Tz z g) := fun q r h => by
    rw [<- efo, <- ed]
    unfold dvF
    rw [h]
  have pr := ok.pr
  clear efo ed ok
  refine to_lit (Z' := [.fr (.ob 0 z), .fr (.ints f), .fr (.ints g), .ow (.ints fo), .fr (.ints d), .un, .un, .un, .un, .un]) rfl ?_
  refine ⟨.inl rfl, fun q => ?_, fun _ => ?_⟩
  . have q : ¬ ¬ d = [] := q
    exact q dne
  refine ⟨⟨⟨⟨tT, tT⟩, tT⟩, ⟨⟨.inr (.inl rfl), .inl rfl⟩, tT⟩, ?_, ?_⟩, fun q0 eq0 => ?_⟩
  . show -(2 : Int) ^ 63 <= (fo.length : Int) - (d.length : Int) + 1
    omega
  . show ((fo.length : Int) - (d.length : Int) + 1).toNat <= 1000
    omega
  have eq0 : q0 = List.replicate ((fo.length : Int) - (d.length : Int) + 1).toNat 0 := eq0
  have en : ((fo.length : Int) - (d.length : Int) + 1).toNat = fo.length + 1 - d.length := by omega
  rw [en] at eq0
  refine ⟨fun Z => ∃ q r v6 v7 v8 v9 fuel, Z = [.fr (.ob 0 z), .fr (.ints f), .fr (.ints g), .ow (.ints r), .fr (.ints d), .ow (.ints q), v6, v7, v8, v9] /\ DInv z fo d q r /\ r.length < fuel /\ dvN z (ovp z) d fuel q r = dvT z fo d, fun Z => (getL Z 3).length, ⟨q0, fo, .un, .un, .un, .un, fo.length + 1, rfl, by rw [eq0]; exact DInv.start ff fr, Nat.lt_succ_self _, by rw [eq0]; rfl⟩, ?_⟩
  rintro Z ⟨q, r, v6, v7, v8, v9, fuel, rfl, I, hfu, hdv⟩
  refine ⟨⟨.inr (.inl rfl), .inl rfl⟩, fun k => ?_, fun k => ?_⟩
  . have k : (d.length : Int) <= (r.length : Int) := k
    have hl : d.length <= r.length := by omega
    have rl := I.rl
    obtain ⟨fuel, rfl⟩ : ∃ n, fuel = n + 1 := ⟨fuel - 1, by omega⟩
    rw [dv_more hl] at hdv
    refine ⟨⟨.inr (.inl rfl), .inl rfl⟩, fun gap egap => ?_⟩
    have egap : gap = (r.length : Int) - (d.length : Int) := egap
    have egap : gap = ((r.length - d.length : Nat) : Int) := by omega
    subst egap
    have lr : r.getD (ixO r.length (-1)) 0 = lastI r := last_ix r (by omega)
    have ld : d.getD (ixO d.length (-1)) 0 = lastI d := last_ix d hd
    have fo_r := FO_r (C := cNO) (z := z) (x := lastI r) gc
    have rs := red_s pr (I.rr (r.length - 1))
    have r9 : (lastI r).natAbs < 2 ^ 9000 := by
      have : (lastI r).natAbs <= 2 ^ 14 := by unfold lastI; omega
      exact Nat.lt_of_le_of_lt this (Nat.pow_lt_pow_right (by decide) (by decide))
    have eF : F_O cNO z [r.getD (ixO r.length (-1)) 0, d.getD (ixO d.length (-1)) 0] = .inl (pl z (lastI r * tu (lastI d) z)) := by rw [lr, ld]; exact fo_r
    obtain ⟨c, hc⟩ : ∃ c, c = pl z (lastI r * tu (lastI d) z) := ⟨_, rfl⟩
    rw [<- hc] at eF hdv
    refine ⟨⟨⟨⟨rfl, ⟨⟨.inr (.inl rfl), tT, by show -(r.length : Int) <= -1; omega, by show (-1 : Int) < (r.length : Int); omega⟩, ⟨.inl rfl, tT, by show -(d.length : Int) <= -1; omega, by show (-1 : Int) < (d.length : Int); omega⟩, tT⟩, tT, ?_⟩, ?_⟩, ?_⟩, fun c' ec' => ?_⟩
    . show preO z [r.getD (ixO r.length (-1)) 0, d.getD (ixO d.length (-1)) 0]
      rw [lr]
      exact ⟨p2, h9, r9⟩
    . show (toRs (F_O cNO z [r.getD (ixO r.length (-1)) 0, d.getD (ixO d.length (-1)) 0])).isV
      rw [eF]
      exact tT
    . show (toRs (F_O cNO z [r.getD (ixO r.length (-1)) 0, d.getD (ixO d.length (-1)) 0])).get = .int (pvI (toRs (F_O cNO z [r.getD (ixO r.length (-1)) 0, d.getD (ixO d.length (-1)) 0])).get)
      rw [eF]
      rfl
    have ec' : c' = pvI (toRs (F_O cNO z [r.getD (ixO r.length (-1)) 0, d.getD (ixO d.length (-1)) 0])).get := ec'
    rw [eF] at ec'
    have ec' : c' = c := ec'
    subst ec'
    obtain ⟨h1, h2⟩ := hov p2 gc _ _ (I.rr (r.length - 1)) (show ovp z (lastI r) (lastI d) = some c' by rw [hc]; rfl)
    obtain ⟨J, hlt⟩ := I.step hd hl h1 h2
    have cs := red_s pr h2
    have ql := I.ql
    refine to_lit (Z' := [.fr (.ob 0 z), .fr (.ints f), .fr (.ints g), .ow (.ints r), .fr (.ints d), .ow (.ints q), .fr (.int ((r.length - d.length : Nat) : Int)), .fr (.int c'), v8, v9]) rfl ?_
    have ix5 : ixO q.length ((r.length - d.length : Nat) : Int) = r.length - d.length := by unfold ixO; rw [if_pos (by omega)]; omega
    refine ⟨rfl, rfl, rfl, ⟨by show -(q.length : Int) <= ((r.length - d.length : Nat) : Int); omega, by show ((r.length - d.length : Nat) : Int) < (q.length : Int); omega⟩, ?_⟩
    refine to_lit (Z' := [.fr (.ob 0 z), .fr (.ints f), .fr (.ints g), .ow (.ints r), .fr (.ints d), .ow (.ints (q.set (r.length - d.length) c')), .fr (.int ((r.length - d.length : Nat) : Int)), .fr (.int c'), v8, v9]) (by rw [<- ix5]; rfl) ?_
    refine ⟨rfl, fun i Z => ∃ row v8 v9, Z = [.fr (.ob 0 z), .fr (.ints f), .fr (.ints g), .ow (.ints row), .fr (.ints d), .ow (.ints (q.set (r.length - d.length) c')), .fr (.int ((r.length - d.length : Nat) : Int)), .fr (.int c'), v8, v9] /\ TakeAt z d r c' i row, ⟨r, v8, v9, rfl, take_start z d r c'⟩, ?_, ?_⟩
    . rintro i n Z hn ⟨row, v8, v9, rfl, ht⟩
      have hn : d[i]? = some n := hn
      have hi := (List.getElem?_eq_some_iff.mp hn).1
      have en : d.getD i 0 = n := getD_at' hn
      have l1 : -(row.length : Int) <= ((r.length - d.length : Nat) : Int) + (i : Int) := by omega
      have l2 : ((r.length - d.length : Nat) : Int) + (i : Int) < (row.length : Int) := by rw [ht.1]; omega
      have ix : ixO row.length (((r.length - d.length : Nat) : Int) + (i : Int)) = r.length - d.length + i := by unfold ixO; rw [if_pos (by omega)]; omega
      have ns := red_s pr (dr i)
      rw [en] at ns
      refine ⟨⟨rfl, ⟨⟨⟨.inr (.inl rfl), ⟨rfl, rfl⟩, l1, l2⟩, rfl, rfl, mul_okR ⟨by show -(2 : Int) ^ 64 < n; omega, by show n < (2 : Int) ^ 64; omega⟩⟩, tT⟩, tT, tT⟩, rfl, ⟨rfl, rfl⟩, ⟨l1, l2⟩, row.set (r.length - d.length + i) (pl z (row.getD (r.length - d.length + i) 0 - c' * n)), .fr (.int i), .fr (.int n), ?_, ?_⟩
      . rw [<- ix]; rfl
      . have := take_step ht hl hi
        rw [en] at this
        exact this
    . rintro Z ⟨row, v8, v9, rfl, ht⟩
      have ht : TakeAt z d r c' d.length row := ht
      have et := take_end ht hl
      refine ⟨rfl, tT, ⟨q.set (r.length - d.length) c', nextR z d r c', .fr (.int ((r.length - d.length : Nat) : Int)), .fr (.int c'), v8, v9, fuel, ?_, J, by omega, hdv⟩, ?_⟩
      . rw [<- et]; rfl
      . show (trimZ row).length < r.length
        rw [et]
        exact hlt
  . have k : ¬ (d.length : Int) <= (r.length : Int) := k
    obtain ⟨fuel, rfl⟩ : ∃ n, fuel = n + 1 := ⟨fuel - 1, by omega⟩
    rw [dv_done (by omega)] at hdv
    exact ⟨⟨rfl, rfl, tT⟩, goal q r hdv.symm⟩
def Bd (r : List Int) : Prop := ∀ m ∈ r, m.natAbs < 2 ^ 9000
theorem small_bd {m : Int} (h : 0 <= m /\ m < 9973) : m.natAbs < 2 ^ 9000 := by
  have : m.natAbs <= 2 ^ 14 := by omega
  exact Nat.lt_of_le_of_lt this (Nat.pow_lt_pow_right (by decide) (by decide))
theorem dvF_eq {p : Int} {g : List Int} (h : DOk p g) (f : List Int) : ∃ q, dvF p (Tz p f) (Tz p g) = .tup [.ints q, .ints (rm p (Tz p g) f)] := by
  obtain ⟨q, e, _⟩ := dv_rest h f
  exact ⟨q, by unfold dvF; rw [e]⟩
theorem p_nine {p : Int} (hp : IsP p) : 0 <= p /\ p < ((2 ^ 9000 : Nat) : Int) := by
  have h1 := hp.1
  have h2 := hp.2.1
  have h3 : (2 : Nat) ^ 14 <= 2 ^ 9000 := Nat.pow_le_pow_right (by decide) (by decide)
  generalize (2 : Nat) ^ 9000 = N at *
  omega
def pdown : Nat -> Int
  | 0 => 2
  | n + 1 => if isP ((n : Int) + 1) = true then (n : Int) + 1 else pdown n
theorem pdown_isP : ∀ n, IsP (pdown n)
  | 0 => isP2
  | n + 1 => by
    unfold pdown
    by_cases h : isP ((n : Int) + 1) = true
    . rw [if_pos h]; exact isP_iff.mp h
    . rw [if_neg h]; exact pdown_isP n
theorem pdown_hit {m : Int} (h : 2 <= m) (hp : isP m = true) : pdown m.toNat = m := by
  obtain ⟨k, rfl⟩ : ∃ k : Nat, m = (k : Int) + 1 := ⟨(m - 1).toNat, by omega⟩
  have e : ((k : Int) + 1).toNat = k + 1 := by omega
  rw [e]
  unfold pdown
  rw [if_pos hp]
theorem pdown_miss {m : Int} (h : 2 <= m) (hp : ¬ isP m = true) : pdown m.toNat = pdown (m - 1).toNat := by
  obtain ⟨k, rfl⟩ : ∃ k : Nat, m = (k : Int) + 1 := ⟨(m - 1).toNat, by omega⟩
  have e : ((k : Int) + 1).toNat = k + 1 := by omega
  have e2 : ((k : Int) + 1 - 1).toNat = k := by omega
  rw [e, e2]
  show (if isP ((k : Int) + 1) = true then (k : Int) + 1 else pdown k) = pdown k
  rw [if_neg hp]
def preP : List Int -> Prop := fun ns => match ns with
  | [n] => 2 <= n /\ n <= 9973
  | _ => False
theorem ok_law_divided (T : Top K mg cNO cK cR) : Ok P w K mg base 1 "_law_divided" ["_law_number"] (spB 1 preP fun ns => !F_P ns) := by
  refine Def.ok T.d_law_divided sc_law_divided (fun vs H Q E h => ?_) (fun f cdv A outer s H vs Q E hr h => ?_)
  . obtain ⟨ns, hl, rfl, _⟩ := h
    rw [List.length_map, hl]; rfl
  obtain ⟨ns, hl, rfl, hp, k⟩ := h
  obtain ⟨n, rfl⟩ := len1 hl
  have h : 2 <= n /\ n <= 9973 := hp
  refine ⟨_, (pss_cons (ps_setN (i := 1) sc_law_divided.nd rfl (Or.inl rfl) pn_int)
 (pss_cons (ps_whileP PassesOwn.never (ptn_le (pn_mul (pn_var 1) (pn_var 1)) (pn_var 0))
 (pss_cons (ps_ifP (ptn_eq (pn_mod (pn_var 0) (pn_var 1)) pn_int)
 (pss_one (ps_ret pe_bl))
 pss_nil)
 (pss_one (ps_setN (i := 1) sc_law_divided.nd rfl (Or.inl rfl) (pn_add (pn_var 1) pn_int)))))
 (pss_one (ps_ret pe_bl)))), ?_⟩
  have k : Q (.bl (!isP n)) H := k
  refine ⟨by walk_at "pn", fun d0 e0 => ?_⟩
  have e0 : d0 = 2 := e0
  subst e0
  refine ⟨fun σ H' => ∃ d, σ = [some (.int n), some (.int d)] /\ H' = H /\ 2 <= d /\ d <= 10000 /\ Clean n d, fun σ _ => (10001 - gI σ 1).toNat, ⟨2, rfl, rfl, by omega, by omega, fun e h1 h2 => by omega⟩, ?_⟩
  rintro σ H' ⟨d, rfl, rfl, h2, h3, cl⟩
  refine ⟨⟨⟨rfl, rfl, mul_okR ⟨?_, ?_⟩⟩, rfl⟩, fun c => ?_, fun c => ?_⟩
  . show -(2 : Int) ^ 64 < d
    omega
  . show d < (2 : Int) ^ 64
    omega
  . have c : d * d <= n := c
    have := sq_ge h2
    refine ⟨⟨⟨rfl, rfl, by show (0 : Int) < d; omega⟩, tT⟩, fun hit => ?_, fun hit => ?_⟩
    . have hit : n % d = 0 := hit
      rw [isP_false (fun q => q.2.2 d h2 c hit)] at k
      exact k
    . have hit : ¬ n % d = 0 := hit
      refine ⟨⟨rfl, tT⟩, fun m e => ?_⟩
      have e : m = d + 1 := e
      subst e
      exact ⟨⟨d + 1, rfl, rfl, by omega, by omega, cl.next hit⟩, by show (10001 - (d + 1)).toNat < (10001 - d).toNat; omega⟩
  . have c : ¬ d * d <= n := c
    rw [isP_true (.out cl h2 (by omega) (by omega) c)] at k
    exact k
theorem kx_law_divided (T : Top K mg cNO cK cR) : Ok P w K mg base 1 "_law_divided" ["_law_number"] (spFB K (GkR cR) (fun as => areI as /\ as.length = 1 /\ preP (allI as)) fun as => !F_P (allI as)) := liftB (ok_law_divided T)
theorem isP_dvd {p : Int} (h : IsP p) {d : Nat} (hd : (d : Int) ∣ p) : d = 1 \/ (d : Int) = p := by
  obtain ⟨h2, _, hn⟩ := h
  obtain ⟨c, hc⟩ := hd
  by_cases d1 : d = 1
  . exact .inl d1
  have d0 : d ≠ 0 := fun z => by rw [z] at hc; simp at hc; omega
  have c0 : 0 < c := by
    rcases Int.lt_or_le 0 c with h | h
    . exact h
    . have := Int.mul_nonpos_of_nonneg_of_nonpos (show (0 : Int) <= d by omega) h
      omega
  by_cases c1 : c = 1
  . right; rw [hc, c1, Int.mul_one]
  exfalso
  by_cases le : (d : Int) <= c
  . have sq : (d : Int) * d <= p := by rw [hc]; exact Int.mul_le_mul_of_nonneg_left le (by omega)
    exact hn d (by omega) sq (by rw [hc]; exact Int.mul_emod_right _ _)
  . have sq : c * c <= p := by rw [hc]; exact Int.mul_le_mul_of_nonneg_right (by omega) (by omega)
    exact hn c (by omega) sq (by rw [hc]; exact Int.mul_emod_left _ _)
theorem gcd_pow {p b : Int} (h : IsP p) (hb : ¬ b % p = 0) (m : Nat) : Int.gcd b (p ^ m) = 1 := by
  have g1 : Int.gcd b p = 1 := by
    rcases isP_dvd h (d := Int.gcd b p) (Int.gcd_dvd_right ..) with g | g
    . exact g
    . exfalso
      have := Int.gcd_dvd_left b p
      rw [g] at this
      exact hb (Int.emod_eq_zero_of_dvd this)
  unfold Int.gcd at g1 ⊢
  rw [Int.natAbs_pow]
  exact Nat.Coprime.pow_right m g1
theorem isP3 : IsP 3 := ⟨by omega, by omega, fun d h1 h2 => by have := sq_mono (d := 2) (e := d) (by omega) h1; omega⟩
theorem isP5 : IsP 5 := ⟨by omega, by omega, fun d h1 h2 => by
  by_cases c : d = 2
  . rw [c]; decide
  . have := sq_mono (d := 3) (e := d) (by omega) (by omega); omega⟩
theorem isP7 : IsP 7 := ⟨by omega, by omega, fun d h1 h2 => by
  by_cases c : d = 2
  . rw [c]; decide
  . have := sq_mono (d := 3) (e := d) (by omega) (by omega); omega⟩
def primeN (c : Int) : Int := if c % 2 = 0 then ([2, 3, 5, 7] : List Int).getD (ixO 4 (c / 2 % 4)) 0 else pdown (2 + c / 2 * 48271 % 9972).toNat
theorem primeN_isP (c : Int) : IsP (primeN c) := by
  unfold primeN
  split
  . have k : c / 2 % 4 = 0 \/ c / 2 % 4 = 1 \/ c / 2 % 4 = 2 \/ c / 2 % 4 = 3 := by omega
    rcases k with k | k | k | k <;> rw [k]
    . exact isP2
    . exact isP3
    . exact isP5
    . exact isP7
  . exact pdown_isP _
theorem kx_prime_by (T : Top K mg cNO cK cR) : Ok P w K mg base 2 "_law_prime_by" ["_law_cell"] (spFI K (GkR cR) (fun as => ∃ c, as = [.int c]) fun as => match as with
    | [.int c] => primeN c
    | _ => 0) := by
  refine okF T.d_prime_by sc_prime_by (fun as ⟨c, h⟩ => by rw [h]; rfl) (fun f cdv A outer s H E hr => ⟨_, (xss_cons (xst_if (xt_eq (xn_mod (xn 0) xn_int) xn_int)
 (xss_one (xst_ret (xn_of (xp_item (newL (xl_lst (xa_cons xn_int (xa_cons xn_int (xa_cons xn_int (xa_cons xn_int xa_nil)))))) (xn_mod (xn_div (xn 0) xn_int) xn_int) (fun _ _ => rfl)))))
 xss_nil)
 (xss_cons (xst_setI (i := 1) sc_prime_by.nd rfl (Or.inl rfl) (xn_add xn_int (xn_mod (xn_mul (xn_div (xn 0) xn_int) xn_int) xn_int)))
 (xss_cons (xst_while PassesOwn.never (xt_V (xcb (kx_law_divided T) hr (xa_cons (xn 1) xa_nil)))
 (xss_one (xst_setI (i := 1) sc_prime_by.nd rfl (Or.inl rfl) (xn_sub (xn 1) xn_int))))
 (xss_one (xst_ret (xn 1)))))), fun as hp => ?_⟩)
  obtain ⟨c, rfl⟩ := hp
  refine ⟨by walk_at "xs", fun q => ?_, fun q => ?_⟩
  . have q : c % 2 = 0 := q
    refine ⟨⟨⟨⟨⟨tT, tT, tT, tT, tT⟩, tT⟩, by walk_at "xs", ?_⟩, rfl⟩, ?_⟩
    . show -(4 : Int) <= c / 2 % 4 /\ c / 2 % 4 < 4
      omega
    . show PV.int (([2, 3, 5, 7] : List Int).getD (ixO 4 (c / 2 % 4)) 0) = PV.int (primeN c)
      unfold primeN
      rw [if_pos q]
  have q : ¬ c % 2 = 0 := q
  refine ⟨⟨tT, ⟨by walk_at "xs", tT, mul_okR (by decide)⟩, tT, by show (0 : Int) < 9972; decide⟩, fun n0 en0 => ?_⟩
  have en0 : n0 = 2 + c / 2 * 48271 % 9972 := en0
  have goal : pdown n0.toNat = primeN c := by
    unfold primeN
    rw [if_neg q, en0]
  have b0 : 2 <= n0 /\ n0 <= 9973 := by omega
  clear en0
  refine ⟨fun Z => ∃ m, Z = [.fr (.int c), .fr (.int m)] /\ 2 <= m /\ m <= 9973 /\ pdown m.toNat = primeN c, fun Z => (getI Z 1).toNat, ⟨n0, rfl, b0.1, b0.2, goal⟩, ?_⟩
  rintro Z ⟨m, rfl, g1, g2, g3⟩
  refine ⟨⟨⟨rfl, tT⟩, tT, rfl, ⟨g1, g2⟩⟩, fun r => ?_, fun r => ?_⟩
  . have r : (!isP m) = true := r
    have r : ¬ isP m = true := by rw [Bool.not_eq_true'] at r; rw [r]; decide
    have m2 : m ≠ 2 := fun z => r (by rw [z]; exact isP_true isP2)
    refine ⟨⟨rfl, tT⟩, fun u e => ?_⟩
    have e : u = m - 1 := e
    subst e
    exact ⟨⟨m - 1, rfl, by omega, by omega, by rw [<- pdown_miss g1 r]; exact g3⟩, by show (m - 1).toNat < m.toNat; omega⟩
  . have r : ¬ (!isP m) = true := r
    have r : isP m = true := by
      cases z : isP m with
      | true => rfl
      | false => exact absurd (by rw [z]; rfl) r
    refine ⟨rfl, ?_⟩
    show PV.int m = PV.int (primeN c)
    rw [<- g3, pdown_hit g1 r]
theorem kx_form (T : Top K mg cNO cK cR) : Ok P w K mg base 1 "_law_form" ["_law_row", "_law_prime"] (spL K (GkR cR) (fun as => ∃ f p, as = [.ints f, .int p] /\ 0 < p /\ f.length <= 1000) fun as => match as with
    | [.ints f, .int p] => Tz p f
    | _ => []) := by
  refine okL T.d_form sc_form (fun as ⟨a, b, h, _⟩ => by rw [h]; rfl) (fun f cdv A outer s H E hr => ⟨_, (xss_cons (xst_lcL (i := 0) sc_form.nd rfl rfl (N' := ["_law_number", "_law_prime"]) (cap := [some 1]) (lc_ok rfl rfl rfl rfl ⟨⟨rfl, Or.inr (Or.inl rfl), (fun z => nomatch (show (some NameKind.cell : Option NameKind) = some NameKind.local from z)), Or.inl rfl, _, rfl, rfl⟩, tT⟩ ⟨rfl, tT⟩ rfl) rfl (xl 0) (fun _ _ _ => (pg_name (i := 0) (show (["_law_number", "_law_prime"] : List Str).Nodup by decide +kernel) rfl (Or.inl rfl) (.inr rfl))) (fun _ _ _ => (xn_mod (xn 0) (xn 1))) rfl)
 (xss_cons (xst_while PassesOwn.never (L2.PW.pt (xw_and (xt_neL hr.units (rlO 0) (rdX (newL (xl_lst xa_nil)))) (xw_and1 (xt_eq (xn_item 0 (xn_neg xn_int) (fun _ _ => rfl)) xn_int))))
 (xss_one (xst_pop 0)))
 (xss_one (xst_retO 0)))), fun as hp => ?_⟩)
  obtain ⟨f, p, rfl, hp, hf⟩ := hp
  refine ⟨⟨rfl, hf, fun n hn => ⟨rfl, rfl, hp⟩⟩, fun ns e => ?_⟩
  have e : ns = f.map fun n => n % p := e
  have e : ns = f.map (pl p) := by
    rw [e]
    exact List.map_congr_left fun n _ => (pl_pos hp).symm
  refine ⟨fun Z => ∃ ms, Z = [.ow (.ints ms), .fr (.int p)] /\ trimZ ms = trimZ ns, fun Z => (getL Z 0).length, ⟨ns, rfl, rfl⟩, ?_⟩
  rintro Z ⟨ms, rfl, hm⟩
  refine ⟨⟨⟨.inr rfl, tT, tT⟩, fun h => ⟨⟨.inr (.inl rfl), tT, ?_, ?_⟩, tT⟩⟩, fun q => ?_, fun q => ?_⟩
  . have h : ¬ ms = [] := h
    have := lP h
    show -(ms.length : Int) <= -1
    omega
  . show (-1 : Int) < (ms.length : Int)
    omega
  . have q : ¬ ms = [] /\ ms.getD (ixO ms.length (-1)) 0 = 0 := q
    have hne : ms ≠ [] := q.1
    rw [last_at ms hne] at q
    have := lP hne
    refine ⟨rfl, hne, ⟨_, rfl, ?_⟩, ?_⟩
    . rw [<- hm]; exact trimZ_step hne q.2
    . show ms.dropLast.length < ms.length
      rw [List.length_dropLast]
      omega
  . have q : ¬ (¬ ms = [] /\ ms.getD (ixO ms.length (-1)) 0 = 0) := q
    refine ⟨rfl, ?_⟩
    show ms = trimZ (f.map (pl p))
    rw [<- e, <- hm, trimZ_done]
    rintro ⟨a, b⟩
    exact q ⟨a, by rw [last_at ms a]; exact b⟩
theorem row_plus {p : Int} {row : List Int} {n : Nat} {x : Int} : (row.map (pl p)).set n (pl p ((row.map (pl p)).getD n 0 + x)) = (row.set n (row.getD n 0 + x)).map (pl p) := by
  rw [getD_map _ (pl_0 p), pl_add, List.map_set]
theorem kx_law_times (T : Top K mg cNO cK cR) : Ok P w K mg base 2 "_law_times" ["_law_one", "_law_other", "_law_prime"] (spL K (GkR cR) (fun as => ∃ f g p, as = [.ints f, .ints g, .int p] /\ 0 < p /\ f.length + g.length <= 1000 /\ Bd f /\ Bd g) fun as => match as with
    | [.ints f, .ints g, .int p] => Tz p (convL f g)
    | _ => []) := by
  refine okL T.d_law_times sc_law_times (fun as ⟨a, b, c, h, _⟩ => by rw [h]; rfl) (fun f cdv A outer s H E hr => ⟨_, (xss_cons (xst_own (i := 3) sc_law_times.nd rfl (Or.inl rfl) (xl_rep (xl_lst (xa_cons xn_int xa_nil)) (xn_add (xn_len 0 T.b_len) (xn_len 1 T.b_len)) (fun _ => rfl)))
 (xss_cons (xst_forR (k := 4) PassesOwn.never rfl (by rfl) T.b_range (xn_len 0 T.b_len) sc_law_times.nd rfl (Or.inl rfl)
 (xss_one (xst_forR (k := 5) PassesOwn.never rfl (by rfl) T.b_range (xn_len 1 T.b_len) sc_law_times.nd rfl (Or.inl rfl)
 (xss_one (xst_setit 3 (xn_add (xn 4) (xn 5)) (xn_mod (xn_add (xn_item 3 (xn_add (xn 4) (xn 5)) (fun _ _ => rfl)) (xn_mul (xn_item 0 (xn 4) (fun _ _ => rfl)) (xn_item 1 (xn 5) (fun _ _ => rfl)))) (xn 2)))))))
 (xss_freeze 3 (xss_one (xst_retl (xcl (kx_form T) hr (xa_cons (xl 3) (xa_cons (xn 2) xa_nil)))))))), fun as hp => ?_⟩)
  obtain ⟨f, g, z, rfl, hz, hl, hf, hg⟩ := hp
  have en : ((f.length : Int) + (g.length : Int)).toNat = f.length + g.length := by omega
  refine ⟨⟨⟨⟨tT, tT⟩, tT⟩, ⟨.inl rfl, .inl rfl⟩, ?_, ?_⟩, fun r0 er0 => ?_⟩
  . show -(2 : Int) ^ 63 <= (f.length : Int) + (g.length : Int)
    omega
  . show ((f.length : Int) + (g.length : Int)).toNat <= 1000
    omega
  have er0 : r0 = List.replicate (f.length + g.length) 0 := by rw [<- en]; exact er0
  have er1 : r0 = (List.replicate (f.length + g.length) (0 : Int)).map (pl z) := by rw [er0, List.map_replicate, pl_0]
  refine ⟨.inl rfl, ⟨by show -(2 : Int) ^ 62 <= (f.length : Int); omega, by show (f.length : Int) < 2 ^ 62; omega⟩, fun i Z => ∃ row v1 v2, Z = [.fr (.ints f), .fr (.ints g), .fr (.int z), .ow (.ints (row.map (pl z))), v1, v2] /\ RowAt f g i 0 row, ⟨_, .un, .un, by rw [er1]; rfl, row_start f g⟩, ?_, ?_⟩
  . rintro i Z hi ⟨row, v1, v2, rfl, hr⟩
    have hi : i < f.length := by have hi : i < (f.length : Int).toNat := hi; omega
    refine ⟨.inl rfl, ⟨by show -(2 : Int) ^ 62 <= (g.length : Int); omega, by show (g.length : Int) < 2 ^ 62; omega⟩, fun j Z => ∃ row v2, Z = [.fr (.ints f), .fr (.ints g), .fr (.int z), .ow (.ints (row.map (pl z))), .fr (.int i), v2] /\ RowAt f g i j row, ⟨row, v2, rfl, hr⟩, ?_, ?_⟩
    . rintro j Z hj ⟨row, v2, rfl, hr⟩
      have hj : j < g.length := by have hj : j < (g.length : Int).toNat := hj; omega
      have ml : (row.map (pl z)).length = row.length := List.length_map _
      have l1 : -((row.map (pl z)).length : Int) <= (i : Int) + (j : Int) := by omega
      have l2 : (i : Int) + (j : Int) < ((row.map (pl z)).length : Int) := by have := hr.1; omega
      have ix : ixO (row.map (pl z)).length ((i : Int) + (j : Int)) = i + j := by unfold ixO; rw [if_pos (by omega)]; omega
      have xi : ixO f.length (i : Int) = i := by unfold ixO; rw [if_pos (by omega)]; omega
      have xj : ixO g.length (j : Int) = j := by unfold ixO; rw [if_pos (by omega)]; omega
      have mi : f.getD i 0 ∈ f := FM.getD_mem hi
      have mj : g.getD j 0 ∈ g := FM.getD_mem hj
      refine ⟨⟨⟨⟨.inr (.inl rfl), ⟨rfl, rfl⟩, l1, l2⟩, ⟨.inl rfl, rfl, by show -(f.length : Int) <= (i : Int); omega, by show (i : Int) < (f.length : Int); omega⟩, ⟨.inl rfl, rfl, by show -(g.length : Int) <= (j : Int); omega, by show (j : Int) < (g.length : Int); omega⟩, ?_⟩, rfl, hz⟩, rfl, ⟨rfl, rfl⟩, ⟨l1, l2⟩, row.set (i + j) (row.getD (i + j) 0 + f.getD i 0 * g.getD j 0), .fr (.int j), ?_, row_step hr hi hj⟩
      . show IntMulOk (f.getD (ixO f.length (i : Int)) 0) (g.getD (ixO g.length (j : Int)) 0)
        rw [xi, xj]
        exact mul_ok (n := 9000) (m := 9000) (hf _ mi) (hg _ mj)
      . show [Sl.fr (.ints f), .fr (.ints g), .fr (.int z), .ow (.ints ((row.map (pl z)).set (ixO (row.map (pl z)).length ((i : Int) + (j : Int))) (((row.map (pl z)).getD (ixO (row.map (pl z)).length ((i : Int) + (j : Int))) 0 + f.getD (ixO f.length (i : Int)) 0 * g.getD (ixO g.length (j : Int)) 0) % z))), .fr (.int i), .fr (.int j)] = _
        rw [ix, xi, xj, <- pl_pos hz, row_plus]
    . rintro Z ⟨row, v2, rfl, hr⟩
      have e : (g.length : Int).toNat = g.length := by omega
      have hr : RowAt f g i (g.length : Int).toNat row := hr
      rw [e] at hr
      exact ⟨row, _, v2, rfl, row_next hr⟩
  . rintro Z ⟨row, v1, v2, rfl, hr⟩
    have e : (f.length : Int).toNat = f.length := by omega
    have hr : RowAt f g (f.length : Int).toNat 0 row := hr
    rw [e] at hr
    have er := row_end hr
    refine ⟨⟨⟨rfl, rfl, tT⟩, row.map (pl z), z, rfl, hz, ?_⟩, ?_⟩
    . rw [List.length_map, hr.1]; omega
    . show Tz z (row.map (pl z)) = Tz z (convL f g)
      rw [er]
      exact trim_pl fun n => by rw [getD_map _ (pl_0 z), pl_pl]
theorem cm_one (f : List Int) (n : Nat) : cm f [1] n = f.getD n 0 := by
  rw [cm_comm, cm_consL]
  by_cases c : n = 0
  . rw [if_pos c, Int.one_mul, Int.add_zero]
  . rw [if_neg c, cm_nil, Int.one_mul, Int.add_zero]
def Sm (a b : List Int) : Prop := ∀ n, a.getD n 0 = b.getD n 0
theorem Sm.eqm {p : Int} {d a b : List Int} (h : Sm a b) : EqM p d a b := .of fun n => by rw [h n, Int.sub_self]; exact Int.dvd_zero p
def scl (c : Int) (a : List Int) : List Int := a.map fun x => c * x
theorem scl_get (c : Int) (a : List Int) (n : Nat) : (scl c a).getD n 0 = c * a.getD n 0 := getD_map _ (Int.mul_zero c) a n
theorem EqM.add {p : Int} {d a b c e : List Int} (h : EqM p d a b) (k : EqM p d c e) : EqM p d (addL a c) (addL b e) := by
  obtain ⟨Q, h⟩ := h
  obtain ⟨S, k⟩ := k
  refine ⟨addL Q S, fun n => ?_⟩
  rw [cm_addL, addL_get, addL_get]
  have e : a.getD n 0 + c.getD n 0 - (b.getD n 0 + e.getD n 0) - (cm Q d n + cm S d n) = (a.getD n 0 - b.getD n 0 - cm Q d n) + (c.getD n 0 - e.getD n 0 - cm S d n) := by omega
  rw [e]
  exact Int.dvd_add (h n) (k n)
theorem EqM.sclE {p : Int} {d a b : List Int} (c : Int) (h : EqM p d a b) : EqM p d (scl c a) (scl c b) := by
  obtain ⟨Q, h⟩ := h
  refine ⟨scl c Q, fun n => ?_⟩
  have e1 : cm (scl c Q) d n = c * cm Q d n := by
    unfold cm
    rw [<- sm_mulL]
    exact sm_congr fun i _ => by rw [scl_get, Int.mul_assoc]
  rw [e1, scl_get, scl_get, <- Int.mul_sub, <- Int.mul_sub]
  exact Int.dvd_mul_of_dvd_right (h n)
def Dv (p : Int) (d a : List Int) : Prop := EqM p d a []
def Lc (p : Int) (f g r : List Int) : Prop := ∃ s t : List Int, ∀ n, p ∣ r.getD n 0 - (cm s f n + cm t g n)
theorem cm_1 (f : List Int) (n : Nat) : cm [1] f n = f.getD n 0 := by rw [cm_comm, cm_one]
theorem cm_c (c : Int) (f : List Int) (n : Nat) : cm [c] f n = c * f.getD n 0 := by
  rw [cm_consL]
  by_cases h : n = 0
  . rw [if_pos h, Int.add_zero]
  . rw [if_neg h, cm_nil, Int.add_zero]
theorem Lc.left (p : Int) (f g : List Int) : Lc p f g f := ⟨[1], [], fun n => by rw [cm_1, cm_nil, Int.add_zero, Int.sub_self]; exact Int.dvd_zero p⟩
theorem Lc.right (p : Int) (f g : List Int) : Lc p f g g := ⟨[], [1], fun n => by rw [cm_1, cm_nil, Int.zero_add, Int.sub_self]; exact Int.dvd_zero p⟩
theorem Lc.add {p : Int} {f g r s : List Int} (h : Lc p f g r) (k : Lc p f g s) : Lc p f g (addL r s) := by
  obtain ⟨a, b, h⟩ := h
  obtain ⟨c, d, k⟩ := k
  refine ⟨addL a c, addL b d, fun n => ?_⟩
  rw [cm_addL, cm_addL, addL_get]
  have e : r.getD n 0 + s.getD n 0 - (cm a f n + cm c f n + (cm b g n + cm d g n)) = (r.getD n 0 - (cm a f n + cm b g n)) + (s.getD n 0 - (cm c f n + cm d g n)) := by omega
  rw [e]
  exact Int.dvd_add (h n) (k n)
theorem Lc.congr {p : Int} {f g r s : List Int} (h : Lc p f g r) (k : ∀ n, p ∣ s.getD n 0 - r.getD n 0) : Lc p f g s := by
  obtain ⟨a, b, h⟩ := h
  refine ⟨a, b, fun n => ?_⟩
  have e : s.getD n 0 - (cm a f n + cm b g n) = (s.getD n 0 - r.getD n 0) + (r.getD n 0 - (cm a f n + cm b g n)) := by omega
  rw [e]
  exact Int.dvd_add (k n) (h n)
theorem Lc.mul {p : Int} {f g r : List Int} (q : List Int) (h : Lc p f g r) : Lc p f g (convL q r) := by
  obtain ⟨a, b, h⟩ := h
  refine ⟨convL q a, convL q b, fun n => ?_⟩
  have k := cm_left (p := p) (a := r) (b := addL (convL a f) (convL b g)) (c := q) (fun i => by rw [addL_get, convL_get, convL_get]; exact h i) n
  rw [cm_addL, cm_comm r q, cm_comm (convL a f) q, cm_comm (convL b g) q] at k
  rw [convL_get, cm_assoc, cm_assoc]
  exact k
theorem Lc.trans {p : Int} {f g b r x : List Int} (hb : Lc p f g b) (hr : Lc p f g r) (hx : Lc p b r x) : Lc p f g x := by
  obtain ⟨s, t, hx⟩ := hx
  refine ((hb.mul s).add (hr.mul t)).congr fun n => ?_
  rw [addL_get, convL_get, convL_get]
  exact hx n
theorem Dv.of_lc {p : Int} {d f g r : List Int} (hf : Dv p d f) (hg : Dv p d g) (h : Lc p f g r) : Dv p d r := by
  obtain ⟨s, t, h⟩ := h
  have z : ∀ s : List Int, EqM p d (convL [] s) [] := fun s => Sm.eqm fun n => by rw [convL_get, cm_nil]; rfl
  have k : ∀ {f : List Int}, Dv p d f -> ∀ s, EqM p d (convL s f) [] := fun {f} hf s => (EqM.comm p d s f).trans ((EqM.mul hf s).trans (z s))
  have e : EqM p d r (addL (convL s f) (convL t g)) := .of fun n => by rw [addL_get, convL_get, convL_get]; exact h n
  exact e.trans (((k hf s).add (k hg t)).trans (.refl p d _))
theorem Lc.dv {p : Int} {b f : List Int} (h : Lc p b [] f) : Dv p b f := by
  obtain ⟨s, t, h⟩ := h
  refine ⟨s, fun n => ?_⟩
  have k := h n
  rw [cm_comm t [], cm_nil, Int.add_zero] at k
  show p ∣ f.getD n 0 - 0 - cm s b n
  rw [Int.sub_zero]
  exact k
theorem Dv.self (p : Int) (d : List Int) : Dv p d d := (Lc.left p d []).dv
theorem form_nil : InForm [] := fun h => absurd rfl h
theorem last_ne {r : List Int} (h : lastI r = 1) : r ≠ [] := fun e => by
  rw [e] at h
  exact absurd h (by decide)
theorem monic_eq {p : Int} {r s : List Int} (fr : InForm r) (rr : ∀ n, pl p (r.getD n 0) = r.getD n 0) (r1 : r = [] \/ lastI r = 1) (fs : InForm s) (rs : ∀ n, pl p (s.getD n 0) = s.getD n 0) (s1 : s = [] \/ lastI s = 1) (h : Dv p r s) (k : Dv p s r) : r = s := by
  have nilE : ∀ {s : List Int}, InForm s -> (∀ n, pl p (s.getD n 0) = s.getD n 0) -> Dv p [] s -> s = [] := fun {s} fs rs h => by
    obtain ⟨Q, h⟩ := h
    refine form_ext fs form_nil fun n => pl_same (rs n) (by show pl p 0 = 0; exact pl_0 p) ?_
    have := h n
    rw [cm_comm, cm_nil, Int.sub_zero] at this
    exact this
  rcases r1 with r1 | r1
  . subst r1
    exact (nilE fs rs h).symm
  rcases s1 with s1 | s1
  . subst s1
    exact nilE fr rr k
  have shorter : ∀ {r s : List Int}, InForm r -> (∀ n, pl p (r.getD n 0) = r.getD n 0) -> lastI r = 1 -> lastI s = 1 -> Dv p s r -> s.length <= r.length := fun {r s} fr rr r1 s1 k => by
    by_cases c : s.length <= r.length
    . exact c
    . have nz : ∀ x, p ∣ x * lastI s -> p ∣ x := fun x h => by rw [s1, Int.mul_one] at h; exact h
      exact absurd (rest_one nz ⟨fr, rr, by omega⟩ ⟨form_nil, fun n => by show pl p 0 = 0; exact pl_0 p, by show 0 < s.length; omega⟩ k) (last_ne r1)
  have l1 := shorter fr rr r1 s1 k
  have l2 := shorter fs rs s1 r1 h
  have l0 := lP (last_ne r1)
  have nz : ∀ x, p ∣ x * lastI s -> p ∣ x := fun x h => by rw [s1, Int.mul_one] at h; exact h
  have e0 : r.getD (r.length - 1) 0 = 1 := r1
  have e1 : s.getD (s.length - 1) 0 = 1 := s1
  have le : r.length = s.length := by omega
  have tl : (Tz p (subL r s)).length <= r.length - 1 := form_len (Tz_form p _) fun n hn => by
    rw [Tz_get, subL_get]
    by_cases c : n = r.length - 1
    . rw [c, e0, le, e1]
      exact pl_0 p
    . rw [getD_ge (xs := r) (by omega), getD_ge (xs := s) (by omega)]
      exact pl_0 p
  have d : EqM p s (subL r s) [] := by
    have a : Sm (subL r s) (addL r (scl (-1) s)) := fun n => by rw [subL_get, addL_get, scl_get]; omega
    exact a.eqm.trans ((EqM.add k ((Dv.self p s).sclE (-1))).trans (.refl p s _))
  have z := rest_one nz ⟨Tz_form p (subL r s), Tz_red p _, by omega⟩ ⟨form_nil, fun n => by show pl p 0 = 0; exact pl_0 p, by show 0 < s.length; omega⟩ ((EqM.Tz p s _).symm.trans d)
  refine form_ext fr fs fun n => pl_same (rr n) (rs n) ?_
  have e2 : (Tz p (subL r s)).getD n 0 = 0 := by rw [z]; rfl
  rw [Tz_get, subL_get] at e2
  have := pl_dvd p (r.getD n 0 - s.getD n 0)
  rw [e2, Int.zero_sub] at this
  exact Int.dvd_neg.mp this
structure GC (p : Int) (f g r : List Int) : Prop where
  form : InForm r
  red : ∀ n, pl p (r.getD n 0) = r.getD n 0
  one : r = [] \/ lastI r = 1
  lc : Lc p f g r
  d1 : Dv p r f
  d2 : Dv p r g
theorem GC.uniq {p : Int} {f g r s : List Int} (h : GC p f g r) (k : GC p f g s) : r = s :=
  monic_eq h.form h.red h.one k.form k.red k.one (Dv.of_lc h.d1 h.d2 k.lc) (Dv.of_lc k.d1 k.d2 h.lc)
open Classical in
def pick (A : List Int -> Prop) : List Int := if h : ∃ r, A r then Classical.choose h else []
def gc (p : Int) (f g : List Int) : List Int := pick (GC p f g)
theorem gc_eq {p : Int} {f g r : List Int} (h : GC p f g r) : gc p f g = r := by
  have ex : ∃ r, GC p f g r := ⟨r, h⟩
  have e : gc p f g = Classical.choose ex := by unfold gc pick; rw [dif_pos ex]
  rw [e]
  exact (Classical.choose_spec ex).uniq h
structure Idl (p : Int) (f g b r : List Int) : Prop where
  i1 : Lc p f g b
  i2 : Lc p f g r
  i3 : Lc p b r f
  i4 : Lc p b r g
theorem Idl.symm {p : Int} {f g b r : List Int} (h : Idl p f g b r) : Idl p b r f g := ⟨h.i3, h.i4, h.i1, h.i2⟩
theorem Idl.gc {p : Int} {f g b r x : List Int} (h : Idl p f g b r) (k : GC p b r x) : GC p f g x := ⟨k.form, k.red, k.one, Lc.trans h.i1 h.i2 k.lc, Dv.of_lc k.d1 k.d2 h.i3, Dv.of_lc k.d1 k.d2 h.i4⟩
theorem gc_move {p : Int} {f g b r : List Int} (h : Idl p f g b r) : gc p f g = gc p b r := by
  have e : GC p f g = GC p b r := funext fun x => propext ⟨h.symm.gc, h.gc⟩
  show pick (GC p f g) = pick (GC p b r)
  rw [e]
theorem Idl.step {p : Int} {b r c : List Int} (h : EqM p r b c) : Idl p b r r c := by
  obtain ⟨Q, h⟩ := h
  refine ⟨.right p b r, ⟨[1], scl (-1) Q, fun n => ?_⟩, ⟨Q, [1], fun n => ?_⟩, .left p r c⟩
  . have e : cm (scl (-1) Q) r n = -cm Q r n := by
      have k := sm_mulL (-1) (fun i => Q.getD i 0 * r.getD (n - i) 0) (n + 1)
      unfold cm
      rw [Int.neg_one_mul] at k
      rw [<- k]
      exact sm_congr fun i _ => by rw [scl_get, Int.mul_assoc]
    rw [cm_1, e]
    have e2 : c.getD n 0 - (b.getD n 0 + -cm Q r n) = -(b.getD n 0 - c.getD n 0 - cm Q r n) := by omega
    rw [e2]
    exact Int.dvd_neg.mpr (h n)
  . rw [cm_1]
    have e2 : b.getD n 0 - (cm Q r n + c.getD n 0) = b.getD n 0 - c.getD n 0 - cm Q r n := by omega
    rw [e2]
    exact h n
theorem Idl.cong {p : Int} {f g b r : List Int} (h : ∀ n, p ∣ f.getD n 0 - b.getD n 0) (k : ∀ n, p ∣ g.getD n 0 - r.getD n 0) : Idl p f g b r := by
  have neg : ∀ {x y : Int}, p ∣ x - y -> p ∣ y - x := fun {x y} h => by
    have e : y - x = -(x - y) := by omega
    rw [e]
    exact Int.dvd_neg.mpr h
  exact ⟨(Lc.left p f g).congr fun n => neg (h n), (Lc.right p f g).congr fun n => neg (k n), (Lc.left p b r).congr h, (Lc.right p b r).congr k⟩
def tlF (p : Int) (b : List Int) : Int := if b = [] then 1 else pl p (1 * tu (lastI b) p)
def nrm (p : Int) (b : List Int) : List Int := Tz p (b.map fun m => tlF p b * m)
theorem lead_gcd {p : Int} {b : List Int} (hp : IsP p) (fb : InForm b) (rb : ∀ n, pl p (b.getD n 0) = b.getD n 0) (hb : b ≠ []) : Int.gcd (lastI b) p = 1 := by
  have h1 := fb hb
  have h2 := rb (b.length - 1)
  have p2 : 2 <= p := hp.1
  rw [pl_pos (by omega)] at h2
  have h3 : ¬ lastI b % p = 0 := by
    show ¬ b.getD (b.length - 1) 0 % p = 0
    rw [h2]
    exact h1
  have := gcd_pow hp h3 1
  rw [Int.pow_one] at this
  exact this
theorem form_tz {p : Int} {b : List Int} (fb : InForm b) (rb : ∀ n, pl p (b.getD n 0) = b.getD n 0) : Tz p b = b := form_ext (Tz_form p b) fb fun n => by rw [Tz_get, rb n]
theorem nrm_gc {p : Int} {b : List Int} (hp : IsP p) (fb : InForm b) (rb : ∀ n, pl p (b.getD n 0) = b.getD n 0) : GC p b [] (nrm p b) := by
  by_cases hb : b = []
  . subst hb
    have e : nrm p [] = [] := rfl
    rw [e]
    exact ⟨form_nil, rb, .inl rfl, .left p [] [], .self p [], .self p []⟩
  have p2 : 2 <= p := hp.1
  have g := lead_gcd hp fb rb hb
  have one : pl p 1 = 1 := by rw [pl_pos (by omega)]; exact Int.emod_eq_of_lt (by decide) (by omega)
  have e0 : tlF p b = pl p (1 * tu (lastI b) p) := if_neg hb
  obtain ⟨h1, _⟩ := hov p2 g 1 (tlF p b) one (by rw [e0]; rfl)
  have ng : ∀ n, (nrm p b).getD n 0 = pl p (tlF p b * b.getD n 0) := fun n => by
    unfold nrm
    rw [Tz_get, getD_map _ (Int.mul_zero _)]
  have l0 := lP hb
  have k1 : (nrm p b).getD (b.length - 1) 0 = 1 := (ng _).trans h1
  have l1 : (nrm p b).length <= b.length := by
    unfold nrm
    refine Nat.le_trans (Tz_len _ _) ?_
    rw [List.length_map]
    exact Nat.le_refl _
  have l2 : b.length <= (nrm p b).length := by
    by_cases c : b.length <= (nrm p b).length
    . exact c
    . rw [getD_ge (by omega)] at k1
      exact absurd k1 (by decide)
  have le : (nrm p b).length = b.length := by omega
  generalize tlF p b = t at *
  have ht : p ∣ t * lastI b - 1 := by
    have := pl_dvd p (t * lastI b)
    rw [h1] at this
    have e : t * lastI b - 1 = -(1 - t * lastI b) := by omega
    rw [e]
    exact Int.dvd_neg.mpr this
  refine ⟨Tz_form p _, Tz_red p _, .inr ?_, ⟨[t], [], fun n => ?_⟩, ⟨[lastI b], fun n => ?_⟩, .refl p _ _⟩
  . show (nrm p b).getD ((nrm p b).length - 1) 0 = 1
    rw [le]
    exact k1
  . rw [cm_c, cm_nil, Int.add_zero, ng]
    exact pl_dvd p _
  . rw [cm_c, ng]
    show p ∣ b.getD n 0 - 0 - lastI b * pl p (t * b.getD n 0)
    have h2 := pl_dvd p (t * b.getD n 0)
    generalize pl p (t * b.getD n 0) = u at *
    generalize b.getD n 0 = x at *
    generalize lastI b = l at *
    have e : x - 0 - l * u = -((t * l - 1) * x + l * (u - t * x)) := by
      rw [Int.sub_mul, Int.mul_sub, Int.one_mul, Int.mul_comm t l, Int.mul_assoc]
      omega
    rw [e]
    exact Int.dvd_neg.mpr (Int.dvd_add (Int.dvd_mul_of_dvd_left ht) (Int.dvd_mul_of_dvd_right h2))
theorem dok_form {p : Int} {r : List Int} (hp : IsP p) (fr : InForm r) (rr : ∀ n, pl p (r.getD n 0) = r.getD n 0) (hr : r ≠ []) (hl : r.length <= 200) : DOk p r := by
  have e := form_tz fr rr
  exact ⟨hp, hl, by rw [e]; exact hr, by rw [e]; exact lead_gcd hp fr rr hr⟩
theorem gc_ex {p : Int} (hp : IsP p) : ∀ (k : Nat) (b r : List Int), r.length <= k -> InForm b -> (∀ n, pl p (b.getD n 0) = b.getD n 0) -> InForm r -> (∀ n, pl p (r.getD n 0) = r.getD n 0) -> r.length <= 200 -> GC p b r (gc p b r)
  | k, b, [], _, fb, rb, _, _, _ => by
    have h := nrm_gc hp fb rb
    rw [gc_eq h]
    exact h
  | k + 1, b, y :: r, hk, fb, rb, fr, rr, hl => by
    have ok := dok_form hp fr rr (fun z => by cases z) hl
    have e := form_tz fr rr
    obtain ⟨_, _, ir, er⟩ := dv_rest ok b
    rw [e] at ir er
    have il := ir.len
    have ih := gc_ex hp k (y :: r) (rm p (y :: r) b) (by omega) fr rr ir.form ir.red (by omega)
    have h := (Idl.step er).gc ih
    rw [gc_eq h]
    exact h
theorem Idl.tz (p : Int) (f g : List Int) : Idl p f g (Tz p f) (Tz p g) := by
  have k : ∀ (f : List Int) n, p ∣ f.getD n 0 - (Tz p f).getD n 0 := fun f n => by
    rw [Tz_get]
    have := pl_dvd p (f.getD n 0)
    have e : f.getD n 0 - pl p (f.getD n 0) = -(pl p (f.getD n 0) - f.getD n 0) := by omega
    rw [e]
    exact Int.dvd_neg.mpr this
  exact Idl.cong (k f) (k g)
theorem gc_all {p : Int} (hp : IsP p) {f g : List Int} (hg : g.length <= 200) : GC p f g (gc p f g) := by
  have tl := Tz_len p g
  have h := gc_ex hp _ (Tz p f) (Tz p g) (Nat.le_refl _) (Tz_form p f) (Tz_red p f) (Tz_form p g) (Tz_red p g) (by omega)
  have h := (Idl.tz p f g).gc h
  rw [gc_eq h]
  exact h
theorem kx_turned_lead (T : Top K mg cNO cK cR) : Ok P w K mg base 3 "turned_lead" ["kind", "f"] (spFI K (GkR cR) (fun as => ∃ p b, as = [.ob 0 p, .ints b] /\ IsP p /\ InForm b /\ ∀ n, pl p (b.getD n 0) = b.getD n 0) fun as => match as with
    | [.ob 0 p, .ints b] => tlF p b
    | _ => 0) := by
  refine okF T.d_turned_lead sc_turned_lead (fun as ⟨a, b, h, _⟩ => by rw [h]; rfl) (fun f cdv A outer s H E hr => ⟨_, (xss_one (xst_ret (xv_if (xt_list 1) (xn_of (xR_V (xR_meth 0 (kme_over T) hr (xa_cons xn_int (xa_cons (xn_item 1 (xn_neg xn_int) (fun _ _ => rfl)) xa_nil))))) xn_int))), fun as hp => ?_⟩)
  obtain ⟨p, b, rfl, hp, fb, rb⟩ := hp
  have p2 : 2 <= p := hp.1
  have h9 : p.natAbs < 2 ^ 9000 := by
    have : p.natAbs <= 2 ^ 14 := by have := hp.2.1; omega
    exact Nat.lt_of_le_of_lt this (Nat.pow_lt_pow_right (by decide) (by decide))
  have o9 : (1 : Int).natAbs < 2 ^ 9000 := Nat.lt_of_le_of_lt (show (1 : Int).natAbs <= 2 ^ 14 by decide) (Nat.pow_lt_pow_right (by decide) (by decide))
  have eF : ¬ b = [] -> F_O cNO p [1, b.getD (ixO b.length (-1)) 0] = .inl (tlF p b) := fun c => by
    have l0 := lP c
    have ld : b.getD (ixO b.length (-1)) 0 = lastI b := last_ix b l0
    have e : tlF p b = pl p (1 * tu (lastI b) p) := if_neg c
    rw [ld, e]
    exact FO_r (lead_gcd hp fb rb c)
  refine ⟨⟨.inl rfl, fun c => ⟨⟨⟨rfl, ⟨tT, ⟨.inl rfl, tT, ?_, ?_⟩, tT⟩, tT, ?_⟩, ?_⟩, ?_⟩, fun _ => tT⟩, ?_⟩
  . have c : ¬ b = [] := c
    have l0 := lP c
    show -(b.length : Int) <= -1
    omega
  . have c : ¬ b = [] := c
    have l0 := lP c
    show (-1 : Int) < (b.length : Int)
    omega
  . show preO p [1, b.getD (ixO b.length (-1)) 0]
    exact ⟨p2, h9, o9⟩
  . have c : ¬ b = [] := c
    show (toRs (F_O cNO p [1, b.getD (ixO b.length (-1)) 0])).isV
    rw [eF c]
    exact tT
  . have c : ¬ b = [] := c
    show (toRs (F_O cNO p [1, b.getD (ixO b.length (-1)) 0])).get = .int (pvI (toRs (F_O cNO p [1, b.getD (ixO b.length (-1)) 0])).get)
    rw [eF c]
    rfl
  . show (if ¬ b = [] then PV.int (pvI (toRs (F_O cNO p [1, b.getD (ixO b.length (-1)) 0])).get) else .int 1) = .int (tlF p b)
    by_cases c : b = []
    . rw [if_neg (fun z => z c)]
      subst c
      rfl
    . rw [if_pos c, eF c]
      rfl
theorem tl_bd {p : Int} {b : List Int} (hp : IsP p) : (tlF p b).natAbs < 2 ^ 9000 := by
  have h : (tlF p b).natAbs <= 2 ^ 14 := by
    unfold tlF
    split
    . decide
    . have := red_s hp (pl_pl p (1 * tu (lastI b) p))
      omega
  exact Nat.lt_of_le_of_lt h (Nat.pow_lt_pow_right (by decide) (by decide))
theorem kx_with_lead_one (T : Top K mg cNO cK cR) : Ok P w K mg base 4 "with_lead_one" ["kind", "f"] (spL K (GkR cR) (fun as => ∃ p b, as = [.ob 0 p, .ints b] /\ IsP p /\ b.length <= 1000 /\ InForm b /\ ∀ n, pl p (b.getD n 0) = b.getD n 0) fun as => match as with
    | [.ob 0 p, .ints b] => nrm p b
    | _ => []) := by
  refine okL T.d_with_lead_one sc_with_lead_one (fun as ⟨a, b, h, _⟩ => by rw [h]; rfl) (fun f cdv A outer s H E hr => ⟨_, (xss_one (xst_retl (xcl (kx_scaled T) hr (xa_cons (xv 0) (xa_cons (xl 1) (xa_cons (xci (kx_turned_lead T) hr (xa_cons (xv 0) (xa_cons (xl 1) xa_nil))) xa_nil)))))), fun as hp => ?_⟩)
  obtain ⟨p, b, rfl, hp, hl, fb, rb⟩ := hp
  refine ⟨⟨⟨rfl, rfl, ⟨⟨rfl, rfl, tT⟩, p, b, rfl, hp, fb, rb⟩, tT⟩, p, b, tlF p b, rfl, hl, tl_bd hp, fun m hm => ?_⟩, rfl⟩
  obtain ⟨n, _, e⟩ := FM.mem_getD hm
  have := red_s hp (rb n)
  rw [e] at this
  exact small_bd this
theorem kx_common (T : Top K mg cNO cK cR) : Ok P w K mg base 5 "common" ["kind", "f", "g"] (spL K (GkR cR) (fun as => ∃ p f g, as = [.ob 0 p, .ints f, .ints g] /\ IsP p /\ f.length <= 200 /\ g.length <= 200) fun as => match as with
    | [.ob 0 p, .ints f, .ints g] => gc p f g
    | _ => []) := by
  refine okL T.d_common sc_common (fun as ⟨a, b, c, h, _⟩ => by rw [h]; rfl) (fun f cdv A outer s H E hr => ⟨_, (xss_cons (xst_setL (i := 3) sc_common.nd rfl (Or.inl rfl) (newL (xcl (kx_trimmed T) hr (xa_cons (xv 0) (xa_cons (xl 1) xa_nil)))))
 (xss_cons (xst_setL (i := 4) sc_common.nd rfl (Or.inl rfl) (newL (xcl (kx_trimmed T) hr (xa_cons (xv 0) (xa_cons (xl 2) xa_nil)))))
 (xss_cons (xst_while PassesOwn.never (xt_list 4)
 (xss_cons (xst_setL (i := 5) sc_common.nd rfl (Or.inl rfl) (xl_of (xp_item (xc (kx_divided T) hr (xa_cons (xv 0) (xa_cons (xl 3) (xa_cons (xl 4) xa_nil)))) xn_int (fun _ _ => rfl))))
 (xss_cons (xst_setL (i := 3) sc_common.nd rfl (Or.inl rfl) (xl 4))
 (xss_one (xst_setL (i := 4) sc_common.nd rfl (Or.inl rfl) (xl 5))))))
 (xss_one (xst_retl (xcl (kx_with_lead_one T) hr (xa_cons (xv 0) (xa_cons (xl 3) xa_nil)))))))), fun as hp => ?_⟩)
  obtain ⟨p, f, g, rfl, hp, hf, hg⟩ := hp
  refine ⟨⟨⟨rfl, rfl, tT⟩, p, f, rfl, by omega⟩, fun b0 eb0 => ?_⟩
  have eb0 : b0 = Tz p f := eb0
  refine ⟨⟨⟨rfl, rfl, tT⟩, p, g, rfl, by omega⟩, fun r0 er0 => ?_⟩
  have er0 : r0 = Tz p g := er0
  have l1 := Tz_len p f
  have l2 := Tz_len p g
  have i0 : gc p b0 r0 = gc p f g := by
    rw [eb0, er0]
    exact (gc_move (Idl.tz p f g)).symm
  refine to_lit (Z' := [.fr (.ob 0 p), .fr (.ints f), .fr (.ints g), .fr (.ints b0), .fr (.ints r0), .un]) rfl ?_
  refine ⟨fun Z => ∃ b r v5, Z = [.fr (.ob 0 p), .fr (.ints f), .fr (.ints g), .fr (.ints b), .fr (.ints r), v5] /\ InForm b /\ (∀ n, pl p (b.getD n 0) = b.getD n 0) /\ b.length <= 200 /\ InForm r /\ (∀ n, pl p (r.getD n 0) = r.getD n 0) /\ r.length <= 200 /\ gc p b r = gc p f g, fun Z => (getL Z 4).length, ⟨b0, r0, .un, rfl, by rw [eb0]; exact Tz_form p f, by rw [eb0]; exact Tz_red p f, by rw [eb0]; omega, by rw [er0]; exact Tz_form p g, by rw [er0]; exact Tz_red p g, by rw [er0]; omega, i0⟩, ?_⟩
  rintro Z ⟨b, r, v5, rfl, fb, rb, bl, fr, rr, rl, eg⟩
  refine ⟨.inl rfl, fun k => ?_, fun k => ?_⟩
  . have k : ¬ r = [] := k
    have ok := dok_form hp fr rr k rl
    have et := form_tz fr rr
    obtain ⟨q, e⟩ := dvF_eq ok b
    obtain ⟨_, _, ir, er⟩ := dv_rest ok b
    rw [et] at ir er e
    have il := ir.len
    have e : dvF p (Tz p b) (Tz p r) = .tup [.ints q, .ints (rm p r b)] := by rw [et]; exact e
    refine ⟨⟨⟨⟨⟨rfl, rfl, rfl, tT⟩, p, b, r, rfl, ok, bl⟩, tT, ?_⟩, ?_⟩, fun c ec => ?_⟩
    . show hasIt (dvF p (Tz p b) (Tz p r)) 1
      rw [e]
      exact ⟨by show (-2 : Int) <= 1; decide, by show (1 : Int) < 2; decide⟩
    . show itP (dvF p (Tz p b) (Tz p r)) 1 = .ints (pvL (itP (dvF p (Tz p b) (Tz p r)) 1))
      rw [e]
      rfl
    have ec : c = pvL (itP (dvF p (Tz p b) (Tz p r)) 1) := ec
    rw [e] at ec
    have ec : c = rm p r b := ec
    rw [<- ec] at ir er il
    refine ⟨rfl, fun b1 eb1 => ⟨rfl, fun r1 er1 => ⟨⟨r, c, .fr (.ints c), ?_, fr, rr, rl, ir.form, ir.red, by omega, ?_⟩, ?_⟩⟩⟩
    . have eb1 : b1 = r := eb1
      have er1 : r1 = c := er1
      rw [eb1, er1]
      rfl
    . rw [<- eg]
      exact (gc_move (Idl.step er)).symm
    . have er1 : r1 = c := er1
      show r1.length < r.length
      rw [er1]
      exact il
  . have k : ¬ ¬ r = [] := k
    have k : r = [] := Classical.not_not.mp k
    subst k
    refine ⟨⟨⟨rfl, rfl, tT⟩, p, b, rfl, hp, by omega, fb, rb⟩, ?_⟩
    show nrm p b = gc p f g
    rw [<- eg]
    exact (gc_eq (nrm_gc hp fb rb)).symm
structure Fo (p : Int) (f : List Int) : Prop where
  form : InForm f
  red : ∀ n, pl p (f.getD n 0) = f.getD n 0
theorem Fo.tz (p : Int) (f : List Int) : Fo p (Tz p f) := ⟨Tz_form p f, Tz_red p f⟩
theorem Fo.bd {p : Int} {f : List Int} (hp : IsP p) (h : Fo p f) : Bd f := fun m hm => by
  obtain ⟨n, _, e⟩ := FM.mem_getD hm
  have := red_s hp (h.red n)
  rw [e] at this
  exact small_bd this
theorem Fo.at {p : Int} {f : List Int} (hp : IsP p) (h : Fo p f) : ∀ m ∈ f, 0 <= m /\ m < p := fun m hm => by
  obtain ⟨n, _, e⟩ := FM.mem_getD hm
  have p2 : 2 <= p := hp.1
  have := h.red n
  rw [e, pl_pos (by omega)] at this
  have h1 := Int.emod_nonneg m (show p ≠ 0 by omega)
  have h2 := Int.emod_lt_of_pos m (show 0 < p by omega)
  omega
theorem tz_conv_len (p : Int) (a b : List Int) : (Tz p (convL a b)).length <= a.length + b.length := by
  refine Nat.le_trans (Tz_len _ _) ?_
  unfold convL
  rw [List.length_map, List.length_range]
  exact Nat.le_refl _
theorem dvd_tz (p : Int) (f : List Int) (n : Nat) : p ∣ (Tz p f).getD n 0 - f.getD n 0 := by rw [Tz_get]; exact pl_dvd p _
abbrev Row3 := List Int × List Int × List Int
def trP (x : Row3) : PV := .tup [.ints x.1, .ints x.2.1, .ints x.2.2]
theorem dv_both {p : Int} {g : List Int} (h : DOk p g) (f : List Int) : ∃ q, dvF p (Tz p f) (Tz p g) = .tup [.ints q, .ints (rm p (Tz p g) f)] /\ DInv p (Tz p f) (Tz p g) q (rm p (Tz p g) f) /\ (rm p (Tz p g) f).length < (Tz p g).length := by
  have hd := lP h.ne
  have p2 : 2 <= p := h.pr.1
  obtain ⟨h1, _⟩ := dvN_ok (z := p) (ov := ovp p) (f := Tz p f) (d := Tz p g) hd (fun a c ha hc => hov p2 h.gcd a c ha hc) ((Tz p f).length + 1) _ _ (DInv.start (Tz_form p f) (Tz_red p f)) (Nat.lt_succ_self _)
  obtain ⟨q, e, _, _⟩ := dv_rest h f
  obtain ⟨I, hl⟩ := h1 _ _ e
  exact ⟨q, by unfold dvF; rw [e], I, hl⟩
def lsF (p : Int) (a q b : List Int) : List Int := Tz p (addL a ((Tz p (convL (Tz p q) (Tz p b))).map fun n => -n))
theorem ls_prod (p : Int) (q b : List Int) (n : Nat) : (Tz p (convL (Tz p q) (Tz p b))).getD n 0 = pl p (cm q b n) := by
  rw [Tz_get, convL_get]
  exact cm_pl (fun n => by rw [Tz_get, pl_pl]) (fun n => by rw [Tz_get, pl_pl]) n
theorem ls_get (p : Int) (a q b : List Int) (n : Nat) : (lsF p a q b).getD n 0 = pl p (a.getD n 0 + -pl p (cm q b n)) := by
  unfold lsF
  rw [Tz_get, addL_get, getD_map _ (by decide), ls_prod]
theorem ls_dvd (p : Int) (a q b : List Int) (n : Nat) : p ∣ (lsF p a q b).getD n 0 - (a.getD n 0 - cm q b n) := by
  rw [ls_get]
  have h1 := pl_dvd p (a.getD n 0 + -pl p (cm q b n))
  have h2 := pl_dvd p (cm q b n)
  generalize pl p (a.getD n 0 + -pl p (cm q b n)) = u at *
  generalize pl p (cm q b n) = y at *
  have e : u - (a.getD n 0 - cm q b n) = (u - (a.getD n 0 + -y)) + -(y - cm q b n) := by omega
  rw [e]
  exact Int.dvd_add h1 (Int.dvd_neg.mpr h2)
theorem ls_len (p : Int) (a q b : List Int) : (lsF p a q b).length <= max a.length (q.length + b.length - 1) := form_len (Tz_form p _) fun n hn => by
  rw [ls_get, getD_ge (xs := a) (by omega), cm_ge (by omega), pl_0]
  exact pl_0 p
theorem ls_len0 (p : Int) (a b : List Int) : (lsF p a [] b).length <= a.length := form_len (Tz_form p _) fun n hn => by
  rw [ls_get, getD_ge (xs := a) hn, cm_nil, pl_0]
  exact pl_0 p
def rlF (p : Int) (x : Row3) (q : List Int) (y : Row3) : Row3 := (lsF p x.1 q y.1, lsF p x.2.1 q y.2.1, lsF p x.2.2 q y.2.2)
def dqF (p : Int) (b r : List Int) : List Int := pvL (itP (dvF p (Tz p b) (Tz p r)) 0)
open Classical in
def shN (p : Int) : Nat -> Row3 -> Row3 -> Row3
  | 0, b, _ => b
  | n + 1, b, r => if r.1 = [] then b else shN p n r (rlF p b (dqF p b.1 r.1) r)
structure RI (p : Int) (f g : List Int) (x : Row3) : Prop where
  f1 : Fo p x.1
  f2 : Fo p x.2.1
  f3 : Fo p x.2.2
  eq : ∀ n, p ∣ x.1.getD n 0 - (cm x.2.1 f n + cm x.2.2 g n)
theorem ls_cm (p : Int) (a q b f : List Int) (n : Nat) : p ∣ cm (lsF p a q b) f n - (cm a f n - cm q (convL b f) n) := by
  have h := cm_left (p := p) (a := lsF p a q b) (b := subL a (convL q b)) (c := f) (fun i => by rw [subL_get, convL_get]; exact ls_dvd p a q b i) n
  rw [cm_sub, cm_assoc] at h
  exact h
theorem RI.step {p : Int} {f g : List Int} {b r : Row3} (hb : RI p f g b) (hr : RI p f g r) (q : List Int) : RI p f g (rlF p b q r) := by
  refine ⟨.tz p _, .tz p _, .tz p _, fun n => ?_⟩
  have h1 := ls_dvd p b.1 q r.1 n
  have h2 := ls_cm p b.2.1 q r.2.1 f n
  have h3 := ls_cm p b.2.2 q r.2.2 g n
  have h4 := hb.eq n
  have h5 := cm_left (p := p) (a := r.1) (b := addL (convL r.2.1 f) (convL r.2.2 g)) (c := q) (fun i => by rw [addL_get, convL_get, convL_get]; exact hr.eq i) n
  rw [cm_addL, cm_comm r.1 q, cm_comm (convL r.2.1 f) q, cm_comm (convL r.2.2 g) q] at h5
  show p ∣ (lsF p b.1 q r.1).getD n 0 - (cm (lsF p b.2.1 q r.2.1) f n + cm (lsF p b.2.2 q r.2.2) g n)
  generalize (lsF p b.1 q r.1).getD n 0 = x1 at *
  generalize cm (lsF p b.2.1 q r.2.1) f n = x2 at *
  generalize cm (lsF p b.2.2 q r.2.2) g n = x3 at *
  generalize b.1.getD n 0 = y1 at *
  generalize cm b.2.1 f n = y2 at *
  generalize cm b.2.2 g n = y3 at *
  generalize cm q r.1 n = z1 at *
  generalize cm q (convL r.2.1 f) n = z2 at *
  generalize cm q (convL r.2.2 g) n = z3 at *
  have e : x1 - (x2 + x3) = (x1 - (y1 - z1)) + -(x2 - (y2 - z2)) + -(x3 - (y3 - z3)) + (y1 - (y2 + y3)) + -(z1 - (z2 + z3)) := by omega
  rw [e]
  exact Int.dvd_add (Int.dvd_add (Int.dvd_add (Int.dvd_add h1 (Int.dvd_neg.mpr h2)) (Int.dvd_neg.mpr h3)) h4) (Int.dvd_neg.mpr h5)
structure SI (p : Int) (f g : List Int) (N : Nat) (b r : Row3) : Prop where
  rb : RI p f g b
  rr : RI p f g r
  gcd : gc p b.1 r.1 = gc p f g
  l1 : r.2.1.length + b.1.length <= N
  l2 : b.2.1.length + r.1.length <= N
  l3 : r.2.2.length + b.1.length <= N
  l4 : b.2.2.length + r.1.length <= N
theorem SI.step {p : Int} {f g : List Int} {N : Nat} {b r : Row3} (hp : IsP p) (h : SI p f g N b r) (hne : r.1 ≠ []) (hN : N <= 200) : SI p f g N r (rlF p b (dqF p b.1 r.1) r) /\ (rlF p b (dqF p b.1 r.1) r).1.length < r.1.length /\ dvF p (Tz p b.1) (Tz p r.1) = .tup [.ints (dqF p b.1 r.1), .ints (rm p r.1 b.1)] /\ (dqF p b.1 r.1).length <= b.1.length /\ Bd (dqF p b.1 r.1) := by
  have a1 := h.l1
  have a2 := h.l2
  have a3 := h.l3
  have a4 := h.l4
  have ok := dok_form hp h.rr.f1.form h.rr.f1.red hne (by omega)
  have et := form_tz h.rr.f1.form h.rr.f1.red
  have eb := form_tz h.rb.f1.form h.rb.f1.red
  obtain ⟨q, e, I, hl⟩ := dv_both ok b.1
  have eq0 : dqF p b.1 r.1 = q := by unfold dqF; rw [e]; rfl
  rw [eq0]
  rw [et] at I hl
  rw [eb] at I
  have e : dvF p (Tz p b.1) (Tz p r.1) = .tup [.ints q, .ints (rm p r.1 b.1)] := by rw [e, et]
  obtain ⟨_, _, _, er⟩ := dv_rest ok b.1
  rw [et] at er
  have e1 : lsF p b.1 q r.1 = rm p r.1 b.1 := form_ext (Tz_form p _) I.rf fun n => pl_same (Tz_red p _ n) (I.rr n) (by
    have k1 := ls_dvd p b.1 q r.1 n
    have k2 := I.eq n
    show p ∣ (lsF p b.1 q r.1).getD n 0 - (rm p r.1 b.1).getD n 0
    generalize (lsF p b.1 q r.1).getD n 0 = x at *
    generalize (rm p r.1 b.1).getD n 0 = y at *
    generalize cm q r.1 n = z at *
    have e : x - y = (x - (b.1.getD n 0 - z)) + -(z + y - b.1.getD n 0) := by omega
    rw [e]
    exact Int.dvd_add k1 (Int.dvd_neg.mpr k2))
  have r0 := lP hne
  have ql := I.ql
  have rl := I.rl
  have len : ∀ {a c : List Int}, c.length + b.1.length <= N -> a.length + r.1.length <= N -> (lsF p a q c).length + r.1.length <= N := fun {a c} k1 k2 => by
    by_cases z : q = []
    . subst z
      have := ls_len0 p a c
      omega
    . have := lP z
      have := ls_len p a q c
      omega
  refine ⟨⟨h.rr, h.rb.step h.rr q, ?_, len a1 a2, ?_, len a3 a4, ?_⟩, ?_, e, by omega, fun m hm => ?_⟩
  . show gc p r.1 (lsF p b.1 q r.1) = gc p f g
    rw [e1, <- h.gcd]
    exact (gc_move (Idl.step er)).symm
  . show r.2.1.length + (lsF p b.1 q r.1).length <= N
    rw [e1]; omega
  . show r.2.2.length + (lsF p b.1 q r.1).length <= N
    rw [e1]; omega
  . show (lsF p b.1 q r.1).length < r.1.length
    rw [e1]; exact hl
  . obtain ⟨n, _, k⟩ := FM.mem_getD hm
    have := red_s hp (I.qr n)
    rw [k] at this
    exact small_bd this
theorem SI.start {p : Int} {f g : List Int} {N : Nat} (hp : IsP p) (hf : f.length + 1 <= N) (hg : g.length + 1 <= N) : SI p f g N (Tz p f, [1], []) (Tz p g, [], [1]) := by
  have p2 : 2 <= p := hp.1
  have one : Fo p [1] := by
    refine ⟨fun _ => by decide, fun n => ?_⟩
    match n with
    | 0 =>
      show pl p 1 = 1
      rw [pl_pos (by omega)]
      exact Int.emod_eq_of_lt (by decide) (by omega)
    | n + 1 =>
      have e : ([1] : List Int).getD (n + 1) 0 = 0 := getD_ge (by show 1 <= n + 1; omega)
      rw [e, pl_0]
  have nil : Fo p [] := ⟨form_nil, fun n => by show pl p 0 = 0; exact pl_0 p⟩
  have l1 := Tz_len p f
  have l2 := Tz_len p g
  refine ⟨⟨.tz p f, one, nil, fun n => ?_⟩, ⟨.tz p g, nil, one, fun n => ?_⟩, (gc_move (Idl.tz p f g)).symm, ?_, ?_, ?_, ?_⟩
  . show p ∣ (Tz p f).getD n 0 - (cm [1] f n + cm [] g n)
    rw [cm_1, cm_nil, Int.add_zero]
    exact dvd_tz p f n
  . show p ∣ (Tz p g).getD n 0 - (cm [] f n + cm [1] g n)
    rw [cm_1, cm_nil, Int.zero_add]
    exact dvd_tz p g n
  . show 0 + (Tz p f).length <= N
    omega
  . show 1 + (Tz p g).length <= N
    omega
  . show 1 + (Tz p f).length <= N
    omega
  . show 0 + (Tz p g).length <= N
    omega
theorem shN_ok {p : Int} {f g : List Int} {N : Nat} (hp : IsP p) (hN : N <= 200) : ∀ (k : Nat) (b r : Row3), SI p f g N b r -> r.1.length < k -> RI p f g (shN p k b r) /\ gc p f g = nrm p (shN p k b r).1 /\ (shN p k b r).1.length <= N /\ (shN p k b r).2.1.length <= N /\ (shN p k b r).2.2.length <= N
  | 0, _, _, _, h => by omega
  | k + 1, b, r, h, hk => by
    unfold shN
    by_cases c : r.1 = []
    . rw [if_pos c]
      have e := h.gcd
      have a1 := h.l1
      have a2 := h.l2
      have a4 := h.l4
      rw [c, gc_eq (nrm_gc hp h.rb.f1.form h.rb.f1.red)] at e
      exact ⟨h.rb, e.symm, by omega, by omega, by omega⟩
    . rw [if_neg c]
      obtain ⟨h2, hl, _⟩ := h.step hp c hN
      exact shN_ok hp hN k _ _ h2 (by omega)
def scF (t p : Int) (x : List Int) : List Int := Tz p (x.map fun m => t * m)
def shE (p : Int) (f g : List Int) : Row3 := shN p ((Tz p g).length + 1) (Tz p f, [1], []) (Tz p g, [], [1])
def shF (p : Int) (f g : List Int) : Row3 := (scF (tlF p (shE p f g).1) p (shE p f g).1, scF (tlF p (shE p f g).1) p (shE p f g).2.1, scF (tlF p (shE p f g).1) p (shE p f g).2.2)
theorem scF_get (t p : Int) (x : List Int) (n : Nat) : (scF t p x).getD n 0 = pl p (t * x.getD n 0) := by
  unfold scF
  rw [Tz_get, getD_map _ (Int.mul_zero t)]
theorem scF_len (t p : Int) (x : List Int) : (scF t p x).length <= x.length := by
  unfold scF
  refine Nat.le_trans (Tz_len _ _) ?_
  rw [List.length_map]
  exact Nat.le_refl _
theorem shF_ok {p : Int} {f g : List Int} {N : Nat} (hp : IsP p) (hN : N <= 200) (hf : f.length + 1 <= N) (hg : g.length + 1 <= N) : RI p f g (shF p f g) /\ (shF p f g).1 = gc p f g /\ (shF p f g).1.length <= N /\ (shF p f g).2.1.length <= N /\ (shF p f g).2.2.length <= N := by
  obtain ⟨h1, h2, h3, h4, h5⟩ := shN_ok hp hN ((Tz p g).length + 1) _ _ (SI.start hp hf hg) (Nat.lt_succ_self _)
  have h1 : RI p f g (shE p f g) := h1
  have h2 : gc p f g = nrm p (shE p f g).1 := h2
  have h3 : (shE p f g).1.length <= N := h3
  have h4 : (shE p f g).2.1.length <= N := h4
  have h5 : (shE p f g).2.2.length <= N := h5
  refine ⟨?_, h2.symm, Nat.le_trans (scF_len _ _ _) h3, Nat.le_trans (scF_len _ _ _) h4, Nat.le_trans (scF_len _ _ _) h5⟩
  unfold shF
  generalize shE p f g = x at *
  generalize tlF p x.1 = t at *
  refine ⟨.tz p _, .tz p _, .tz p _, fun n => ?_⟩
  have sc : ∀ (a f : List Int), p ∣ cm (scF t p a) f n - t * cm a f n := fun a f => by
    have h := cm_left (p := p) (a := scF t p a) (b := scl t a) (c := f) (fun i => by rw [scF_get, scl_get]; exact pl_dvd p _) n
    have e : cm (scl t a) f n = t * cm a f n := by
      unfold cm
      rw [<- sm_mulL]
      exact sm_congr fun i _ => by rw [scl_get, Int.mul_assoc]
    rw [e] at h
    exact h
  have k1 : p ∣ (scF t p x.1).getD n 0 - t * x.1.getD n 0 := by rw [scF_get]; exact pl_dvd p _
  have k2 := sc x.2.1 f
  have k3 := sc x.2.2 g
  have k4 : p ∣ t * (x.1.getD n 0 - (cm x.2.1 f n + cm x.2.2 g n)) := Int.dvd_mul_of_dvd_right (h1.eq n)
  rw [Int.mul_sub, Int.mul_add] at k4
  show p ∣ (scF t p x.1).getD n 0 - (cm (scF t p x.2.1) f n + cm (scF t p x.2.2) g n)
  generalize (scF t p x.1).getD n 0 = y1 at *
  generalize cm (scF t p x.2.1) f n = y2 at *
  generalize cm (scF t p x.2.2) g n = y3 at *
  generalize t * x.1.getD n 0 = z1 at *
  generalize t * cm x.2.1 f n = z2 at *
  generalize t * cm x.2.2 g n = z3 at *
  have e : y1 - (y2 + y3) = (y1 - z1) + -(y2 - z2) + -(y3 - z3) + (z1 - (z2 + z3)) := by omega
  rw [e]
  exact Int.dvd_add (Int.dvd_add (Int.dvd_add k1 (Int.dvd_neg.mpr k2)) (Int.dvd_neg.mpr k3)) k4
theorem tr_0 (x : Row3) : hasIt (trP x) 0 := ⟨by show -(3 : Int) <= 0; decide, by show (0 : Int) < 3; decide⟩
theorem tr_1 (x : Row3) : hasIt (trP x) 1 := ⟨by show -(3 : Int) <= 1; decide, by show (1 : Int) < 3; decide⟩
theorem tr_2 (x : Row3) : hasIt (trP x) 2 := ⟨by show -(3 : Int) <= 2; decide, by show (2 : Int) < 3; decide⟩
theorem kx_row_less (T : Top K mg cNO cK cR) : Ok P w K mg base 5 "row_less" ["kind", "row", "often", "other"] (spF K (GkR cR) (fun as => ∃ p x q y, as = [.ob 0 p, trP x, .ints q, trP y] /\ IsP p /\ (x.1.length <= 400 /\ x.2.1.length <= 400 /\ x.2.2.length <= 400) /\ (q.length + y.1.length <= 400 /\ q.length + y.2.1.length <= 400 /\ q.length + y.2.2.length <= 400) /\ Bd q /\ Bd y.1 /\ Bd y.2.1 /\ Bd y.2.2) fun as => match as with
    | [.ob 0 p, .tup [.ints a, .ints b, .ints c], .ints q, .tup [.ints d, .ints e, .ints f]] => trP (rlF p (a, b, c) q (d, e, f))
    | _ => .non) := by
  refine okF T.d_row_less sc_row_less (fun as ⟨a, b, c, d, h, _⟩ => by rw [h]; rfl) (fun f cdv A outer s H E hr => ⟨_, (xss_one (xst_ret (xp_tup (xa_cons (newL (xcl (kx_less T) hr (xa_cons (xv 0) (xa_cons (xl_of (xp_item (xv 1) xn_int (fun _ _ => rfl))) (xa_cons (newL (xcl (kx_times T) hr (xa_cons (xv 0) (xa_cons (xl 2) (xa_cons (xl_of (xp_item (xv 3) xn_int (fun _ _ => rfl))) xa_nil))))) xa_nil))))) (xa_cons (newL (xcl (kx_less T) hr (xa_cons (xv 0) (xa_cons (xl_of (xp_item (xv 1) xn_int (fun _ _ => rfl))) (xa_cons (newL (xcl (kx_times T) hr (xa_cons (xv 0) (xa_cons (xl 2) (xa_cons (xl_of (xp_item (xv 3) xn_int (fun _ _ => rfl))) xa_nil))))) xa_nil))))) (xa_cons (newL (xcl (kx_less T) hr (xa_cons (xv 0) (xa_cons (xl_of (xp_item (xv 1) xn_int (fun _ _ => rfl))) (xa_cons (newL (xcl (kx_times T) hr (xa_cons (xv 0) (xa_cons (xl 2) (xa_cons (xl_of (xp_item (xv 3) xn_int (fun _ _ => rfl))) xa_nil))))) xa_nil))))) xa_nil)))))), fun as hp => ?_⟩)
  obtain ⟨p, x, q, y, rfl, hp, ⟨x1, x2, x3⟩, ⟨q1, q2, q3⟩, bq, b1, b2, b3⟩ := hp
  obtain ⟨h0, h9⟩ := p_nine hp
  have len : ∀ d : List Int, q.length + d.length <= 400 -> (Tz p (convL (Tz p q) (Tz p d))).length <= 500 := fun d h => by
    have k1 := Tz_len p (convL (Tz p q) (Tz p d))
    have k2 := Tz_len p q
    have k3 := Tz_len p d
    have k4 : (convL (Tz p q) (Tz p d)).length = (Tz p q).length + (Tz p d).length := by unfold convL; rw [List.length_map, List.length_range]
    omega
  exact ⟨⟨⟨⟨rfl, ⟨⟨rfl, tT, tr_0 x⟩, rfl⟩, ⟨⟨rfl, rfl, ⟨⟨rfl, tT, tr_0 y⟩, rfl⟩, tT⟩, p, q, y.1, rfl, h0, h9, by omega, bq, b1⟩, tT⟩, p, x.1, _, rfl, by omega, len _ q1⟩, ⟨⟨rfl, ⟨⟨rfl, tT, tr_1 x⟩, rfl⟩, ⟨⟨rfl, rfl, ⟨⟨rfl, tT, tr_1 y⟩, rfl⟩, tT⟩, p, q, y.2.1, rfl, h0, h9, by omega, bq, b2⟩, tT⟩, p, x.2.1, _, rfl, by omega, len _ q2⟩, ⟨⟨rfl, ⟨⟨rfl, tT, tr_2 x⟩, rfl⟩, ⟨⟨rfl, rfl, ⟨⟨rfl, tT, tr_2 y⟩, rfl⟩, tT⟩, p, q, y.2.2, rfl, h0, h9, by omega, bq, b3⟩, tT⟩, p, x.2.2, _, rfl, by omega, len _ q3⟩, tT⟩, rfl⟩
theorem kx_shares (T : Top K mg cNO cK cR) : Ok P w K mg base 6 "shares" ["kind", "f", "g"] (spF K (GkR cR) (fun as => ∃ p f g, as = [.ob 0 p, .ints f, .ints g] /\ IsP p /\ f.length <= 150 /\ g.length <= 150) fun as => match as with
    | [.ob 0 p, .ints f, .ints g] => trP (shF p f g)
    | _ => .non) := by
  refine okF T.d_shares sc_shares (fun as ⟨a, b, c, h, _⟩ => by rw [h]; rfl) (fun f cdv A outer s H E hr => ⟨_, (xss_cons (xst_setP (i := 3) sc_shares.nd rfl (Or.inl rfl) (xp_tup (xa_cons (newL (xcl (kx_trimmed T) hr (xa_cons (xv 0) (xa_cons (xl 1) xa_nil)))) (xa_cons (newL (xl_lst (xa_cons xn_int xa_nil))) (xa_cons (newL (xl_lst xa_nil)) xa_nil)))))
 (xss_cons (xst_setP (i := 4) sc_shares.nd rfl (Or.inl rfl) (xp_tup (xa_cons (newL (xcl (kx_trimmed T) hr (xa_cons (xv 0) (xa_cons (xl 2) xa_nil)))) (xa_cons (newL (xl_lst xa_nil)) (xa_cons (newL (xl_lst (xa_cons xn_int xa_nil))) xa_nil)))))
 (xss_cons (xst_while PassesOwn.never (xt_lE (xl_of (xp_item (xv 4) xn_int (fun _ _ => rfl))))
 (xss_cons (xst_setL (i := 5) sc_shares.nd rfl (Or.inl rfl) (xl_of (xp_item (xc (kx_divided T) hr (xa_cons (xv 0) (xa_cons (xl_of (xp_item (xv 3) xn_int (fun _ _ => rfl))) (xa_cons (xl_of (xp_item (xv 4) xn_int (fun _ _ => rfl))) xa_nil)))) xn_int (fun _ _ => rfl))))
 (xss_cons (xst_setP (i := 6) sc_shares.nd rfl (Or.inl rfl) (xc (kx_row_less T) hr (xa_cons (xv 0) (xa_cons (xv 3) (xa_cons (xl 5) (xa_cons (xv 4) xa_nil))))))
 (xss_cons (xst_setP (i := 3) sc_shares.nd rfl (Or.inl rfl) (xv 4))
 (xss_one (xst_setP (i := 4) sc_shares.nd rfl (Or.inl rfl) (xv 6)))))))
 (xss_cons (xst_setI (i := 7) sc_shares.nd rfl (Or.inl rfl) (xci (kx_turned_lead T) hr (xa_cons (xv 0) (xa_cons (xl_of (xp_item (xv 3) xn_int (fun _ _ => rfl))) xa_nil))))
 (xss_one (xst_ret (xp_tup (xa_cons (newL (xcl (kx_scaled T) hr (xa_cons (xv 0) (xa_cons (xl_of (xp_item (xv 3) xn_int (fun _ _ => rfl))) (xa_cons (xn 7) xa_nil))))) (xa_cons (newL (xcl (kx_scaled T) hr (xa_cons (xv 0) (xa_cons (xl_of (xp_item (xv 3) xn_int (fun _ _ => rfl))) (xa_cons (xn 7) xa_nil))))) (xa_cons (newL (xcl (kx_scaled T) hr (xa_cons (xv 0) (xa_cons (xl_of (xp_item (xv 3) xn_int (fun _ _ => rfl))) (xa_cons (xn 7) xa_nil))))) xa_nil)))))))))), fun as hp => ?_⟩)
  obtain ⟨p, f, g, rfl, hp, hf, hg⟩ := hp
  obtain ⟨N, hN⟩ : ∃ N, N = max f.length g.length + 1 := ⟨_, rfl⟩
  have N2 : N <= 200 := by omega
  have S0 : SI p f g N (Tz p f, [1], []) (Tz p g, [], [1]) := SI.start hp (by omega) (by omega)
  refine ⟨⟨⟨⟨rfl, rfl, tT⟩, p, f, rfl, by omega⟩, ⟨⟨tT, tT⟩, tT⟩, ⟨tT, tT⟩, tT⟩, fun b0 eb0 => ?_⟩
  have eb0 : b0 = trP (Tz p f, [1], []) := eb0
  refine ⟨⟨⟨⟨rfl, rfl, tT⟩, p, g, rfl, by omega⟩, ⟨tT, tT⟩, ⟨⟨tT, tT⟩, tT⟩, tT⟩, fun r0 er0 => ?_⟩
  have er0 : r0 = trP (Tz p g, [], [1]) := er0
  refine to_lit (Z' := [.fr (.ob 0 p), .fr (.ints f), .fr (.ints g), .fr b0, .fr r0, .un, .un, .un]) rfl ?_
  refine ⟨fun Z => ∃ b r v5 v6 k, Z = [.fr (.ob 0 p), .fr (.ints f), .fr (.ints g), .fr (trP b), .fr (trP r), v5, v6, .un] /\ SI p f g N b r /\ r.1.length < k /\ shN p k b r = shE p f g, fun Z => (pvL (itP (getP Z 4) 0)).length, ⟨_, _, .un, .un, (Tz p g).length + 1, by rw [eb0, er0], S0, Nat.lt_succ_self _, rfl⟩, ?_⟩
  rintro Z ⟨b, r, v5, v6, k, rfl, S, hk, ek⟩
  refine ⟨⟨⟨rfl, tT, tr_0 r⟩, rfl⟩, fun c => ?_, fun c => ?_⟩
  . have c : ¬ r.1 = [] := c
    obtain ⟨S2, l2, e, ql, qb⟩ := S.step hp c N2
    have a1 := S.l1
    have a2 := S.l2
    have a3 := S.l3
    have a4 := S.l4
    have ok := dok_form hp S.rr.f1.form S.rr.f1.red c (by omega)
    obtain ⟨k, rfl⟩ : ∃ n, k = n + 1 := ⟨k - 1, by omega⟩
    have ek2 : shN p k r (rlF p b (dqF p b.1 r.1) r) = shE p f g := by
      rw [<- ek]
      conv => rhs; unfold shN
      rw [if_neg c]
    refine ⟨⟨⟨⟨⟨rfl, ⟨⟨rfl, tT, tr_0 b⟩, rfl⟩, ⟨⟨rfl, tT, tr_0 r⟩, rfl⟩, tT⟩, p, b.1, r.1, rfl, ok, by omega⟩, tT, ?_⟩, ?_⟩, fun q eq => ?_⟩
    . show hasIt (dvF p (Tz p b.1) (Tz p r.1)) 0
      rw [e]
      exact ⟨by show (-2 : Int) <= 0; decide, by show (0 : Int) < 2; decide⟩
    . show itP (dvF p (Tz p b.1) (Tz p r.1)) 0 = .ints (pvL (itP (dvF p (Tz p b.1) (Tz p r.1)) 0))
      rw [e]
      rfl
    have eq : q = dqF p b.1 r.1 := eq
    rw [<- eq] at S2 l2 ql qb ek2
    clear e eq
    refine to_lit (Z' := [.fr (.ob 0 p), .fr (.ints f), .fr (.ints g), .fr (trP b), .fr (trP r), .fr (.ints q), v6, .un]) rfl ?_
    refine ⟨⟨⟨rfl, rfl, rfl, rfl, tT⟩, p, b, q, r, rfl, hp, ⟨by omega, by omega, by omega⟩, ⟨by omega, by omega, by omega⟩, qb, S.rr.f1.bd hp, S.rr.f2.bd hp, S.rr.f3.bd hp⟩, fun n en => ?_⟩
    have en : n = trP (rlF p b q r) := en
    refine to_lit (Z' := [.fr (.ob 0 p), .fr (.ints f), .fr (.ints g), .fr (trP b), .fr (trP r), .fr (.ints q), .fr n, .un]) rfl ?_
    refine ⟨rfl, fun b1 eb1 => ⟨rfl, fun r1 er1 => ⟨⟨r, rlF p b q r, .fr (.ints q), .fr n, k, ?_, S2, by omega, ek2⟩, ?_⟩⟩⟩
    . have eb1 : b1 = trP r := eb1
      have er1 : r1 = n := er1
      rw [eb1, er1, en]
      rfl
    . have er1 : r1 = n := er1
      show (pvL (itP r1 0)).length < r.1.length
      rw [er1, en]
      exact l2
  . have c : ¬ ¬ r.1 = [] := c
    have c : r.1 = [] := Classical.not_not.mp c
    have a1 := S.l1
    have a2 := S.l2
    have a4 := S.l4
    obtain ⟨k, rfl⟩ : ∃ n, k = n + 1 := ⟨k - 1, by omega⟩
    have ek2 : b = shE p f g := by
      rw [<- ek]
      unfold shN
      rw [if_pos c]
    refine ⟨⟨⟨rfl, ⟨⟨rfl, tT, tr_0 b⟩, rfl⟩, tT⟩, p, b.1, rfl, hp, S.rb.f1.form, S.rb.f1.red⟩, fun t et => ?_⟩
    have et : t = tlF p b.1 := et
    have tb : t.natAbs < 2 ^ 9000 := by rw [et]; exact tl_bd hp
    refine to_lit (Z' := [.fr (.ob 0 p), .fr (.ints f), .fr (.ints g), .fr (trP b), .fr (trP r), v5, v6, .fr (.int t)]) rfl ?_
    refine ⟨⟨⟨⟨rfl, ⟨⟨rfl, tT, tr_0 b⟩, rfl⟩, rfl, tT⟩, p, b.1, t, rfl, by omega, tb, S.rb.f1.bd hp⟩, ⟨⟨rfl, ⟨⟨rfl, tT, tr_1 b⟩, rfl⟩, rfl, tT⟩, p, b.2.1, t, rfl, by omega, tb, S.rb.f2.bd hp⟩, ⟨⟨rfl, ⟨⟨rfl, tT, tr_2 b⟩, rfl⟩, rfl, tT⟩, p, b.2.2, t, rfl, by omega, tb, S.rb.f3.bd hp⟩, tT⟩, ?_⟩
    show PV.tup [.ints (scF t p b.1), .ints (scF t p b.2.1), .ints (scF t p b.2.2)] = trP (shF p f g)
    unfold shF
    rw [<- ek2, et]
    rfl
theorem kx_slope (T : Top K mg cNO cK cR) : Ok P w K mg base 3 "slope" ["kind", "f"] (spL K (GkR cR) (fun as => ∃ z f, as = [.ob 0 z, .ints f] /\ f.length <= 1000) fun as => match as with
    | [.ob 0 z, .ints f] => trimZ (((f.mapIdx fun k n => (k : Int) * n).drop 1).map (pl z))
    | _ => []) := by
  refine okL T.d_slope sc_slope (fun as ⟨a, b, h, _⟩ => by rw [h]; rfl) (fun f cdv A outer s H E hr => ⟨_, (xss_one (xst_retl (xcl (kx_trimmed T) hr (xa_cons (xv 0) (xa_cons (newL (xl_slice (newL (xl_lcE (N' := ["at", "number"]) (cap := []) (lc_ok rfl rfl rfl rfl tT tT rfl) rfl (by rfl) T.b_enumerate (xl 1) (fun _ _ _ => (pg_tup rfl (pgs_cons (pg_name (i := 0) (show (["at", "number"] : List Str).Nodup by decide +kernel) rfl (Or.inl rfl) (.inr rfl)) (pgs_cons (pg_name (i := 1) (show (["at", "number"] : List Str).Nodup by decide +kernel) rfl (Or.inl rfl) (.inr rfl)) pgs_nil)))) (fun _ _ _ => (xn_mul (xn 0) (xn 1))))) (xo_some xn_int) xo_none (fun _ _ => .inl rfl))) xa_nil))))), fun as hp => ?_⟩)
  obtain ⟨z, f, rfl, hf⟩ := hp
  refine ⟨⟨⟨rfl, ⟨⟨⟨rfl, hf, fun k n e => ⟨rfl, rfl, ?_⟩⟩, tT, tT⟩, tT⟩⟩, z, _, rfl, ?_⟩, ?_⟩
  . have hk : k < f.length := (List.getElem?_eq_some_iff.mp e).1
    exact mul_okL ⟨by show -(2 : Int) ^ 64 < (k : Int); omega, by show (k : Int) < (2 : Int) ^ 64; omega⟩
  . refine Nat.le_trans (cutI_len _ _ _) ?_
    rw [List.length_mapIdx]
    exact hf
  . show trimZ ((cutI (f.mapIdx fun k n => (k : Int) * n) (some ((1 : Nat) : Int)) none).map (pl z)) = _
    rw [cutI_from]
    rfl
def dl (f : List Int) : List Int := (List.range f.length).map fun (n : Nat) => ((n : Int) + 1) * f.getD (n + 1) 0
theorem dl_get (f : List Int) (n : Nat) : (dl f).getD n 0 = ((n : Int) + 1) * f.getD (n + 1) 0 := by
  unfold dl
  by_cases h : n < f.length
  . rw [getD_lt (by rw [List.length_map, List.length_range]; exact h), List.getElem_map, List.getElem_range]
  . rw [getD_ge (by rw [List.length_map, List.length_range]; omega), getD_ge (by omega), Int.mul_zero]
theorem dl_cm (u v : List Int) (n : Nat) : ((n : Int) + 1) * cm u v (n + 1) = cm (dl u) v n + cm u (dl v) n := by
  have e1 : cm (dl u) v n = sm (n + 1 + 1) fun i => (i : Int) * (u.getD i 0 * v.getD (n + 1 - i) 0) := by
    rw [sm_head]
    unfold cm
    rw [show ((0 : Nat) : Int) * (u.getD 0 0 * v.getD (n + 1 - 0) 0) = 0 by rw [Int.natCast_zero, Int.zero_mul], Int.zero_add]
    refine sm_congr fun i _ => ?_
    rw [dl_get, show n + 1 - (i + 1) = n - i by omega, Int.mul_assoc]
    rfl
  have e2 : cm u (dl v) n = sm (n + 1 + 1) fun i => ((n : Int) + 1 - (i : Int)) * (u.getD i 0 * v.getD (n + 1 - i) 0) := by
    show sm (n + 1) _ = sm (n + 1) _ + ((n : Int) + 1 - ((n + 1 : Nat) : Int)) * _
    rw [show (n : Int) + 1 - ((n + 1 : Nat) : Int) = 0 by omega, Int.zero_mul, Int.add_zero]
    refine sm_congr fun i hi => ?_
    rw [dl_get, show n - i + 1 = n + 1 - i by omega, show ((n - i : Nat) : Int) + 1 = (n : Int) + 1 - (i : Int) by omega, Int.mul_left_comm]
  rw [e1, e2, <- sm_add]
  unfold cm
  rw [<- sm_mulL]
  refine sm_congr fun i _ => ?_
  rw [<- Int.add_mul]
  congr 1
  omega
theorem dl_mul (u v : List Int) (n : Nat) : (dl (convL u v)).getD n 0 = cm (dl u) v n + cm u (dl v) n := by rw [dl_get, convL_get, dl_cm]
def Co (p : Int) (f g : List Int) : Prop := Lc p f g [1]
def Sq (p : Int) (f : List Int) : Prop := Co p f (dl f)
theorem cm_2 (b a : Int) (f : List Int) (n : Nat) : cm [b, a] f n = b * f.getD n 0 + if n = 0 then 0 else a * f.getD (n - 1) 0 := by
  rw [cm_consL]
  congr 1
  split
  . rfl
  . rw [cm_c]
def chs : Nat -> Nat -> Int
  | _, 0 => 1
  | 0, _ + 1 => 0
  | n + 1, k + 1 => chs n k + chs n (k + 1)
theorem chs_zero (n : Nat) : chs n 0 = 1 := by cases n <;> rfl
theorem chs_big : ∀ {n k : Nat}, n < k -> chs n k = 0
  | 0, k + 1, _ => rfl
  | n + 1, k + 1, h => by
    show chs n k + chs n (k + 1) = 0
    rw [chs_big (by omega), chs_big (by omega)]
    rfl
theorem chs_self : ∀ n, chs n n = 1
  | 0 => rfl
  | n + 1 => by
    show chs n n + chs n (n + 1) = 1
    rw [chs_self n, chs_big (by omega)]
    rfl
theorem chs_mul : ∀ n k : Nat, ((k : Int) + 1) * chs (n + 1) (k + 1) = ((n : Int) + 1) * chs n k
  | 0, 0 => by rfl
  | 0, k + 1 => by
    have e1 : chs (0 + 1) (k + 1 + 1) = 0 := chs_big (by omega)
    have e2 : chs 0 (k + 1) = 0 := rfl
    rw [e1, e2, Int.mul_zero, Int.mul_zero]
  | n + 1, 0 => by
    have h := chs_mul n 0
    have e : chs (n + 1 + 1) (0 + 1) = chs (n + 1) 0 + chs (n + 1) (0 + 1) := rfl
    rw [e, Int.mul_add, h, chs_zero, chs_zero]
    omega
  | n + 1, j + 1 => by
    have h1 := chs_mul n (j + 1)
    have h2 := chs_mul n j
    have e : chs (n + 1 + 1) (j + 1 + 1) = chs (n + 1) (j + 1) + chs (n + 1) (j + 1 + 1) := rfl
    have e2 : chs (n + 1) (j + 1) = chs n j + chs n (j + 1) := rfl
    rw [e, Int.mul_add, h1]
    have e3 : (((j + 1 : Nat) : Int) + 1) * chs (n + 1) (j + 1) = ((j : Int) + 1) * chs (n + 1) (j + 1) + chs (n + 1) (j + 1) := by
      rw [Int.add_mul, Int.one_mul]
      rfl
    rw [e3, h2]
    have e4 : (((n + 1 : Nat) : Int) + 1) * chs (n + 1) (j + 1) = ((n : Int) + 1) * chs (n + 1) (j + 1) + chs (n + 1) (j + 1) := by
      rw [Int.add_mul (((n + 1 : Nat) : Int)), Int.one_mul]
      rfl
    have e5 : ((n : Int) + 1) * chs (n + 1) (j + 1) = ((n : Int) + 1) * chs n j + ((n : Int) + 1) * chs n (j + 1) := by rw [e2, Int.mul_add]
    rw [e4, e5]
    omega
theorem chs_dvd {p : Int} (hp : IsP p) {n j : Nat} (hn : (n : Int) + 1 = p) (hj : j < n) : p ∣ chs (n + 1) (j + 1) := by
  have h := chs_mul n j
  have g : Int.gcd ((j : Int) + 1) (p ^ 1) = 1 := gcd_pow hp (by rw [Int.emod_eq_of_lt (by omega) (by omega)]; omega) 1
  rw [Int.pow_one] at g
  have d : p ∣ ((j : Int) + 1) * chs (n + 1) (j + 1) := by
    rw [h, hn]
    exact Int.dvd_mul_right _ _
  have d2 := Int.natAbs_dvd_natAbs.mpr d
  rw [Int.natAbs_mul] at d2
  have g2 : Nat.Coprime p.natAbs ((j : Int) + 1).natAbs := by
    show Nat.gcd p.natAbs ((j : Int) + 1).natAbs = 1
    rw [Nat.gcd_comm]
    exact g
  exact Int.natAbs_dvd_natAbs.mp (g2.dvd_of_dvd_mul_left d2)
theorem binom {F : Nat -> Nat -> Nat -> Int} (h : ∀ i j n, F i j (n + 1) = F (i + 1) j n + F i (j + 1) n) : ∀ n i j, F i j n = sm (n + 1) fun k => chs n k * F (i + k) (j + (n - k)) 0
  | 0, i, j => by
    show F i j 0 = 0 + 1 * F (i + 0) (j + (0 - 0)) 0
    rw [Int.one_mul, Int.zero_add]
    rfl
  | n + 1, i, j => by
    rw [h, binom h n (i + 1) j, binom h n i (j + 1), sm_head (fun k => chs (n + 1) k * F (i + k) (j + (n + 1 - k)) 0) (n + 1)]
    have e0 : sm (n + 1) (fun k => chs n k * F (i + k) (j + 1 + (n - k)) 0) = sm (n + 2) (fun k => chs n k * F (i + k) (j + 1 + (n - k)) 0) :=
      (sm_more (by omega) fun k h1 h2 => by rw [chs_big (by omega), Int.zero_mul]).symm
    rw [e0, sm_head (fun k => chs n k * F (i + k) (j + 1 + (n - k)) 0) (n + 1)]
    have e1 : chs (n + 1) 0 * F (i + 0) (j + (n + 1 - 0)) 0 = chs n 0 * F (i + 0) (j + 1 + (n - 0)) 0 := by
      rw [chs_zero, chs_zero]
      have : j + (n + 1 - 0) = j + 1 + (n - 0) := by omega
      rw [this]
    have e2 : sm (n + 1) (fun k => chs (n + 1) (k + 1) * F (i + (k + 1)) (j + (n + 1 - (k + 1))) 0) = sm (n + 1) (fun k => chs n k * F (i + 1 + k) (j + (n - k)) 0) + sm (n + 1) (fun k => chs n (k + 1) * F (i + (k + 1)) (j + 1 + (n - (k + 1))) 0) := by
      rw [<- sm_add]
      refine sm_congr fun k hk => ?_
      have a1 : i + 1 + k = i + (k + 1) := by omega
      have a2 : j + (n + 1 - (k + 1)) = j + (n - k) := by omega
      have a3 : chs (n + 1) (k + 1) = chs n k + chs n (k + 1) := rfl
      rw [a1, a2, a3, Int.add_mul]
      by_cases c : k = n
      . rw [chs_big (show n < k + 1 by omega), Int.zero_mul, Int.zero_mul]
      . have a4 : j + 1 + (n - (k + 1)) = j + (n - k) := by omega
        rw [a4]
    rw [e1, e2]
    omega
theorem dream_at {p : Int} (hp : IsP p) {F : Nat -> Nat -> Nat -> Int} (h : ∀ i j n, F i j (n + 1) = F (i + 1) j n + F i (j + 1) n) : p ∣ F 0 0 p.toNat - (F p.toNat 0 0 + F 0 p.toNat 0) := by
  have p2 : 2 <= p := hp.1
  obtain ⟨n, hn⟩ : ∃ n, p.toNat = n + 1 := ⟨p.toNat - 1, by omega⟩
  have hn2 : (n : Int) + 1 = p := by omega
  rw [hn, binom h (n + 1) 0 0]
  have e : sm (n + 1 + 1) (fun k => chs (n + 1) k * F (0 + k) (0 + (n + 1 - k)) 0) = chs (n + 1) 0 * F (0 + 0) (0 + (n + 1 - 0)) 0 + sm n (fun k => chs (n + 1) (k + 1) * F (0 + (k + 1)) (0 + (n + 1 - (k + 1))) 0) + chs (n + 1) (n + 1) * F (0 + (n + 1)) (0 + (n + 1 - (n + 1))) 0 := by
    show sm (n + 1) _ + _ = _
    rw [sm_head]
  rw [e, chs_zero, chs_self, Int.one_mul, Int.one_mul]
  have a1 : 0 + (n + 1 - 0) = n + 1 := by omega
  have a2 : 0 + (n + 1 - (n + 1)) = 0 := by omega
  have a3 : 0 + (n + 1) = n + 1 := by omega
  rw [a1, a2, a3]
  have d : p ∣ sm n (fun k => chs (n + 1) (k + 1) * F (0 + (k + 1)) (0 + (n + 1 - (k + 1))) 0) := sm_dvd fun k hk => Int.dvd_mul_of_dvd_left (chs_dvd hp hn2 hk)
  have e2 : F (0 + 0) (n + 1) 0 = F 0 (n + 1) 0 := rfl
  rw [e2]
  generalize sm n (fun k => chs (n + 1) (k + 1) * F (0 + (k + 1)) (0 + (n + 1 - (k + 1))) 0) = S at *
  have e3 : F 0 (n + 1) 0 + S + F (n + 1) 0 0 - (F (n + 1) 0 0 + F 0 (n + 1) 0) = S := by omega
  rw [e3]
  exact d
theorem dream {p : Int} (hp : IsP p) (d a b : List Int) : EqM p d (pw (addL a b) p.toNat) (addL (pw a p.toNat) (pw b p.toNat)) := .of fun x => by
  have h := dream_at hp (F := fun i j n => cm (convL (pw a i) (pw b j)) (pw (addL a b) n) x) fun i j n => by
    show cm (convL (pw a i) (pw b j)) (convL (pw (addL a b) n) (addL a b)) x = cm (convL (convL (pw a i) a) (pw b j)) (pw (addL a b) n) x + cm (convL (pw a i) (convL (pw b j) b)) (pw (addL a b) n) x
    generalize pw (addL a b) n = W
    generalize pw a i = A
    generalize pw b j = B
    rw [<- cm_assoc, cm_comm, cm_addL]
    have k1 : cm a (convL (convL A B) W) x = cm (convL (convL A a) B) W x := by
      rw [<- cm_assoc]
      refine cm_same (fun n => ?_) (fun _ => rfl) x
      rw [convL_get, convL_get, <- cm_assoc]
      exact cm_same (fun n => by rw [convL_get, convL_get, cm_comm]) (fun _ => rfl) n
    have k2 : cm b (convL (convL A B) W) x = cm (convL A (convL B b)) W x := by
      rw [<- cm_assoc]
      refine cm_same (fun n => ?_) (fun _ => rfl) x
      rw [convL_get, convL_get, cm_comm, cm_assoc]
    rw [k1, k2]
  have e1 : cm (convL (pw a 0) (pw b 0)) (pw (addL a b) p.toNat) x = (pw (addL a b) p.toNat).getD x 0 := by
    rw [cm_comm, <- cm_one (pw (addL a b) p.toNat) x]
    refine cm_same (fun _ => rfl) (fun n => ?_) x
    rw [convL_get]
    exact cm_one _ n
  have e2 : cm (convL (pw a p.toNat) (pw b 0)) (pw (addL a b) 0) x = (pw a p.toNat).getD x 0 := by
    show cm (convL (pw a p.toNat) [1]) [1] x = _
    rw [cm_one, convL_get, cm_one]
  have e3 : cm (convL (pw a 0) (pw b p.toNat)) (pw (addL a b) 0) x = (pw b p.toNat).getD x 0 := by
    show cm (convL [1] (pw b p.toNat)) [1] x = _
    rw [cm_one, convL_get, cm_comm, cm_one]
  have h : p ∣ cm (convL (pw a 0) (pw b 0)) (pw (addL a b) p.toNat) x - (cm (convL (pw a p.toNat) (pw b 0)) (pw (addL a b) 0) x + cm (convL (pw a 0) (pw b p.toNat)) (pw (addL a b) 0) x) := h
  rw [e1, e2, e3] at h
  rw [addL_get]
  exact h
theorem pw_1 (p : Int) (d : List Int) : ∀ n, EqM p d (pw [1] n) [1]
  | 0 => .refl p d _
  | n + 1 => (EqM.one p d (pw [1] n)).trans (pw_1 p d n)
theorem pw_c {p : Int} (hp : IsP p) (d : List Int) : ∀ c : Nat, EqM p d (pw [(c : Int)] p.toNat) [(c : Int)]
  | 0 => by
    have p2 : 2 <= p := hp.1
    obtain ⟨n, hn⟩ : ∃ n, p.toNat = n + 1 := ⟨p.toNat - 1, by omega⟩
    rw [hn]
    have z : ∀ n, ([((0 : Nat) : Int)] : List Int).getD n 0 = 0 := fun n => by cases n <;> rfl
    refine Sm.eqm fun k => ?_
    show (convL (pw [((0 : Nat) : Int)] n) [((0 : Nat) : Int)]).getD k 0 = _
    rw [convL_get, cm_comm, cm_zero z, z]
  | c + 1 => by
    have e : ([((c + 1 : Nat) : Int)] : List Int) = addL [(c : Int)] [1] := rfl
    rw [e]
    exact (dream hp d [(c : Int)] [1]).trans ((pw_c hp d c).add (pw_1 p d _))
theorem pw_mul (p : Int) (d a b : List Int) : ∀ n, EqM p d (pw (convL a b) n) (convL (pw a n) (pw b n))
  | 0 => (EqM.one p d [1]).symm
  | n + 1 => by
    show EqM p d (convL (pw (convL a b) n) (convL a b)) (convL (convL (pw a n) a) (convL (pw b n) b))
    refine ((pw_mul p d a b n).mul _).trans ?_
    generalize pw a n = A
    generalize pw b n = B
    have x : EqM p d (convL B (convL a b)) (convL a (convL B b)) := (EqM.assoc p d B a b).symm.trans (((EqM.comm p d B a).mul b).trans (EqM.assoc p d a B b))
    exact (EqM.assoc p d A B (convL a b)).trans (((EqM.refl p d A).mul2 x).trans (EqM.assoc p d A a (convL B b)).symm)
def lcb (X : Nat -> List Int) : List Int -> Nat -> List Int
  | [], _ => []
  | c :: t, s => addL (scl c (X s)) (lcb X t (s + 1))
theorem lcb_get (X : Nat -> List Int) (j : Nat) : ∀ (f : List Int) (s : Nat), (lcb X f s).getD j 0 = sm f.length fun k => f.getD k 0 * (X (s + k)).getD j 0
  | [], s => by show ([] : List Int).getD j 0 = 0; rfl
  | c :: t, s => by
    show (addL (scl c (X s)) (lcb X t (s + 1))).getD j 0 = sm (t.length + 1) _
    rw [addL_get, scl_get, lcb_get X j t (s + 1), sm_head]
    have e : sm t.length (fun k => t.getD k 0 * (X (s + 1 + k)).getD j 0) = sm t.length fun i => (c :: t).getD (i + 1) 0 * (X (s + (i + 1))).getD j 0 := sm_congr fun i _ => by
      have a : s + 1 + i = s + (i + 1) := by omega
      rw [a]
      rfl
    rw [e]
    rfl
theorem frob {p : Int} (hp : IsP p) (d : List Int) : ∀ (f : List Int), (∀ m ∈ f, 0 <= m) -> ∀ s, EqM p d (convL (pw (pw [0, 1] p.toNat) s) (pw f p.toNat)) (lcb (pw (pw [0, 1] p.toNat)) f s)
  | [], _, s => by
    have p2 : 2 <= p := hp.1
    obtain ⟨n, hn⟩ : ∃ n, p.toNat = n + 1 := ⟨p.toNat - 1, by omega⟩
    refine Sm.eqm fun k => ?_
    have z : ∀ k, (pw [] p.toNat).getD k 0 = 0 := fun k => by
      rw [hn]
      show (convL (pw [] n) []).getD k 0 = 0
      rw [convL_get, cm_comm, cm_nil]
    rw [convL_get, cm_comm, cm_zero z]
    rfl
  | c :: t, h, s => by
    have hc : 0 <= c := h c (List.mem_cons_self ..)
    obtain ⟨cn, ec⟩ : ∃ cn : Nat, c = (cn : Int) := ⟨c.toNat, by omega⟩
    have ih := frob hp d t (fun m hm => h m (List.mem_cons_of_mem _ hm)) (s + 1)
    have e0 : Sm (c :: t) (addL [c] (convL [0, 1] t)) := fun n => by
      rw [addL_get, convL_get, cm_consL, Int.zero_mul, Int.zero_add]
      match n with
      | 0 => rw [if_pos rfl, Int.add_zero]; rfl
      | n + 1 =>
        have e : ([c] : List Int).getD (n + 1) 0 = 0 := by rfl
        rw [if_neg (by omega), e, Int.zero_add, cm_comm, Nat.add_sub_cancel, cm_one]
        rfl
    have e1 : EqM p d (pw (c :: t) p.toNat) (addL [c] (convL (pw [0, 1] p.toNat) (pw t p.toNat))) := by
      refine (pw_mod e0.eqm _).trans ((dream hp d _ _).trans (EqM.add ?_ (pw_mul p d _ _ _)))
      rw [ec]
      exact pw_c hp d cn
    refine ((EqM.refl p d (pw (pw [0, 1] p.toNat) s)).mul2 e1).trans ?_
    have e2 : Sm (convL (pw (pw [0, 1] p.toNat) s) (addL [c] (convL (pw [0, 1] p.toNat) (pw t p.toNat)))) (addL (scl c (pw (pw [0, 1] p.toNat) s)) (convL (pw (pw [0, 1] p.toNat) s) (convL (pw [0, 1] p.toNat) (pw t p.toNat)))) := fun n => by
      rw [convL_get, cm_comm, cm_addL, addL_get, scl_get, convL_get, cm_comm (pw (pw [0, 1] p.toNat) s), cm_consL]
      by_cases k : n = 0
      . rw [if_pos k, Int.add_zero]
      . rw [if_neg k, cm_nil, Int.add_zero]
    refine e2.eqm.trans ?_
    show EqM p d _ (addL (scl c (pw (pw [0, 1] p.toNat) s)) (lcb (pw (pw [0, 1] p.toNat)) t (s + 1)))
    exact (EqM.refl p d _).add ((EqM.assoc p d _ _ _).symm.trans ih)
theorem gcd_cut {a b c : Int} (h : a ∣ b * c) (g : Int.gcd a b = 1) : a ∣ c := by
  have d := Int.natAbs_dvd_natAbs.mpr h
  rw [Int.natAbs_mul] at d
  exact Int.natAbs_dvd_natAbs.mp (Nat.Coprime.dvd_of_dvd_mul_left g d)
theorem isP_mul {p a b : Int} (hp : IsP p) (h : p ∣ a * b) : p ∣ a \/ p ∣ b := by
  by_cases c : a % p = 0
  . exact .inl (Int.dvd_of_emod_eq_zero c)
  . right
    have g := hp.coprime c
    rw [Int.gcd_comm] at g
    exact gcd_cut h g
theorem isP_inv {p x : Int} (hp : IsP p) (h : ¬ p ∣ x) : ∃ t, p ∣ t * x - 1 := by
  have g := hp.coprime (b := x) fun z => h (Int.dvd_of_emod_eq_zero z)
  obtain ⟨t, _, _, e⟩ := tu_ex hp.1 g
  refine ⟨t, ?_⟩
  have e2 := Int.dvd_sub_self_of_emod_eq e
  have : t * x - 1 = -(1 - t * x) := by omega
  rw [this]
  exact Int.dvd_neg.mpr e2
def plS (p : Int) : Setoid (List Int) := ⟨fun a b => ∀ n, p ∣ a.getD n 0 - b.getD n 0, fun a n => by rw [Int.sub_self]; exact Int.dvd_zero p,
  fun {a b} h n => by
    have e : b.getD n 0 - a.getD n 0 = -(a.getD n 0 - b.getD n 0) := by omega
    rw [e]
    exact Int.dvd_neg.mpr (h n),
  fun {a b c} h k n => by
    have e : a.getD n 0 - c.getD n 0 = (a.getD n 0 - b.getD n 0) + (b.getD n 0 - c.getD n 0) := by omega
    rw [e]
    exact Int.dvd_add (h n) (k n)⟩
def Pl (p : Int) : Type := Quotient (plS p)
namespace Pl
variable {p : Int}
def mk (p : Int) (a : List Int) : Pl p := Quotient.mk (plS p) a
theorem mk_eq {a b : List Int} : mk p a = mk p b ↔ ∀ n, p ∣ a.getD n 0 - b.getD n 0 := ⟨fun h => Quotient.exact (s := plS p) h, fun h => Quotient.sound (s := plS p) h⟩
theorem ext {a b : List Int} (h : ∀ n, a.getD n 0 = b.getD n 0) : mk p a = mk p b := mk_eq.mpr fun n => by rw [h n, Int.sub_self]; exact Int.dvd_zero p
theorem rep (x : Pl p) : ∃ a, x = mk p a := Quotient.inductionOn (s := plS p) x fun a => ⟨a, rfl⟩
def add (x y : Pl p) : Pl p := Quotient.lift₂ (s₁ := plS p) (s₂ := plS p) (fun a b => mk p (addL a b)) (fun a b c d h k => mk_eq.mpr fun n => by
  rw [addL_get, addL_get]
  have e : a.getD n 0 + b.getD n 0 - (c.getD n 0 + d.getD n 0) = (a.getD n 0 - c.getD n 0) + (b.getD n 0 - d.getD n 0) := by omega
  rw [e]
  exact Int.dvd_add (h n) (k n)) x y
def mul (x y : Pl p) : Pl p := Quotient.lift₂ (s₁ := plS p) (s₂ := plS p) (fun a b => mk p (convL a b)) (fun a b c d h k => mk_eq.mpr fun n => by
  rw [convL_get, convL_get]
  have e : cm a b n - cm c d n = (cm a b n - cm c b n) + (cm b c n - cm d c n) := by
    rw [cm_comm b c, cm_comm d c]
    omega
  rw [e]
  exact Int.dvd_add (cm_left h n) (cm_left k n)) x y
def neg (x : Pl p) : Pl p := Quotient.lift (s := plS p) (fun a => mk p (scl (-1) a)) (fun a b h => mk_eq.mpr fun n => by
  rw [scl_get, scl_get]
  have e : -1 * a.getD n 0 - -1 * b.getD n 0 = -(a.getD n 0 - b.getD n 0) := by omega
  rw [e]
  exact Int.dvd_neg.mpr (h n)) x
def con (p c : Int) : Pl p := mk p [c]
instance : Add (Pl p) := ⟨add⟩
instance : Mul (Pl p) := ⟨mul⟩
instance : Neg (Pl p) := ⟨neg⟩
instance : Sub (Pl p) := ⟨fun a b => a + -b⟩
instance : NatCast (Pl p) := ⟨fun k => con p (k : Int)⟩
instance : IntCast (Pl p) := ⟨con p⟩
instance (k : Nat) : OfNat (Pl p) k := ⟨con p (k : Int)⟩
instance : SMul Nat (Pl p) := ⟨fun k a => con p (k : Int) * a⟩
instance : SMul Int (Pl p) := ⟨fun k a => con p k * a⟩
def pow (a : Pl p) : Nat -> Pl p
  | 0 => con p 1
  | n + 1 => pow a n * a
instance : HPow (Pl p) Nat (Pl p) := ⟨pow⟩
theorem mk_add (a b : List Int) : mk p a + mk p b = mk p (addL a b) := rfl
theorem mk_mul (a b : List Int) : mk p a * mk p b = mk p (convL a b) := rfl
theorem mk_neg (a : List Int) : -mk p a = mk p (scl (-1) a) := rfl
theorem one_def : (1 : Pl p) = mk p [1] := rfl
theorem zero_def : (0 : Pl p) = mk p [0] := rfl
theorem mul_comm (x y : Pl p) : x * y = y * x := by
  obtain ⟨a, rfl⟩ := rep x
  obtain ⟨b, rfl⟩ := rep y
  rw [mk_mul, mk_mul]
  exact ext fun n => by rw [convL_get, convL_get, cm_comm]
theorem mul_assoc (x y z : Pl p) : x * y * z = x * (y * z) := by
  obtain ⟨a, rfl⟩ := rep x
  obtain ⟨b, rfl⟩ := rep y
  obtain ⟨c, rfl⟩ := rep z
  rw [mk_mul, mk_mul, mk_mul, mk_mul]
  exact ext fun n => by rw [convL_get, convL_get, cm_assoc]
theorem con_mk (c : Int) (a : List Int) : con p c * mk p a = mk p (scl c a) := by
  unfold con
  rw [mk_mul]
  exact ext fun n => by rw [convL_get, scl_get, cm_c]
theorem one_mul (x : Pl p) : 1 * x = x := by
  obtain ⟨a, rfl⟩ := rep x
  show con p 1 * mk p a = mk p a
  rw [con_mk]
  exact ext fun n => by rw [scl_get, Int.one_mul]
theorem get0 (n : Nat) : ([0] : List Int).getD n 0 = 0 := by cases n <;> rfl
theorem zero_mul (x : Pl p) : 0 * x = 0 := by
  obtain ⟨a, rfl⟩ := rep x
  show con p 0 * mk p a = mk p [0]
  rw [con_mk]
  exact ext fun n => by rw [scl_get, Int.zero_mul, get0]
theorem distrib (x y z : Pl p) : x * (y + z) = x * y + x * z := by
  obtain ⟨a, rfl⟩ := rep x
  obtain ⟨b, rfl⟩ := rep y
  obtain ⟨c, rfl⟩ := rep z
  rw [mk_add, mk_mul, mk_mul, mk_mul, mk_add]
  exact ext fun n => by rw [convL_get, addL_get, convL_get, convL_get, cm_comm, cm_addL, cm_comm b a, cm_comm c a]
theorem add_comm (x y : Pl p) : x + y = y + x := by
  obtain ⟨a, rfl⟩ := rep x
  obtain ⟨b, rfl⟩ := rep y
  rw [mk_add, mk_add]
  exact ext fun n => by rw [addL_get, addL_get, Int.add_comm]
theorem getc (c d : Int) (n : Nat) : ([c + d] : List Int).getD n 0 = ([c] : List Int).getD n 0 + ([d] : List Int).getD n 0 := by cases n <;> rfl
theorem con_add (c d : Int) : con p (c + d) = con p c + con p d := by
  unfold con
  rw [mk_add]
  exact ext fun n => by rw [addL_get, getc]
theorem con_neg (c : Int) : con p (-c) = -con p c := by
  unfold con
  rw [mk_neg]
  exact ext fun n => by
    rw [scl_get]
    cases n with
    | zero => show -c = -1 * c; omega
    | succ n => rfl
instance : Lean.Grind.CommRing (Pl p) where
  add_zero x := by
    obtain ⟨a, rfl⟩ := rep x
    rw [zero_def, mk_add]
    exact ext fun n => by rw [addL_get, get0, Int.add_zero]
  add_comm := add_comm
  add_assoc x y z := by
    obtain ⟨a, rfl⟩ := rep x
    obtain ⟨b, rfl⟩ := rep y
    obtain ⟨c, rfl⟩ := rep z
    rw [mk_add, mk_add, mk_add, mk_add]
    exact ext fun n => by rw [addL_get, addL_get, addL_get, addL_get, Int.add_assoc]
  mul_assoc := mul_assoc
  mul_one x := by rw [mul_comm, one_mul]
  one_mul := one_mul
  left_distrib := distrib
  right_distrib a b c := by rw [mul_comm, distrib, mul_comm c, mul_comm c]
  mul_zero x := by rw [mul_comm, zero_mul]
  zero_mul := zero_mul
  pow_zero _ := rfl
  pow_succ _ _ := rfl
  ofNat_succ k := by
    show con p ((k + 1 : Nat) : Int) = con p (k : Int) + con p 1
    rw [<- con_add]
    rfl
  ofNat_eq_natCast _ := rfl
  nsmul_eq_natCast_mul _ _ := rfl
  neg_add_cancel x := by
    obtain ⟨a, rfl⟩ := rep x
    rw [zero_def, mk_neg, mk_add]
    exact ext fun n => by rw [addL_get, scl_get, get0]; omega
  sub_eq_add_neg _ _ := rfl
  neg_zsmul i x := by
    show con p (-i) * x = -(con p i * x)
    obtain ⟨a, rfl⟩ := rep x
    rw [con_mk, con_mk, mk_neg]
    exact ext fun n => by rw [scl_get, scl_get, scl_get, <- Int.mul_assoc, Int.neg_one_mul]
  zsmul_natCast_eq_nsmul _ _ := rfl
  intCast_ofNat _ := rfl
  intCast_neg i := con_neg i
  mul_comm := mul_comm
def dv (x : Pl p) : Pl p := Quotient.lift (s := plS p) (fun a => mk p (dl a)) (fun a b h => mk_eq.mpr fun n => by
  rw [dl_get, dl_get, <- Int.mul_sub]
  exact Int.dvd_mul_of_dvd_right (h (n + 1))) x
theorem dv_mk (a : List Int) : dv (mk p a) = mk p (dl a) := rfl
theorem dv_mul (x y : Pl p) : dv (x * y) = dv x * y + x * dv y := by
  obtain ⟨a, rfl⟩ := rep x
  obtain ⟨b, rfl⟩ := rep y
  rw [mk_mul, dv_mk, dv_mk, dv_mk, mk_mul, mk_mul, mk_add]
  exact ext fun n => by rw [dl_mul, addL_get, convL_get, convL_get]
theorem dv_con (c : Int) : dv (con p c) = 0 := by
  unfold con
  rw [dv_mk, zero_def]
  exact ext fun n => by
    rw [dl_get, get0]
    show ((n : Int) + 1) * 0 = 0
    exact Int.mul_zero _
theorem dv_pow (x : Pl p) : ∀ n : Nat, dv (x ^ (n + 1)) = con p ((n + 1 : Nat) : Int) * x ^ n * dv x
  | 0 => by
    show dv (con p 1 * x) = con p 1 * con p 1 * dv x
    rw [dv_mul, dv_con]
    have e : con p 1 = (1 : Pl p) := rfl
    rw [e]
    grind
  | n + 1 => by
    have h := dv_pow x n
    have e1 : x ^ (n + 1 + 1) = x ^ (n + 1) * x := rfl
    have e2 : x ^ (n + 1) = x ^ n * x := rfl
    have e3 : con p ((n + 1 + 1 : Nat) : Int) = con p ((n + 1 : Nat) : Int) + 1 := by
      have z : ((n + 1 + 1 : Nat) : Int) = ((n + 1 : Nat) : Int) + 1 := rfl
      rw [z]
      exact con_add _ 1
    rw [e1, dv_mul, h, e3, e2]
    grind
def Cop (a b : Pl p) : Prop := ∃ s t : Pl p, s * a + t * b = 1
theorem Cop.symm {a b : Pl p} (h : Cop a b) : Cop b a := by
  obtain ⟨s, t, h⟩ := h
  exact ⟨t, s, by grind⟩
theorem Cop.one (a : Pl p) : Cop a 1 := ⟨0, 1, by grind⟩
theorem Cop.mul {a b c : Pl p} (h : Cop a c) (k : Cop b c) : Cop (a * b) c := by
  obtain ⟨s, t, h⟩ := h
  obtain ⟨u, v, k⟩ := k
  exact ⟨s * u, s * a * v + t * u * b + t * v * c, by grind⟩
theorem Cop.pow {a c : Pl p} (h : Cop a c) : ∀ n : Nat, Cop (a ^ n) c
  | 0 => (Cop.one c).symm
  | n + 1 => (h.pow n).mul h
theorem Cop.cong {a b c : Pl p} (h : Cop a b) (e : ∃ u, c = b + u * a) : Cop a c := by
  obtain ⟨s, t, h⟩ := h
  obtain ⟨u, e⟩ := e
  exact ⟨s - t * u, t, by grind⟩
structure Gd (a b d : Pl p) : Prop where
  lc : ∃ s t : Pl p, d = s * a + t * b
  d1 : ∃ u, a = u * d
  d2 : ∃ u, b = u * d
theorem Cop.gd {a b : Pl p} (h : Cop a b) (d : Pl p) : Gd (a * d) (b * d) d := by
  obtain ⟨s, t, h⟩ := h
  exact ⟨⟨s, t, by grind⟩, ⟨a, rfl⟩, ⟨b, rfl⟩⟩
def Pr (L : List (Pl p × Nat)) (g : Nat -> Nat) : Pl p := L.foldr (fun q x => q.1 ^ g q.2 * x) 1
theorem Pr_cons (q : Pl p × Nat) (L : List (Pl p × Nat)) (g : Nat -> Nat) : Pr (q :: L) g = q.1 ^ g q.2 * Pr L g := rfl
theorem pow_add (a : Pl p) (m : Nat) : ∀ n : Nat, a ^ (m + n) = a ^ m * a ^ n
  | 0 => by
    have e : a ^ 0 = (1 : Pl p) := rfl
    rw [e]
    show a ^ m = _
    grind
  | n + 1 => by
    have h := pow_add a m n
    have e1 : a ^ (m + (n + 1)) = a ^ (m + n) * a := rfl
    have e2 : a ^ (n + 1) = a ^ n * a := rfl
    rw [e1, e2, h]
    grind
theorem Pr_add (g h : Nat -> Nat) : ∀ L : List (Pl p × Nat), Pr L (fun m => g m + h m) = Pr L g * Pr L h
  | [] => (one_mul 1).symm
  | q :: L => by
    rw [Pr_cons, Pr_cons, Pr_cons, Pr_add g h L, pow_add]
    grind
theorem Pr_congr {g h : Nat -> Nat} : ∀ {L : List (Pl p × Nat)}, (∀ q ∈ L, g q.2 = h q.2) -> Pr L g = Pr L h
  | [], _ => rfl
  | q :: L, e => by rw [Pr_cons, Pr_cons, e q (List.mem_cons_self ..), Pr_congr fun r hr => e r (List.mem_cons_of_mem _ hr)]
theorem Pr_sub {g h : Nat -> Nat} {L : List (Pl p × Nat)} (e : ∀ q ∈ L, h q.2 <= g q.2) : Pr L g = Pr L (fun m => g m - h m) * Pr L h := by
  rw [<- Pr_add]
  exact Pr_congr fun q hq => by have := e q hq; show g q.2 = g q.2 - h q.2 + h q.2; omega
def Apart (L : List (Pl p × Nat)) : Prop := L.Pairwise fun q r => Cop q.1 r.1
theorem Pr_one (c : Pl p) (g : Nat -> Nat) : ∀ {L : List (Pl p × Nat)}, (∀ q ∈ L, Cop q.1 c \/ g q.2 = 0) -> Cop (Pr L g) c
  | [], _ => (Cop.one c).symm
  | q :: L, h => by
    rw [Pr_cons]
    refine Cop.mul ?_ (Pr_one c g fun r hr => h r (List.mem_cons_of_mem _ hr))
    rcases h q (List.mem_cons_self ..) with h | h
    . exact h.pow _
    . rw [h]
      exact (Cop.one c).symm
theorem Pr_cop {g h : Nat -> Nat} (d : ∀ m, g m = 0 \/ h m = 0) : ∀ {L : List (Pl p × Nat)}, Apart L -> Cop (Pr L g) (Pr L h)
  | [], _ => Cop.one 1
  | q :: L, A => by
    obtain ⟨A1, A2⟩ := List.pairwise_cons.mp A
    have ih := Pr_cop d A2
    have a1 : ∀ g' : Nat -> Nat, Cop (Pr L g') q.1 := fun g' => Pr_one q.1 g' fun r hr => .inl (A1 r hr).symm
    rw [Pr_cons, Pr_cons]
    refine Cop.mul ?_ (Cop.symm (Cop.mul ?_ ih.symm))
    . refine Cop.symm (Cop.mul ?_ ((a1 h).symm.pow _).symm)
      rcases d q.2 with e | e
      . rw [e]
        exact Cop.one _
      . rw [e]
        exact (Cop.one _).symm
    . exact ((a1 g).symm.pow _)
theorem Pr_gd {g h : Nat -> Nat} {L : List (Pl p × Nat)} (A : Apart L) : Gd (Pr L g) (Pr L h) (Pr L fun m => min (g m) (h m)) := by
  rw [Pr_sub (g := g) (h := fun m => min (g m) (h m)) (fun q _ => Nat.min_le_left ..), Pr_sub (g := h) (h := fun m => min (g m) (h m)) (fun q _ => Nat.min_le_right ..)]
  exact (Pr_cop (fun m => by show g m - min (g m) (h m) = 0 \/ h m - min (g m) (h m) = 0; omega) A).gd _
def lw (p : Int) (m : Nat) : Nat := if p ∣ (m : Int) then m else m - 1
def ly (p : Int) (m : Nat) : Nat := if p ∣ (m : Int) then 0 else 1
theorem con_p {c : Int} (h : p ∣ c) : con p c = 0 := mk_eq.mpr fun n => by
  cases n with
  | zero => show p ∣ c - 0; rw [Int.sub_zero]; exact h
  | succ n => exact Int.dvd_zero p
theorem con_inv {c t : Int} (h : p ∣ t * c - 1) : con p t * con p c = 1 := by
  have e : con p t * con p c = mk p (scl t [c]) := con_mk t [c]
  rw [e, one_def]
  exact mk_eq.mpr fun n => by
    cases n with
    | zero => exact h
    | succ n => exact Int.dvd_zero p
theorem alg1 (C D Y E Q W q1 : Pl p) : C * Q * D * (E * Y) + Q * q1 * (E * W) = Q * E * (C * D * Y + q1 * W) := by grind
theorem alg2 {T C q1 : Pl p} (h : T * C = 1) : Cop C q1 := ⟨T, 0, by grind⟩
theorem Pr_slope (hinv : ∀ x : Int, ¬ p ∣ x -> ∃ t, p ∣ t * x - 1) {g : Nat -> Nat} : ∀ {L : List (Pl p × Nat)}, Apart L -> (∀ q ∈ L, Cop q.1 (dv q.1)) -> ∃ W, dv (Pr L g) = Pr L (fun m => lw p (g m)) * W /\ Cop (Pr L fun m => ly p (g m)) W
  | [], _, _ => ⟨0, by
      show dv (con p 1) = _
      rw [dv_con]
      grind, (Cop.one _).symm⟩
  | q :: L, A, S => by
    obtain ⟨A1, A2⟩ := List.pairwise_cons.mp A
    obtain ⟨W, e, c⟩ := Pr_slope hinv A2 fun r hr => S r (List.mem_cons_of_mem _ hr)
    have a1 : ∀ g' : Nat -> Nat, Cop (Pr L g') q.1 := fun g' => Pr_one q.1 g' fun r hr => .inl (A1 r hr).symm
    have spl : Pr L g = Pr L (fun m => lw p (g m)) * Pr L fun m => ly p (g m) := by
      rw [<- Pr_add]
      exact Pr_congr fun r _ => by
        show g r.2 = lw p (g r.2) + ly p (g r.2)
        unfold lw ly
        by_cases h : p ∣ (g r.2 : Int)
        . rw [if_pos h, if_pos h]; rfl
        . rw [if_neg h, if_neg h]
          have : g r.2 ≠ 0 := fun z => h (by rw [z]; exact Int.dvd_zero p)
          omega
    have sq := S q (List.mem_cons_self ..)
    simp only [Pr_cons]
    rw [dv_mul, e]
    by_cases h : p ∣ (g q.2 : Int)
    . refine ⟨W, ?_, ?_⟩
      . have z : dv (q.1 ^ g q.2) = 0 := by
          cases hm : g q.2 with
          | zero => exact dv_con 1
          | succ n =>
            rw [dv_pow, con_p (by rw [<- hm]; exact h)]
            grind
        rw [z]
        have e1 : lw p (g q.2) = g q.2 := if_pos h
        rw [e1]
        grind
      . have e1 : ly p (g q.2) = 0 := if_pos h
        rw [e1]
        have e2 : q.1 ^ 0 = (1 : Pl p) := rfl
        rw [e2, one_mul]
        exact c
    . obtain ⟨t, ht⟩ := hinv _ h
      have i1 := con_inv ht
      have e1 : lw p (g q.2) = g q.2 - 1 := if_neg h
      have e2 : ly p (g q.2) = 1 := if_neg h
      have e3 : q.1 ^ 1 = q.1 := one_mul q.1
      obtain ⟨n, hn⟩ : ∃ n, g q.2 = n + 1 := ⟨g q.2 - 1, by
        have : g q.2 ≠ 0 := fun z => h (by rw [z]; exact Int.dvd_zero p)
        omega⟩
      have e4 : g q.2 - 1 = n := by omega
      have e5 : q.1 ^ (n + 1) = q.1 ^ n * q.1 := rfl
      have c1 := a1 fun m => ly p (g m)
      rw [e1, e2, e3, spl, e4]
      rw [hn] at i1
      rw [hn, dv_pow, e5]
      generalize (Pr L fun m => ly p (g m)) = Y at *
      generalize (Pr L fun m => lw p (g m)) = E at *
      generalize q.1 ^ n = Q at *
      generalize con p ((n + 1 : Nat) : Int) = C at *
      generalize con p t = T at *
      generalize dv q.1 = D at *
      generalize q.1 = q1 at *
      refine ⟨C * D * Y + q1 * W, alg1 .., ?_⟩
      refine Cop.mul ?_ ?_
      . have k : Cop q1 (C * D * Y) := ((Cop.mul (Cop.mul (alg2 i1) sq.symm) c1)).symm
        exact k.cong ⟨W, by rw [mul_comm W]⟩
      . have k : Cop Y (q1 * W) := (Cop.mul c1.symm c.symm).symm
        exact k.cong ⟨C * D, add_comm _ _⟩
theorem Pr_gs (hinv : ∀ x : Int, ¬ p ∣ x -> ∃ t, p ∣ t * x - 1) {g : Nat -> Nat} {L : List (Pl p × Nat)} (A : Apart L) (S : ∀ q ∈ L, Cop q.1 (dv q.1)) : Gd (Pr L g) (dv (Pr L g)) (Pr L fun m => lw p (g m)) := by
  obtain ⟨W, e, c⟩ := Pr_slope hinv (g := g) A S
  have spl : Pr L g = Pr L (fun m => ly p (g m)) * Pr L fun m => lw p (g m) := by
    rw [<- Pr_add]
    exact Pr_congr fun r _ => by
      show g r.2 = ly p (g r.2) + lw p (g r.2)
      unfold lw ly
      by_cases h : p ∣ (g r.2 : Int)
      . rw [if_pos h, if_pos h]; omega
      . rw [if_neg h, if_neg h]
        have : g r.2 ≠ 0 := fun z => h (by rw [z]; exact Int.dvd_zero p)
        omega
  rw [e, mul_comm, spl]
  exact c.gd _
end Pl
namespace Pl
variable {p : Int}
def ls (x : Pl p) : List Int := Quotient.lift (s := plS p) (Tz p) (fun a b h => form_ext (Tz_form p a) (Tz_form p b) fun n => by
  rw [Tz_get, Tz_get]
  exact (pl_iff p _ _).mpr (h n)) x
theorem ls_mk (a : List Int) : ls (mk p a) = Tz p a := rfl
theorem mk_tz (a : List Int) : mk p (Tz p a) = mk p a := mk_eq.mpr (dvd_tz p a)
theorem mk_ls (x : Pl p) : mk p (ls x) = x := by
  obtain ⟨a, rfl⟩ := rep x
  exact mk_tz a
theorem ls_fo (x : Pl p) : Fo p (ls x) := by
  obtain ⟨a, rfl⟩ := rep x
  exact Fo.tz p a
theorem ls_tz (x : Pl p) : Tz p (ls x) = ls x := form_tz (ls_fo x).form (ls_fo x).red
theorem ls_of {f : List Int} (h : Fo p f) : ls (mk p f) = f := form_tz h.form h.red
def Mo (x : Pl p) : Prop := lastI (ls x) = 1
theorem Mo.ne {x : Pl p} (h : Mo x) : ls x ≠ [] := last_ne h
theorem Mo.pos {x : Pl p} (h : Mo x) : 0 < (ls x).length := lP h.ne
theorem pl_1 (p2 : 2 <= p) : pl p 1 = 1 := by rw [pl_pos (by omega)]; exact Int.emod_eq_of_lt (by decide) (by omega)
theorem ls_1 (p2 : 2 <= p) : ls (1 : Pl p) = [1] := ls_of ⟨fun _ => by decide, fun n => by
  cases n with
  | zero => exact pl_1 p2
  | succ n => exact pl_0 p⟩
theorem Mo.one (p2 : 2 <= p) : Mo (1 : Pl p) := by
  unfold Mo
  rw [ls_1 p2]
  rfl
theorem Mo.mul2 (p2 : 2 <= p) {x y : Pl p} (hx : Mo x) (hy : Mo y) : Mo (x * y) /\ (ls (x * y)).length + 1 = (ls x).length + (ls y).length := by
  have lx := hx.pos
  have ly := hy.pos
  have ez : ls (x * y) = Tz p (convL (ls x) (ls y)) := by
    have e : x * y = mk p (ls x) * mk p (ls y) := by rw [mk_ls, mk_ls]
    rw [e, mk_mul]
    rfl
  have hx : (ls x).getD ((ls x).length - 1) 0 = 1 := hx
  have hy' : lastI (ls y) = 1 := hy
  have top : (Tz p (convL (ls x) (ls y))).getD ((ls x).length - 1 + ((ls y).length - 1)) 0 = 1 := by
    rw [Tz_get, convL_get, <- pl_1 p2]
    refine (pl_iff p _ _).mpr ?_
    have := cm_top (z := p) (E := ls x) (d := ls y) (i := (ls x).length - 1) ly fun j hj => by rw [getD_ge (by omega)]; exact Int.dvd_zero p
    rw [hx, hy', Int.one_mul] at this
    exact this
  have l1 : (Tz p (convL (ls x) (ls y))).length <= (ls x).length + (ls y).length - 1 := form_len (Tz_form p _) fun n hn => by
    rw [Tz_get, convL_get, cm_ge (by omega)]
    exact pl_0 p
  have l2 : (ls x).length - 1 + ((ls y).length - 1) < (Tz p (convL (ls x) (ls y))).length := by
    refine Nat.lt_of_not_le fun h => ?_
    rw [getD_ge h] at top
    exact absurd top (by decide)
  rw [<- ez] at l1 l2 top
  refine ⟨?_, by omega⟩
  show (ls (x * y)).getD ((ls (x * y)).length - 1) 0 = 1
  have e : (ls (x * y)).length - 1 = (ls x).length - 1 + ((ls y).length - 1) := by omega
  rw [e]
  exact top
theorem Mo.mul (p2 : 2 <= p) {x y : Pl p} (hx : Mo x) (hy : Mo y) : Mo (x * y) := (Mo.mul2 p2 hx hy).1
theorem Mo.len (p2 : 2 <= p) {x y : Pl p} (hx : Mo x) (hy : Mo y) : (ls (x * y)).length + 1 = (ls x).length + (ls y).length := (Mo.mul2 p2 hx hy).2
theorem Mo.pow (p2 : 2 <= p) {x : Pl p} (hx : Mo x) : ∀ n : Nat, Mo (x ^ n)
  | 0 => Mo.one p2
  | n + 1 => Mo.mul p2 (hx.pow p2 n) hx
theorem Mo.pr (p2 : 2 <= p) {g : Nat -> Nat} : ∀ {L : List (Pl p × Nat)}, (∀ q ∈ L, Mo q.1) -> Mo (Pr L g)
  | [], _ => Mo.one p2
  | q :: L, h => Mo.mul p2 ((h q (List.mem_cons_self ..)).pow p2 _) (Mo.pr p2 fun r hr => h r (List.mem_cons_of_mem _ hr))
theorem Mo.lenpow (p2 : 2 <= p) {x : Pl p} (hx : Mo x) : ∀ n : Nat, (ls (x ^ n)).length = n * ((ls x).length - 1) + 1
  | 0 => by
    have e : x ^ 0 = (1 : Pl p) := rfl
    rw [e, ls_1 p2]
    show 1 = 0 * _ + 1
    omega
  | n + 1 => by
    have h := Mo.len p2 (hx.pow p2 n) hx
    have e : x ^ (n + 1) = x ^ n * x := rfl
    have l := hx.pos
    rw [e]
    rw [Mo.lenpow p2 hx n] at h
    rw [Nat.succ_mul]
    omega
theorem Pr_len (p2 : 2 <= p) {g : Nat -> Nat} : ∀ {L : List (Pl p × Nat)}, (∀ q ∈ L, Mo q.1) -> (∀ q ∈ L, 1 < (ls q.1).length) -> (1 < (ls (Pr L g)).length ↔ ∃ q ∈ L, g q.2 ≠ 0)
  | [], _, _ => by
    have e : Pr ([] : List (Pl p × Nat)) g = 1 := rfl
    rw [e, ls_1 p2]
    refine ⟨fun h => absurd h (by decide), fun ⟨q, h, _⟩ => by cases h⟩
  | q :: L, h, d => by
    have h1 := h q (List.mem_cons_self ..)
    have d1 := d q (List.mem_cons_self ..)
    have ih := Pr_len p2 (g := g) (fun r hr => h r (List.mem_cons_of_mem _ hr)) (fun r hr => d r (List.mem_cons_of_mem _ hr))
    have m2 : Mo (Pr L g) := Mo.pr p2 fun r hr => h r (List.mem_cons_of_mem _ hr)
    have hl := Mo.len p2 (h1.pow p2 (g q.2)) m2
    have mp := m2.pos
    rw [Mo.lenpow p2 h1, <- Pr_cons] at hl
    have nz : g q.2 * ((ls q.1).length - 1) = 0 ↔ g q.2 = 0 := by
      rw [Nat.mul_eq_zero]
      omega
    refine ⟨fun k => ?_, fun ⟨r, hr, k⟩ => ?_⟩
    . by_cases c : g q.2 = 0
      . rw [nz.mpr c] at hl
        obtain ⟨r, hr, k⟩ := ih.mp (by omega)
        exact ⟨r, List.mem_cons_of_mem _ hr, k⟩
      . exact ⟨q, List.mem_cons_self .., c⟩
    . rcases List.mem_cons.mp hr with e | hr
      . subst e
        have : g r.2 * ((ls r.1).length - 1) ≠ 0 := fun z => k (nz.mp z)
        omega
      . have := ih.mpr ⟨r, hr, k⟩
        omega
theorem gd_gc {f g : List Int} {d : Pl p} (h : Gd (mk p f) (mk p g) d) (m : Mo d) : GC p f g (ls d) := by
  obtain ⟨⟨s, t, e⟩, ⟨u, e1⟩, ⟨v, e2⟩⟩ := h
  obtain ⟨a, rfl⟩ := rep s
  obtain ⟨b, rfl⟩ := rep t
  obtain ⟨c, rfl⟩ := rep u
  obtain ⟨c2, rfl⟩ := rep v
  have z : ∀ {f c : List Int}, mk p f = mk p c * d -> Dv p (ls d) f := fun {f c} e => by
    refine ⟨c, fun n => ?_⟩
    have e : mk p f = mk p (convL c (ls d)) := by rw [<- mk_mul, mk_ls]; exact e
    have := mk_eq.mp e n
    rw [convL_get] at this
    show p ∣ f.getD n 0 - 0 - cm c (ls d) n
    rw [Int.sub_zero]
    exact this
  refine ⟨(ls_fo d).form, (ls_fo d).red, .inr m, ⟨a, b, fun n => ?_⟩, z e1, z e2⟩
  have e : mk p (ls d) = mk p (addL (convL a f) (convL b g)) := by rw [mk_ls]; exact e
  have := mk_eq.mp e n
  rw [addL_get, convL_get, convL_get] at this
  exact this
theorem quo {f d : List Int} {q r : List Int} {u : Pl p} (p2 : 2 <= p) (I : DInv p f d q r) (rl : r.length < d.length) (mu : Mo u) (md : Mo (mk p d)) (ff : Fo p f) (fd : Fo p d) (e : mk p f = u * mk p d) : q = ls u /\ r = [] := by
  have ed : ls (mk p d) = d := ls_of fd
  have ef : ls (mk p f) = f := ls_of ff
  have d1 : lastI d = 1 := by
    have := md
    unfold Mo at this
    rw [ed] at this
    exact this
  have nz : ∀ x, p ∣ x * lastI d -> p ∣ x := fun x h => by rw [d1, Int.mul_one] at h; exact h
  have e1 : mk p (addL (convL q d) r) = mk p f := mk_eq.mpr fun n => by rw [addL_get, convL_get]; exact I.eq n
  have e2 : mk p q * mk p d + mk p r = u * mk p d := by rw [<- e, <- e1]; rfl
  obtain ⟨c, ec⟩ := rep (u - mk p q)
  have e3 : mk p r = mk p c * mk p d := by rw [<- ec]; grind
  have e4 := mk_eq.mp (e3.trans (mk_mul c d))
  have hr : r = [] := rest_one nz ⟨I.rf, I.rr, rl⟩ ⟨form_nil, fun n => by show pl p 0 = 0; exact pl_0 p, by show 0 < d.length; omega⟩ ⟨c, fun n => by
    have := e4 n
    rw [convL_get] at this
    show p ∣ r.getD n 0 - 0 - cm c d n
    rw [Int.sub_zero]
    exact this⟩
  refine ⟨?_, hr⟩
  have hd : 0 < d.length := by omega
  have hc := topE (z := p) (E := c) (S := 0) hd nz fun n _ => by
    have := e4 n
    rw [convL_get, hr] at this
    have e : (([] : List Int).getD n 0) - cm c d n = -cm c d n := by show 0 - cm c d n = _; omega
    rw [e] at this
    exact Int.dvd_neg.mp this
  have c0 : mk p c = 0 := mk_eq.mpr fun n => by
    show p ∣ c.getD n 0 - ([0] : List Int).getD n 0
    rw [get0, Int.sub_zero]
    exact hc n (Nat.zero_le _)
  have e5 : mk p q = u := by rw [c0] at ec; grind
  have ll := Mo.len p2 mu md
  rw [<- e, ef, ed] at ll
  have ql := I.ql
  have up := mu.pos
  have le : q.length = (ls u).length := by omega
  have gt : ∀ n, q.getD n 0 = (ls u).getD n 0 := fun n => pl_same (I.qr n) ((ls_fo u).red n) (mk_eq.mp (by rw [e5, mk_ls]) n)
  refine List.ext_getElem le fun n h1 h2 => ?_
  have := gt n
  rw [getD_lt h1, getD_lt h2] at this
  exact this
end Pl
namespace Pl
variable {p : Int}
def lyE (p : Int) (g : Nat -> Nat) (e m : Nat) : Nat := if p ∣ (g m : Int) then 0 else if e <= g m then 1 else 0
def dpE (p : Int) (g : Nat -> Nat) (e m : Nat) : Nat := if p ∣ (g m : Int) then g m else g m - e
def eqE (p : Int) (g : Nat -> Nat) (e m : Nat) : Nat := if p ∣ (g m : Int) then 0 else if g m = e then 1 else 0
theorem st_gd {L : List (Pl p × Nat)} (A : Apart L) (g : Nat -> Nat) (e : Nat) : Gd (Pr L (lyE p g e)) (Pr L (dpE p g e)) (Pr L (lyE p g (e + 1))) := by
  have h := Pr_gd (g := lyE p g e) (h := dpE p g e) A
  have c : Pr L (fun m => min (lyE p g e m) (dpE p g e m)) = Pr L (lyE p g (e + 1)) := Pr_congr fun q _ => by
    show min (lyE p g e q.2) (dpE p g e q.2) = lyE p g (e + 1) q.2
    unfold lyE dpE
    by_cases h : p ∣ (g q.2 : Int)
    . rw [if_pos h, if_pos h, if_pos h]; omega
    . rw [if_neg h, if_neg h, if_neg h]
      by_cases k : e + 1 <= g q.2
      . rw [if_pos k, if_pos (by omega)]; omega
      . rw [if_neg k]
        by_cases k2 : e <= g q.2
        . rw [if_pos k2]; omega
        . rw [if_neg k2]; omega
  rw [c] at h
  exact h
theorem st_ly (L : List (Pl p × Nat)) (g : Nat -> Nat) (e : Nat) : Pr L (lyE p g e) = Pr L (eqE p g e) * Pr L (lyE p g (e + 1)) := by
  rw [<- Pr_add]
  exact Pr_congr fun q _ => by
    show lyE p g e q.2 = eqE p g e q.2 + lyE p g (e + 1) q.2
    unfold lyE eqE
    by_cases h : p ∣ (g q.2 : Int)
    . rw [if_pos h, if_pos h, if_pos h]
    . rw [if_neg h, if_neg h, if_neg h]
      by_cases k : g q.2 = e
      . rw [if_pos k, if_pos (by omega), if_neg (by omega)]
      . rw [if_neg k]
        by_cases k2 : e <= g q.2
        . rw [if_pos k2, if_pos (by omega)]
        . rw [if_neg k2, if_neg (by omega)]
theorem st_dp (L : List (Pl p × Nat)) (g : Nat -> Nat) (e : Nat) : Pr L (dpE p g e) = Pr L (dpE p g (e + 1)) * Pr L (lyE p g (e + 1)) := by
  rw [<- Pr_add]
  exact Pr_congr fun q _ => by
    show dpE p g e q.2 = dpE p g (e + 1) q.2 + lyE p g (e + 1) q.2
    unfold lyE dpE
    by_cases h : p ∣ (g q.2 : Int)
    . rw [if_pos h, if_pos h, if_pos h]; omega
    . rw [if_neg h, if_neg h, if_neg h]
      by_cases k : e + 1 <= g q.2
      . rw [if_pos k]; omega
      . rw [if_neg k]; omega
theorem nz_of {p : Int} {n : Nat} (h : ¬ p ∣ (n : Int)) : n ≠ 0 := fun z => h (by rw [z]; exact Int.dvd_zero p)
theorem st_go (L : List (Pl p × Nat)) (g : Nat -> Nat) : Pr L g = Pr L (lyE p g 1) * Pr L (dpE p g 1) := by
  rw [<- Pr_add]
  exact Pr_congr fun q _ => by
    show g q.2 = lyE p g 1 q.2 + dpE p g 1 q.2
    unfold lyE dpE
    by_cases h : p ∣ (g q.2 : Int)
    . rw [if_pos h, if_pos h]; omega
    . have := nz_of h
      rw [if_neg h, if_neg h, if_pos (by omega)]; omega
theorem st_gs (hinv : ∀ x : Int, ¬ p ∣ x -> ∃ t, p ∣ t * x - 1) {L : List (Pl p × Nat)} (A : Apart L) (S : ∀ q ∈ L, Cop q.1 (dv q.1)) (g : Nat -> Nat) : Gd (Pr L g) (dv (Pr L g)) (Pr L (dpE p g 1)) := Pr_gs hinv A S
theorem one_pow : ∀ n : Nat, (1 : Pl p) ^ n = 1
  | 0 => rfl
  | n + 1 => by
    have e : (1 : Pl p) ^ (n + 1) = (1 : Pl p) ^ n * 1 := rfl
    rw [e, one_pow n, one_mul]
theorem mul_pow (a b : Pl p) : ∀ n : Nat, (a * b) ^ n = a ^ n * b ^ n
  | 0 => (one_mul 1).symm
  | n + 1 => by
    have h := mul_pow a b n
    have e1 : (a * b) ^ (n + 1) = (a * b) ^ n * (a * b) := rfl
    have e2 : a ^ (n + 1) = a ^ n * a := rfl
    have e3 : b ^ (n + 1) = b ^ n * b := rfl
    rw [e1, e2, e3, h]
    grind
theorem pow_mul (a : Pl p) (k : Nat) : ∀ n : Nat, a ^ (k * n) = (a ^ k) ^ n
  | 0 => rfl
  | n + 1 => by
    have e1 : k * (n + 1) = k * n + k := Nat.mul_succ k n
    have e2 : (a ^ k) ^ (n + 1) = (a ^ k) ^ n * a ^ k := rfl
    rw [e1, pow_add, pow_mul a k n, e2]
theorem Pr_pow (h : Nat -> Nat) (n : Nat) : ∀ L : List (Pl p × Nat), Pr L (fun m => h m * n) = Pr L h ^ n
  | [] => (one_pow n).symm
  | q :: L => by rw [Pr_cons, Pr_cons, mul_pow, Pr_pow h n L, pow_mul]
theorem mk_pw (f : List Int) : ∀ n : Nat, mk p (pw f n) = mk p f ^ n
  | 0 => rfl
  | n + 1 => by
    have h := mk_pw f n
    have e1 : mk p f ^ (n + 1) = mk p f ^ n * mk p f := rfl
    rw [e1, <- h, mk_mul]
    rfl
theorem pw_x (n : Nat) : ∀ j, (pw [0, 1] n).getD j 0 = if j = n then 1 else 0 := by
  induction n with
  | zero =>
    intro j
    cases j with
    | zero => rfl
    | succ j => rfl
  | succ n ih =>
    intro j
    show (convL (pw [0, 1] n) [0, 1]).getD j 0 = _
    rw [convL_get, cm_comm, cm_2]
    cases j with
    | zero => rw [if_pos rfl, if_neg (by omega)]; omega
    | succ j =>
      rw [if_neg (by omega), show j + 1 - 1 = j from rfl, ih j]
      by_cases c : j = n
      . rw [if_pos c, if_pos (by omega)]; omega
      . rw [if_neg c, if_neg (by omega)]; omega
theorem frobE (hp : IsP p) (f : List Int) (h0 : ∀ m ∈ f, 0 <= m) : mk p f ^ p.toNat = mk p (lcb (pw (pw [0, 1] p.toNat)) f 0) := by
  obtain ⟨Q, h⟩ := frob hp [] f h0 0
  rw [<- mk_pw]
  refine mk_eq.mpr fun n => ?_
  have h := h n
  rw [cm_comm Q [], cm_nil, Int.sub_zero, convL_get] at h
  have e : cm (pw (pw [0, 1] p.toNat) 0) (pw f p.toNat) n = (pw f p.toNat).getD n 0 := cm_1 _ n
  rw [e] at h
  exact h
theorem frob_at (hp : IsP p) (x : Pl p) (j : Nat) : (ls (x ^ p.toNat)).getD (p.toNat * j) 0 = (ls x).getD j 0 := by
  have p2 : 2 <= p := hp.1
  have h0 : ∀ m ∈ ls x, 0 <= m := fun m hm => ((ls_fo x).at hp m hm).1
  have e := frobE hp (ls x) h0
  rw [mk_ls] at e
  rw [e, ls_mk, Tz_get]
  have r := (ls_fo x).red j
  refine Eq.trans ?_ r
  refine (pl_iff p _ _).mpr ?_
  rw [lcb_get]
  have at' : ∀ k, p ∣ (pw (pw [0, 1] p.toNat) (0 + k)).getD (p.toNat * j) 0 - if k = j then 1 else 0 := fun k => by
    have e2 : mk p (pw (pw [0, 1] p.toNat) (0 + k)) = mk p (pw [0, 1] (p.toNat * k)) := by
      rw [mk_pw, mk_pw, mk_pw, Nat.zero_add, <- pow_mul]
    have := mk_eq.mp e2 (p.toNat * j)
    rw [pw_x] at this
    have e3 : (if p.toNat * j = p.toNat * k then (1 : Int) else 0) = if k = j then 1 else 0 := by
      by_cases c : k = j
      . rw [if_pos c, if_pos (by rw [c])]
      . rw [if_neg c, if_neg fun z => c (Nat.eq_of_mul_eq_mul_left (by omega) z).symm]
    rw [e3] at this
    exact this
  by_cases hj : j < (ls x).length
  . have k := sm_one (z := p) (f := fun k => (ls x).getD k 0 * (pw (pw [0, 1] p.toNat) (0 + k)).getD (p.toNat * j) 0) (i := j) hj fun i _ hi => by
      have := at' i
      rw [if_neg hi, Int.sub_zero] at this
      exact Int.dvd_mul_of_dvd_right this
    have t := at' j
    rw [if_pos rfl] at t
    generalize (pw (pw [0, 1] p.toNat) (0 + j)).getD (p.toNat * j) 0 = y at *
    generalize sm (ls x).length (fun k => (ls x).getD k 0 * (pw (pw [0, 1] p.toNat) (0 + k)).getD (p.toNat * j) 0) = S at *
    generalize (ls x).getD j 0 = z at *
    have e4 : S - z = (S - z * y) + z * (y - 1) := by rw [Int.mul_sub]; omega
    rw [e4]
    exact Int.dvd_add k (Int.dvd_mul_of_dvd_right t)
  . rw [getD_ge (by omega), Int.sub_zero]
    exact sm_dvd fun i hi => by
      have := at' i
      rw [if_neg (by omega), Int.sub_zero] at this
      exact Int.dvd_mul_of_dvd_right this
theorem frob_evry (hp : IsP p) {x : Pl p} (m : Mo x) : (List.range (ls x).length).map (fun i => (ls (x ^ p.toNat)).getD (p.toNat * i) 0) = ls x /\ (ls (x ^ p.toNat)).length = p.toNat * ((ls x).length - 1) + 1 := by
  refine ⟨List.ext_getElem (by rw [List.length_map, List.length_range]) fun n h1 h2 => ?_, m.lenpow hp.1 _⟩
  rw [List.getElem_map, List.getElem_range, frob_at hp, getD_lt h2]
end Pl
namespace Pl
variable {p : Int}
theorem Mo.inj {x y : Pl p} (h : ls x = ls y) : x = y := by rw [<- mk_ls x, <- mk_ls y, h]
theorem Mo.one_of (p2 : 2 <= p) {x : Pl p} (h : Mo x) (l : (ls x).length <= 1) : x = 1 := by
  refine Mo.inj ?_
  rw [ls_1 p2]
  have k : lastI (ls x) = 1 := h
  have := h.pos
  generalize ls x = a at *
  match a, l, this with
  | [b], _, _ => rw [show b = 1 from k]
theorem mk_nil : mk p [] = (0 : Pl p) := ext fun n => by
  show ([] : List Int).getD n 0 = ([0] : List Int).getD n 0
  rw [get0]
  rfl
theorem zero_mul' (x : Pl p) : x * 0 = 0 := by rw [mul_comm, zero_mul]
theorem Mo.ne0 {x : Pl p} (h : Mo x) : x ≠ 0 := fun z => by
  have k := h.ne
  rw [z, <- mk_nil, ls_mk] at k
  exact k rfl
theorem gd_ex (hp : IsP p) {x : Pl p} (y : Pl p) (mx : Mo x) (hl : (ls y).length <= 200) : ∃ d, Mo d /\ Gd x y d := by
  have G := gc_all hp (f := ls x) hl
  generalize gc p (ls x) (ls y) = r at G
  have up : ∀ {f : Pl p}, Dv p r (ls f) -> ∃ u, f = u * mk p r := fun {f} ⟨Q, h⟩ => ⟨mk p Q, by
    rw [mk_mul]
    refine Eq.trans (mk_ls f).symm (mk_eq.mpr fun n => ?_)
    have := h n
    rw [convL_get]
    have e : (ls f).getD n 0 - ([] : List Int).getD n 0 - cm Q r n = (ls f).getD n 0 - cm Q r n := by show _ - 0 - _ = _; omega
    rw [e] at this
    exact this⟩
  have d1 := up G.d1
  refine ⟨mk p r, ?_, ?_, d1, up G.d2⟩
  . rcases G.one with z | z
    . obtain ⟨u, e⟩ := d1
      rw [z, mk_nil, zero_mul'] at e
      exact absurd e mx.ne0
    . show lastI (ls (mk p r)) = 1
      rw [ls_of ⟨G.form, G.red⟩]
      exact z
  . obtain ⟨s, t, h⟩ := G.lc
    refine ⟨mk p s, mk p t, ?_⟩
    have e1 : mk p s * x + mk p t * y = mk p s * mk p (ls x) + mk p t * mk p (ls y) := by rw [mk_ls, mk_ls]
    rw [e1]
    exact mk_eq.mpr fun n => by rw [addL_get, convL_get, convL_get]; exact h n
theorem Mo.quo (p2 : 2 <= p) {x d u : Pl p} (mx : Mo x) (md : Mo d) (e : x = u * d) : Mo u := by
  have hd := md.pos
  have d1 : lastI (ls d) = 1 := md
  have u0 : ls u ≠ [] := fun z => mx.ne0 (by rw [e, <- mk_ls u, z, mk_nil, zero_mul])
  have lu := lP u0
  have ez : ls x = Tz p (convL (ls u) (ls d)) := by
    rw [<- ls_mk, <- mk_mul, mk_ls, mk_ls, e]
  have top : p ∣ cm (ls u) (ls d) ((ls u).length - 1 + ((ls d).length - 1)) - lastI (ls u) := by
    have := cm_top (z := p) (E := ls u) (d := ls d) (i := (ls u).length - 1) hd fun j hj => by rw [getD_ge (by omega)]; exact Int.dvd_zero p
    rw [d1, Int.mul_one] at this
    exact this
  have t2 : (ls x).getD ((ls u).length - 1 + ((ls d).length - 1)) 0 = lastI (ls u) := by
    rw [ez, Tz_get, convL_get]
    have r := (ls_fo u).red ((ls u).length - 1)
    exact ((pl_iff p _ _).mpr top).trans r
  have nz : lastI (ls u) ≠ 0 := (ls_fo u).form u0
  have l1 : (ls x).length <= (ls u).length + (ls d).length - 1 := by
    rw [ez]
    exact form_len (Tz_form p _) fun n hn => by
      rw [Tz_get, convL_get, cm_ge (by omega)]
      exact pl_0 p
  have l2 : (ls u).length - 1 + ((ls d).length - 1) < (ls x).length := by
    refine Nat.lt_of_not_le fun h => ?_
    rw [getD_ge h] at t2
    exact nz t2.symm
  have e2 : (ls x).length - 1 = (ls u).length - 1 + ((ls d).length - 1) := by omega
  show lastI (ls u) = 1
  rw [<- t2, <- e2]
  exact mx
structure Irr (q : Pl p) : Prop where
  mo : Mo q
  deg : 1 < (ls q).length
  no : ∀ a b : Pl p, Mo a -> Mo b -> q = a * b -> a = 1 \/ b = 1
theorem Irr.or (hp : IsP p) {q : Pl p} (h : Irr q) (y : Pl p) (hl : (ls y).length <= 200) : Cop q y \/ ∃ u, y = u * q := by
  obtain ⟨d, md, ⟨s, t, e⟩, ⟨u, e1⟩, ⟨v, e2⟩⟩ := gd_ex hp y h.mo hl
  rcases h.no u d (Mo.quo hp.1 h.mo md e1) md e1 with z | z
  . refine .inr ⟨v, ?_⟩
    rw [z, one_mul] at e1
    rw [e1]
    exact e2
  . refine .inl ⟨s, t, ?_⟩
    rw [<- e, z]
theorem Irr.cop (hp : IsP p) {q r : Pl p} (h : Irr q) (k : Irr r) (hl : (ls r).length <= 200) (ne : q ≠ r) : Cop q r := by
  rcases h.or hp r hl with c | ⟨u, e⟩
  . exact c
  . rcases k.no u q (Mo.quo hp.1 k.mo h.mo e) h.mo e with z | z
    . rw [z, one_mul] at e
      exact absurd e.symm ne
    . have := h.deg
      rw [z, ls_1 hp.1] at this
      exact absurd this (by decide)
theorem irr_row (hp : IsP p) : ∀ (n : Nat) (x : Pl p), Mo x -> (ls x).length <= n -> ∃ l : List (Pl p), (∀ q ∈ l, Irr q /\ (ls q).length <= (ls x).length) /\ x = l.foldr (fun q y => q * y) 1 := by
  intro n
  induction n with
  | zero => exact fun x mx h => absurd mx.pos (by omega)
  | succ n ih =>
    intro x mx h
    by_cases c : (ls x).length <= 1
    . exact ⟨[], (fun q hq => by cases hq), mx.one_of hp.1 c⟩
    by_cases I : ∀ a b : Pl p, Mo a -> Mo b -> x = a * b -> a = 1 \/ b = 1
    . refine ⟨[x], fun q hq => ?_, ?_⟩
      . rw [List.mem_singleton.mp hq]
        exact ⟨⟨mx, by omega, I⟩, Nat.le_refl _⟩
      . show x = x * 1
        rw [mul_comm, one_mul]
    . obtain ⟨a, ha⟩ := Classical.not_forall.mp I
      obtain ⟨b, hb⟩ := Classical.not_forall.mp ha
      obtain ⟨ma, hb⟩ := Classical.not_imp.mp hb
      obtain ⟨mb, hb⟩ := Classical.not_imp.mp hb
      obtain ⟨e, hb⟩ := Classical.not_imp.mp hb
      have a1 : ¬ (ls a).length <= 1 := fun z => hb (.inl (ma.one_of hp.1 z))
      have b1 : ¬ (ls b).length <= 1 := fun z => hb (.inr (mb.one_of hp.1 z))
      have ll := Mo.len hp.1 ma mb
      rw [<- e] at ll
      obtain ⟨l, hl, el⟩ := ih a ma (by omega)
      obtain ⟨k, hk, ek⟩ := ih b mb (by omega)
      refine ⟨l ++ k, fun q hq => ?_, ?_⟩
      . rcases List.mem_append.mp hq with hq | hq
        . exact ⟨(hl q hq).1, by have := (hl q hq).2; omega⟩
        . exact ⟨(hk q hq).1, by have := (hk q hq).2; omega⟩
      . rw [e, ek, el]
        clear hl el
        induction l with
        | nil => exact one_mul _
        | cons q l ih => show q * _ * _ = q * _; rw [mul_assoc, ih]; rfl
def put [DecidableEq (Pl p)] (q : Pl p) : List (Pl p × Nat) -> List (Pl p × Nat)
  | [] => [(q, 1)]
  | r :: L => if r.1 = q then (r.1, r.2 + 1) :: L else r :: put q L
theorem put_pr [DecidableEq (Pl p)] (q : Pl p) : ∀ L : List (Pl p × Nat), Pr (put q L) id = q * Pr L id
  | [] => by
    show q ^ 1 * 1 = q * 1
    have e : q ^ 1 = q := one_mul q
    rw [e]
  | r :: L => by
    unfold put
    by_cases h : r.1 = q
    . rw [if_pos h, Pr_cons, Pr_cons]
      show r.1 ^ (r.2 + 1) * _ = q * (r.1 ^ r.2 * _)
      have e : r.1 ^ (r.2 + 1) = r.1 ^ r.2 * r.1 := rfl
      rw [e, h]
      generalize Pr L id = y
      generalize q ^ r.2 = z
      grind
    . rw [if_neg h, Pr_cons, Pr_cons, put_pr q L]
      generalize Pr L id = y
      generalize r.1 ^ id r.2 = z
      grind
theorem put_mem [DecidableEq (Pl p)] {q : Pl p} : ∀ {L : List (Pl p × Nat)} {r : Pl p × Nat}, r ∈ put q L -> (r.1 = q \/ ∃ s ∈ L, s.1 = r.1) /\ (r.2 = 0 -> ∃ s ∈ L, s.2 = 0)
  | [], r, h => by
    rw [List.mem_singleton.mp h]
    exact ⟨.inl rfl, fun z => by cases z⟩
  | s :: L, r, h => by
    unfold put at h
    by_cases c : s.1 = q
    . rw [if_pos c] at h
      rcases List.mem_cons.mp h with e | h
      . rw [e]
        exact ⟨.inl c, fun z => by cases z⟩
      . exact ⟨.inr ⟨r, List.mem_cons_of_mem _ h, rfl⟩, fun z => ⟨r, List.mem_cons_of_mem _ h, z⟩⟩
    . rw [if_neg c] at h
      rcases List.mem_cons.mp h with e | h
      . rw [e]
        exact ⟨.inr ⟨s, List.mem_cons_self .., rfl⟩, fun z => ⟨s, List.mem_cons_self .., z⟩⟩
      . obtain ⟨h1, h2⟩ := put_mem h
        refine ⟨?_, fun z => ?_⟩
        . rcases h1 with h1 | ⟨t, ht, e⟩
          . exact .inl h1
          . exact .inr ⟨t, List.mem_cons_of_mem _ ht, e⟩
        . obtain ⟨t, ht, e⟩ := h2 z
          exact ⟨t, List.mem_cons_of_mem _ ht, e⟩
theorem put_nodup [DecidableEq (Pl p)] {q : Pl p} : ∀ {L : List (Pl p × Nat)}, (L.Pairwise fun a b => a.1 ≠ b.1) -> (put q L).Pairwise fun a b => a.1 ≠ b.1
  | [], _ => List.pairwise_singleton ..
  | s :: L, h => by
    obtain ⟨h1, h2⟩ := List.pairwise_cons.mp h
    unfold put
    by_cases c : s.1 = q
    . rw [if_pos c]
      exact List.pairwise_cons.mpr ⟨h1, h2⟩
    . rw [if_neg c]
      refine List.pairwise_cons.mpr ⟨fun r hr => ?_, put_nodup h2⟩
      rcases (put_mem hr).1 with e | ⟨t, ht, e⟩
      . rw [e]
        exact c
      . rw [<- e]
        exact h1 t ht
theorem irr_fam (hp : IsP p) {x : Pl p} (mx : Mo x) : ∃ L : List (Pl p × Nat), (∀ q ∈ L, Irr q.1 /\ (ls q.1).length <= (ls x).length /\ q.2 ≠ 0) /\ (L.Pairwise fun a b => a.1 ≠ b.1) /\ x = Pr L id := by
  obtain ⟨l, hl, e⟩ := irr_row hp _ x mx (Nat.le_refl _)
  have dd : DecidableEq (Pl p) := fun a b => Classical.propDecidable _
  have key : ∀ (N : Nat) (l : List (Pl p)), (∀ q ∈ l, Irr q /\ (ls q).length <= N) -> ∃ L : List (Pl p × Nat), (∀ q ∈ L, Irr q.1 /\ (ls q.1).length <= N /\ q.2 ≠ 0) /\ (L.Pairwise fun a b => a.1 ≠ b.1) /\ l.foldr (fun q y => q * y) 1 = Pr L id := by
    intro N l
    induction l with
    | nil => exact fun _ => ⟨[], (fun q hq => by cases hq), List.Pairwise.nil, rfl⟩
    | cons q l ih =>
      intro h
      obtain ⟨L, h1, h2, h3⟩ := ih fun r hr => h r (List.mem_cons_of_mem _ hr)
      have hq := h q (List.mem_cons_self ..)
      refine ⟨put q L, fun r hr => ?_, put_nodup h2, ?_⟩
      . obtain ⟨k1, k2⟩ := put_mem hr
        have nz : r.2 ≠ 0 := fun z => by
          obtain ⟨s, hs, e⟩ := k2 z
          exact (h1 s hs).2.2 e
        rcases k1 with k1 | ⟨s, hs, k1⟩
        . rw [k1]
          exact ⟨hq.1, hq.2, nz⟩
        . rw [<- k1]
          exact ⟨(h1 s hs).1, (h1 s hs).2.1, nz⟩
      . rw [put_pr, <- h3]
        rfl
  obtain ⟨L, h1, h2, h3⟩ := key _ l hl
  exact ⟨L, h1, h2, e.trans h3⟩
theorem dv_short {x : Pl p} (hx : 0 < (ls x).length) : (ls (dv x)).length < (ls x).length := by
  have e : ls (dv x) = Tz p (dl (ls x)) := by
    rw [<- ls_mk, <- dv_mk, mk_ls]
  rw [e]
  have : (Tz p (dl (ls x))).length <= (ls x).length - 1 := form_len (Tz_form p _) fun n hn => by
    rw [Tz_get, dl_get, getD_ge (by omega), Int.mul_zero]
    exact pl_0 p
  omega
theorem dv_at (hp : IsP p) {y : Pl p} (z : dv y = 0) (n : Nat) (hn : ¬ p ∣ (n : Int)) : (ls y).getD n 0 = 0 := by
  have e2 : mk p (dl (ls y)) = mk p [0] := by rw [<- dv_mk, mk_ls]; exact z
  cases n with
  | zero => exact absurd (Int.dvd_zero p) hn
  | succ n =>
    have := mk_eq.mp e2 n
    rw [get0, Int.sub_zero, dl_get] at this
    rcases isP_mul hp this with k | k
    . exact absurd k hn
    . exact pl_same ((ls_fo y).red _) (pl_0 p) (by rw [Int.sub_zero]; exact k)
theorem pow_of (hp : IsP p) {q : Pl p} (z : dv q = 0) : ∃ x : Pl p, q = x ^ p.toNat /\ ∀ j, (ls x).getD j 0 = (ls q).getD (p.toNat * j) 0 := by
  have p2 : 2 <= p := hp.1
  obtain ⟨m, hm⟩ : ∃ m, p.toNat = m + 1 := ⟨p.toNat - 1, by omega⟩
  have xg : ∀ j, (ls (mk p ((List.range (ls q).length).map fun i => (ls q).getD (p.toNat * i) 0))).getD j 0 = (ls q).getD (p.toNat * j) 0 := fun j => by
    rw [ls_mk, Tz_get]
    by_cases c : j < (ls q).length
    . rw [getD_lt (by rw [List.length_map, List.length_range]; exact c), List.getElem_map, List.getElem_range]
      exact (ls_fo q).red _
    . rw [getD_ge (by rw [List.length_map, List.length_range]; omega), getD_ge (xs := ls q) (Nat.le_trans (by omega) (Nat.le_mul_of_pos_left j (by omega)))]
      exact pl_0 p
  generalize mk p ((List.range (ls q).length).map fun i => (ls q).getD (p.toNat * i) 0) = x at xg
  refine ⟨x, ?_, xg⟩
  have zx : dv (x ^ p.toNat) = 0 := by
    rw [hm, dv_pow, con_p (by rw [<- hm]; have e : ((p.toNat : Nat) : Int) = p := Int.toNat_of_nonneg (by omega); rw [e]; exact Int.dvd_refl p)]
    grind
  refine Mo.inj (form_ext (ls_fo _).form (ls_fo _).form fun n => ?_)
  by_cases c : p ∣ (n : Int)
  . obtain ⟨k, hk⟩ := c
    have k0 : 0 <= k := by
      refine Int.not_lt.mp fun h => ?_
      have := Int.mul_neg_of_pos_of_neg (show 0 < p by omega) h
      omega
    have en : n = p.toNat * k.toNat := by
      have e1 : ((p.toNat : Nat) : Int) = p := Int.toNat_of_nonneg (by omega)
      have e2 : ((k.toNat : Nat) : Int) = k := Int.toNat_of_nonneg k0
      have : ((p.toNat * k.toNat : Nat) : Int) = p * k := by rw [Int.natCast_mul, e1, e2]
      omega
    rw [en, frob_at hp, xg]
  . rw [dv_at hp z n c, dv_at hp zx n c]
theorem irr_sep (hp : IsP p) {q : Pl p} (h : Irr q) (hl : (ls q).length <= 200) : Cop q (dv q) := by
  have p2 : 2 <= p := hp.1
  have sh := dv_short h.mo.pos
  rcases h.or hp (dv q) (by omega) with c | ⟨u, e⟩
  . exact c
  have z : dv q = 0 := by
    have r := rest_one (p := p) (d := ls q) (r := ls (dv q)) (s := []) (fun x hx => by rw [show lastI (ls q) = 1 from h.mo, Int.mul_one] at hx; exact hx) ⟨(ls_fo _).form, (ls_fo _).red, sh⟩ ⟨form_nil, fun n => by show pl p 0 = 0; exact pl_0 p, h.mo.pos⟩ ⟨ls u, fun n => by
      have e2 : mk p (ls (dv q)) = mk p (convL (ls u) (ls q)) := by rw [mk_ls, <- mk_mul, mk_ls, mk_ls]; exact e
      have := mk_eq.mp e2 n
      rw [convL_get] at this
      show p ∣ (ls (dv q)).getD n 0 - 0 - cm (ls u) (ls q) n
      rw [Int.sub_zero]
      exact this⟩
    rw [<- mk_ls (dv q), r, mk_nil]
  obtain ⟨x, ex, xg⟩ := pow_of hp z
  have dg := h.deg
  have q1 : (ls q).getD ((ls q).length - 1) 0 = 1 := h.mo
  have pd : p ∣ (((ls q).length - 1 : Nat) : Int) := by
    refine Classical.byContradiction fun c => ?_
    rw [dv_at hp z _ c] at q1
    exact absurd q1 (by decide)
  obtain ⟨k, hk⟩ := pd
  have k0 : 0 < k := by
    refine Int.not_le.mp fun h => ?_
    have := Int.mul_nonpos_of_nonneg_of_nonpos (show 0 <= p by omega) h
    omega
  have e1 : ((p.toNat : Nat) : Int) = p := Int.toNat_of_nonneg (by omega)
  have e2 : ((k.toNat : Nat) : Int) = k := Int.toNat_of_nonneg (by omega)
  have en : (ls q).length - 1 = p.toNat * k.toNat := by
    have : ((p.toNat * k.toNat : Nat) : Int) = p * k := by rw [Int.natCast_mul, e1, e2]
    omega
  have x1 : (ls x).getD k.toNat 0 = 1 := by rw [xg, <- en]; exact q1
  have xl : (ls x).length <= k.toNat + 1 := form_len (ls_fo x).form fun n hn => by
    rw [xg]
    refine getD_ge ?_
    have : p.toNat * (k.toNat + 1) <= p.toNat * n := Nat.mul_le_mul_left _ hn
    rw [Nat.mul_succ] at this
    omega
  have xl2 : k.toNat < (ls x).length := Nat.lt_of_not_le fun c => by
    rw [getD_ge c] at x1
    exact absurd x1 (by decide)
  have le : (ls x).length - 1 = k.toNat := by omega
  have mx : Mo x := by
    show (ls x).getD ((ls x).length - 1) 0 = 1
    rw [le]
    exact x1
  obtain ⟨m, hm⟩ : ∃ m, p.toNat = m + 1 + 1 := ⟨p.toNat - 2, by omega⟩
  have l2 := mx.lenpow p2 (m + 1)
  rw [le] at l2
  have e3 : q = x ^ (m + 1) * x := by
    rw [ex, hm]
    rfl
  rcases h.no _ _ (mx.pow p2 _) mx e3 with c | c
  . rw [c, ls_1 p2] at l2
    have : 1 = (m + 1) * k.toNat + 1 := l2
    have : 0 < (m + 1) * k.toNat := Nat.mul_pos (by omega) (by omega)
    omega
  . rw [c, ls_1 p2] at le
    have : 1 - 1 = k.toNat := le
    omega
end Pl
namespace Pl
variable {p : Int}
structure Fam (L : List (Pl p × Nat)) : Prop where
  ap : Apart L
  sep : ∀ q ∈ L, Cop q.1 (dv q.1)
  mo : ∀ q ∈ L, Mo q.1
  dg : ∀ q ∈ L, 1 < (ls q.1).length
def qt (p : Int) (f d : List Int) : List Int := ((dvT p f d).getD ([], [])).1
theorem qt_all (hp : IsP p) {u d : Pl p} (mu : Mo u) (md : Mo d) : dvT p (ls (u * d)) (ls d) = some (ls u, []) := by
  have g1 : Int.gcd (lastI (ls d)) p = 1 := by
    rw [show lastI (ls d) = 1 from md]
    exact Int.gcd_one_left ..
  obtain ⟨h1, h2⟩ := dvN_ok (z := p) (ov := ovp p) (f := ls (u * d)) (d := ls d) md.pos (fun a c ha hc => hov hp.1 g1 a c ha hc) ((ls (u * d)).length + 1) _ _ (DInv.start (ls_fo (u * d)).form (ls_fo (u * d)).red) (Nat.lt_succ_self _)
  unfold dvT
  cases o : dvN p (ovp p) (ls d) ((ls (u * d)).length + 1) (List.replicate ((ls (u * d)).length + 1 - (ls d).length) 0) (ls (u * d)) with
  | none =>
    obtain ⟨_, _, _, _, z⟩ := h2 o
    cases z
  | some x =>
    obtain ⟨q, r⟩ := x
    obtain ⟨I, hl⟩ := h1 q r o
    obtain ⟨e1, e2⟩ := quo (u := u) hp.1 I hl mu (by rw [mk_ls]; exact md) (ls_fo _) (ls_fo _) (by rw [mk_ls, mk_ls])
    rw [e1, e2]
theorem qt_eq (hp : IsP p) {u d : Pl p} (mu : Mo u) (md : Mo d) : qt p (ls (u * d)) (ls d) = ls u := by
  unfold qt
  rw [qt_all hp mu md]
  rfl
theorem gc_ls {a b d : Pl p} (h : Gd a b d) (m : Mo d) : gc p (ls a) (ls b) = ls d := gc_eq (gd_gc (by rw [mk_ls, mk_ls]; exact h) m)
def sbT (p : Int) (f : List Int) : Nat -> List Int × List Int
  | 0 => (gc p f (Tz p (dl f)), qt p f (gc p f (Tz p (dl f))))
  | e + 1 => (qt p (sbT p f e).1 (gc p (sbT p f e).2 (sbT p f e).1), gc p (sbT p f e).2 (sbT p f e).1)
def sbG (p : Int) (f : List Int) (e : Nat) : List Int := qt p (sbT p f e).2 (gc p (sbT p f e).2 (sbT p f e).1)
theorem ls_dv (x : Pl p) : ls (dv x) = Tz p (dl (ls x)) := by rw [<- ls_mk, <- dv_mk, mk_ls]
theorem Fam.pr {L : List (Pl p × Nat)} (F : Fam L) (p2 : 2 <= p) (g : Nat -> Nat) : Mo (Pr L g) := Mo.pr p2 F.mo
theorem sbT_eq (hp : IsP p) (hinv : ∀ x : Int, ¬ p ∣ x -> ∃ t, p ∣ t * x - 1) {L : List (Pl p × Nat)} (F : Fam L) (g : Nat -> Nat) : ∀ e, sbT p (ls (Pr L g)) e = (ls (Pr L (dpE p g (e + 1))), ls (Pr L (lyE p g (e + 1))))
  | 0 => by
    have p2 : 2 <= p := hp.1
    have e1 : gc p (ls (Pr L g)) (Tz p (dl (ls (Pr L g)))) = ls (Pr L (dpE p g 1)) := by
      rw [<- ls_dv]
      exact gc_ls (st_gs hinv F.ap F.sep g) (F.pr p2 _)
    have e2 : qt p (ls (Pr L g)) (ls (Pr L (dpE p g 1))) = ls (Pr L (lyE p g 1)) := by
      conv => lhs; rw [st_go L g]
      exact qt_eq hp (F.pr p2 _) (F.pr p2 _)
    show (gc p (ls (Pr L g)) (Tz p (dl (ls (Pr L g)))), qt p (ls (Pr L g)) (gc p (ls (Pr L g)) (Tz p (dl (ls (Pr L g)))))) = _
    rw [e1, e2]
  | e + 1 => by
    have p2 : 2 <= p := hp.1
    have ih := sbT_eq hp hinv F g e
    have e1 : gc p (ls (Pr L (lyE p g (e + 1)))) (ls (Pr L (dpE p g (e + 1)))) = ls (Pr L (lyE p g (e + 1 + 1))) := gc_ls (st_gd F.ap g (e + 1)) (F.pr p2 _)
    have e2 : qt p (ls (Pr L (dpE p g (e + 1)))) (ls (Pr L (lyE p g (e + 1 + 1)))) = ls (Pr L (dpE p g (e + 1 + 1))) := by
      conv => lhs; rw [st_dp L g (e + 1)]
      exact qt_eq hp (F.pr p2 _) (F.pr p2 _)
    show (qt p (sbT p (ls (Pr L g)) e).1 (gc p (sbT p (ls (Pr L g)) e).2 (sbT p (ls (Pr L g)) e).1), gc p (sbT p (ls (Pr L g)) e).2 (sbT p (ls (Pr L g)) e).1) = _
    rw [ih]
    show (qt p (ls (Pr L (dpE p g (e + 1)))) (gc p (ls (Pr L (lyE p g (e + 1)))) (ls (Pr L (dpE p g (e + 1))))), gc p (ls (Pr L (lyE p g (e + 1)))) (ls (Pr L (dpE p g (e + 1))))) = _
    rw [e1, e2]
theorem sbG_eq (hp : IsP p) (hinv : ∀ x : Int, ¬ p ∣ x -> ∃ t, p ∣ t * x - 1) {L : List (Pl p × Nat)} (F : Fam L) (g : Nat -> Nat) (e : Nat) : sbG p (ls (Pr L g)) e = ls (Pr L (eqE p g (e + 1))) := by
  have p2 : 2 <= p := hp.1
  unfold sbG
  rw [sbT_eq hp hinv F g e]
  show qt p (ls (Pr L (lyE p g (e + 1)))) (gc p (ls (Pr L (lyE p g (e + 1)))) (ls (Pr L (dpE p g (e + 1))))) = _
  rw [gc_ls (st_gd F.ap g (e + 1)) (F.pr p2 _)]
  conv => lhs; rw [st_ly L g (e + 1)]
  exact qt_eq hp (F.pr p2 _) (F.pr p2 _)
theorem sb_end (p2 : 2 <= p) {L : List (Pl p × Nat)} (F : Fam L) {g : Nat -> Nat} {e : Nat} (h : (ls (Pr L (lyE p g e))).length <= 1) : (∀ q ∈ L, ¬ p ∣ (g q.2 : Int) -> g q.2 < e) /\ Pr L (dpE p g e) = Pr L (fun m => if p ∣ (g m : Int) then g m / p.toNat else 0) ^ p.toNat := by
  have k := mt (Pr_len p2 (g := lyE p g e) F.mo F.dg).mpr (by omega)
  have lt : ∀ q ∈ L, ¬ p ∣ (g q.2 : Int) -> g q.2 < e := fun q hq hn => Nat.lt_of_not_le fun c => k ⟨q, hq, by
    unfold lyE
    rw [if_neg hn, if_pos c]
    decide⟩
  refine ⟨lt, ?_⟩
  rw [<- Pr_pow]
  refine Pr_congr fun q hq => ?_
  unfold dpE
  show (if p ∣ (g q.2 : Int) then g q.2 else g q.2 - e) = (if p ∣ (g q.2 : Int) then g q.2 / p.toNat else 0) * p.toNat
  by_cases c : p ∣ (g q.2 : Int)
  . rw [if_pos c, if_pos c]
    have e1 : ((p.toNat : Nat) : Int) = p := Int.toNat_of_nonneg (by omega)
    exact (Nat.div_mul_cancel (Int.natCast_dvd_natCast.mp (by rw [e1]; exact c))).symm
  . rw [if_neg c, if_neg c]
    have := lt q hq c
    omega
end Pl
namespace Pl
variable {p : Int}
theorem Pr_big (p2 : 2 <= p) {g : Nat -> Nat} : ∀ {L : List (Pl p × Nat)}, (∀ q ∈ L, Mo q.1) -> (∀ q ∈ L, 1 < (ls q.1).length) -> ∀ q ∈ L, g q.2 < (ls (Pr L g)).length
  | [], _, _ => fun q h => by cases h
  | q :: L, h, d => fun r hr => by
    have h1 := h q (List.mem_cons_self ..)
    have d1 := d q (List.mem_cons_self ..)
    have m2 : Mo (Pr L g) := Mo.pr p2 fun r hr => h r (List.mem_cons_of_mem _ hr)
    have hl := Mo.len p2 (h1.pow p2 (g q.2)) m2
    have mp := m2.pos
    rw [Mo.lenpow p2 h1, <- Pr_cons] at hl
    rcases List.mem_cons.mp hr with e | hr
    . rw [e]
      have : g q.2 * 1 <= g q.2 * ((ls q.1).length - 1) := Nat.mul_le_mul_left _ (by omega)
      omega
    . have := Pr_big p2 (g := g) (fun r hr => h r (List.mem_cons_of_mem _ hr)) (fun r hr => d r (List.mem_cons_of_mem _ hr)) r hr
      omega
def evry (k : Nat) (f : List Int) : List Int := (List.range ((f.length + k - 1) / k)).map fun i => f.getD (k * i) 0
theorem evry_pow (hp : IsP p) {x : Pl p} (m : Mo x) : evry p.toNat (ls (x ^ p.toNat)) = ls x := by
  have p2 : 2 <= p := hp.1
  obtain ⟨h1, h2⟩ := frob_evry hp m
  have l := m.pos
  unfold evry
  have e : ((ls (x ^ p.toNat)).length + p.toNat - 1) / p.toNat = (ls x).length := by
    rw [h2]
    have e1 : p.toNat * ((ls x).length - 1) + 1 + p.toNat - 1 = (ls x).length * p.toNat := by
      obtain ⟨n, hn⟩ : ∃ n, (ls x).length = n + 1 := ⟨(ls x).length - 1, by omega⟩
      rw [hn, Nat.succ_mul, Nat.mul_comm]
      show n * p.toNat + 1 + p.toNat - 1 = _
      omega
    rw [e1]
    exact Nat.mul_div_cancel _ (by omega)
  rw [e]
  exact h1
def gk (p : Int) : Nat -> Nat -> Nat
  | 0, m => m
  | k + 1, m => if p ∣ (gk p k m : Int) then gk p k m / p.toNat else 0
def lf (p : Int) (f : List Int) : Nat -> List Int
  | 0 => f
  | k + 1 => evry p.toNat (sbT p (lf p f k) (lf p f k).length).1
theorem sb_far (p2 : 2 <= p) {L : List (Pl p × Nat)} (F : Fam L) (g : Nat -> Nat) {e : Nat} (h : (ls (Pr L g)).length <= e) : (ls (Pr L (lyE p g e))).length <= 1 := by
  refine Nat.le_of_not_lt fun c => ?_
  obtain ⟨q, hq, k⟩ := (Pr_len p2 F.mo F.dg).mp c
  have b := Pr_big p2 (g := g) F.mo F.dg q hq
  unfold lyE at k
  by_cases c1 : p ∣ (g q.2 : Int)
  . rw [if_pos c1] at k
    exact k rfl
  . rw [if_neg c1, if_neg (by omega)] at k
    exact k rfl
theorem lf_eq (hp : IsP p) (hinv : ∀ x : Int, ¬ p ∣ x -> ∃ t, p ∣ t * x - 1) {L : List (Pl p × Nat)} (F : Fam L) : ∀ k, lf p (ls (Pr L id)) k = ls (Pr L (gk p k))
  | 0 => rfl
  | k + 1 => by
    have ih := lf_eq hp hinv F k
    show evry p.toNat (sbT p (lf p (ls (Pr L id)) k) (lf p (ls (Pr L id)) k).length).1 = _
    rw [ih, sbT_eq hp hinv F]
    show evry p.toNat (ls (Pr L (dpE p (gk p k) ((ls (Pr L (gk p k))).length + 1)))) = _
    rw [(sb_end hp.1 F (sb_far hp.1 F (gk p k) (Nat.le_succ _))).2]
    exact evry_pow hp (F.pr hp.1 _)
theorem gk_eq (p2 : 2 <= p) : ∀ k m, gk p k m = if p.toNat ^ k ∣ m then m / p.toNat ^ k else 0
  | 0, m => by
    rw [Nat.pow_zero, if_pos (Nat.one_dvd m), Nat.div_one]
    rfl
  | k + 1, m => by
    have e1 : ((p.toNat : Nat) : Int) = p := Int.toNat_of_nonneg (by omega)
    have dv' : ∀ n : Nat, p ∣ (n : Int) ↔ p.toNat ∣ n := fun n => by
      rw [<- Int.natCast_dvd_natCast, e1]
    show (if p ∣ (gk p k m : Int) then gk p k m / p.toNat else 0) = _
    rw [gk_eq p2 k m]
    have pp : 0 < p.toNat ^ k := Nat.pow_pos (by omega)
    by_cases c : p.toNat ^ k ∣ m
    . rw [if_pos c]
      by_cases c2 : p.toNat ^ (k + 1) ∣ m
      . have c3 : p.toNat ∣ m / p.toNat ^ k := by
          rw [Nat.pow_succ] at c2
          exact (Nat.dvd_div_iff_mul_dvd c).mpr c2
        rw [if_pos ((dv' _).mpr c3), if_pos c2, Nat.div_div_eq_div_mul, <- Nat.pow_succ]
      . have c3 : ¬ p.toNat ∣ m / p.toNat ^ k := fun h => c2 (by
          rw [Nat.pow_succ]
          exact (Nat.dvd_div_iff_mul_dvd c).mp h)
        rw [if_neg (fun h => c3 ((dv' _).mp h)), if_neg c2]
    . have c2 : ¬ p.toNat ^ (k + 1) ∣ m := fun h => c (Nat.dvd_trans ⟨p.toNat, Nat.pow_succ ..⟩ h)
      rw [if_neg c, if_neg c2]
      by_cases c3 : p ∣ ((0 : Nat) : Int)
      . rw [if_pos c3, Nat.zero_div]
      . rw [if_neg c3]
def ind (c m : Nat) : Nat := if m = c then 1 else 0
theorem eq_ind (p2 : 2 <= p) {k e : Nat} (he : ¬ p ∣ (e : Int)) (m : Nat) : eqE p (gk p k) e m = ind (e * p.toNat ^ k) m := by
  have pp : 0 < p.toNat ^ k := Nat.pow_pos (by omega)
  have e0 := nz_of he
  unfold eqE ind
  rw [gk_eq p2 k m]
  by_cases c : p.toNat ^ k ∣ m
  . rw [if_pos c]
    have iff : m / p.toNat ^ k = e ↔ m = e * p.toNat ^ k := Nat.div_eq_iff_eq_mul_left pp c
    by_cases c2 : m / p.toNat ^ k = e
    . rw [c2, if_neg he, if_pos rfl, if_pos (iff.mp c2)]
    . rw [if_neg (fun h => c2 (iff.mpr h))]
      by_cases c3 : p ∣ ((m / p.toNat ^ k : Nat) : Int)
      . rw [if_pos c3]
      . rw [if_neg c3, if_neg c2]
  . rw [if_neg c, if_pos (show p ∣ ((0 : Nat) : Int) from Int.dvd_zero p), if_neg fun h => c ⟨e, by rw [h, Nat.mul_comm]⟩]
theorem eq_none {k e : Nat} (he : p ∣ (e : Int)) (g : Nat -> Nat) (m : Nat) : eqE p g e m = 0 := by
  unfold eqE
  by_cases c : p ∣ (g m : Int)
  . rw [if_pos c]
  . rw [if_neg c]
    by_cases c2 : g m = e
    . rw [c2] at c
      exact absurd he c
    . rw [if_neg c2]
theorem fp_at (hp : IsP p) (hinv : ∀ x : Int, ¬ p ∣ x -> ∃ t, p ∣ t * x - 1) {L : List (Pl p × Nat)} (F : Fam L) {k e : Nat} (he : ¬ p ∣ ((e + 1 : Nat) : Int)) : sbG p (lf p (ls (Pr L id)) k) e = ls (Pr L (ind ((e + 1) * p.toNat ^ k))) := by
  rw [lf_eq hp hinv F, sbG_eq hp hinv F]
  exact congrArg ls (Pr_congr fun q _ => eq_ind hp.1 he q.2)
theorem fp_none (hp : IsP p) (hinv : ∀ x : Int, ¬ p ∣ x -> ∃ t, p ∣ t * x - 1) {L : List (Pl p × Nat)} (F : Fam L) {k e : Nat} (he : p ∣ ((e + 1 : Nat) : Int)) : sbG p (lf p (ls (Pr L id)) k) e = [1] := by
  rw [lf_eq hp hinv F, sbG_eq hp hinv F, Pr_congr (h := fun _ => 0) fun q _ => eq_none (k := k) he _ q.2]
  have z : ∀ L : List (Pl p × Nat), Pr L (fun _ => 0) = 1 := fun L => by
    induction L with
    | nil => rfl
    | cons q L ih => rw [Pr_cons, ih]; exact one_mul 1
  rw [z, ls_1 hp.1]
theorem ind_sq (p2 : 2 <= p) (hinv : ∀ x : Int, ¬ p ∣ x -> ∃ t, p ∣ t * x - 1) {L : List (Pl p × Nat)} (F : Fam L) (c : Nat) : Cop (Pr L (ind c)) (dv (Pr L (ind c))) := by
  have h := Pr_gs hinv F.ap F.sep (g := ind c)
  have n1 : ¬ p ∣ ((1 : Nat) : Int) := fun h => by
    have := Int.le_of_dvd (by decide) h
    have e : ((1 : Nat) : Int) = 1 := rfl
    omega
  rw [Pr_congr (g := fun m => lw p (ind c m)) (h := fun _ => 0) fun q _ => by
    show lw p (ind c q.2) = 0
    unfold lw ind
    by_cases k : q.2 = c
    . rw [if_pos k, if_neg n1]
    . rw [if_neg k]
      by_cases k2 : p ∣ ((0 : Nat) : Int)
      . rw [if_pos k2]
      . rw [if_neg k2]] at h
  have z : ∀ L : List (Pl p × Nat), Pr L (fun _ => 0) = 1 := fun L => by
    induction L with
    | nil => rfl
    | cons q L ih => rw [Pr_cons, ih]; exact one_mul 1
  rw [z] at h
  obtain ⟨s, t, e⟩ := h.lc
  exact ⟨s, t, e.symm⟩
theorem ind_ap {L : List (Pl p × Nat)} (F : Fam L) {c d : Nat} (h : c ≠ d) : Cop (Pr L (ind c)) (Pr L (ind d)) := Pr_cop (fun m => by
  unfold ind
  by_cases k : m = c
  . exact .inr (if_neg (by omega))
  . exact .inl (if_neg k)) F.ap
def prC (L : List (Pl p × Nat)) : Nat -> Pl p
  | 0 => 1
  | n + 1 => prC L n * Pr L (ind (n + 1)) ^ (n + 1)
theorem prC_eq (L : List (Pl p × Nat)) : ∀ n, prC L n = Pr L fun m => if m <= n then m else 0
  | 0 => by
    rw [Pr_congr (h := fun _ => 0) fun q _ => by by_cases k : q.2 <= 0 <;> simp [k] <;> omega]
    induction L with
    | nil => rfl
    | cons q L ih => rw [Pr_cons, <- ih]; exact (one_mul 1).symm
  | n + 1 => by
    show prC L n * Pr L (ind (n + 1)) ^ (n + 1) = _
    rw [prC_eq L n, <- Pr_pow, <- Pr_add]
    exact Pr_congr fun q _ => by
      unfold ind
      by_cases k : q.2 <= n
      . rw [if_pos k, if_neg (by omega), if_pos (by omega)]; omega
      . rw [if_neg k]
        by_cases k2 : q.2 = n + 1
        . rw [if_pos k2, if_pos (by omega), k2]; omega
        . rw [if_neg k2, if_neg (by omega)]; omega
end Pl
namespace Pl
variable {p : Int}
theorem dok_mo (hp : IsP p) {x : Pl p} (m : Mo x) (l : (ls x).length <= 200) : DOk p (ls x) := ⟨hp, l, by rw [ls_tz]; exact m.ne, by rw [ls_tz, show lastI (ls x) = 1 from m]; exact Int.gcd_one_left ..⟩
theorem dvF_mo (hp : IsP p) {x u d : Pl p} (e : x = u * d) (mu : Mo u) (md : Mo d) : dvF p (Tz p (ls x)) (Tz p (ls d)) = .tup [.ints (ls u), .ints []] := by
  unfold dvF
  rw [ls_tz, ls_tz, e, qt_all hp mu md]
def prs (p : Int) (f : List Int) (N : Nat) : List PV := (List.range N).filterMap fun e => if 1 < (sbG p f e).length then some (.tup [.ints (sbG p f e), .int ((e : Int) + 1)]) else none
def seenF (p : Int) (f : List Int) : PV := .tup [.lst (prs p f f.length), .ints (sbT p f f.length).1]
theorem prs_succ (p : Int) (f : List Int) (N : Nat) : prs p f (N + 1) = prs p f N ++ if 1 < (sbG p f N).length then [.tup [.ints (sbG p f N), .int ((N : Int) + 1)]] else [] := by
  unfold prs
  rw [List.range_succ, List.filterMap_append]
  congr 1
  rw [List.filterMap_cons, List.filterMap_nil]
  by_cases c : 1 < (sbG p f N).length
  . rw [if_pos c, if_pos c]
  . rw [if_neg c, if_neg c]
theorem sb_short (p2 : 2 <= p) {L : List (Pl p × Nat)} (F : Fam L) {g : Nat -> Nat} {e n : Nat} (h : (ls (Pr L (lyE p g e))).length <= 1) (hn : e <= n) : ¬ 1 < (ls (Pr L (eqE p g n))).length /\ Pr L (dpE p g n) = Pr L (dpE p g e) := by
  have lt := (sb_end p2 F h).1
  refine ⟨fun c => ?_, Pr_congr fun q hq => ?_⟩
  . obtain ⟨q, hq, k⟩ := (Pr_len p2 F.mo F.dg).mp c
    unfold eqE at k
    by_cases c1 : p ∣ (g q.2 : Int)
    . rw [if_pos c1] at k
      exact k rfl
    . have := lt q hq c1
      rw [if_neg c1, if_neg (by omega)] at k
      exact k rfl
  . unfold dpE
    by_cases c1 : p ∣ (g q.2 : Int)
    . rw [if_pos c1, if_pos c1]
    . have := lt q hq c1
      rw [if_neg c1, if_neg c1]
      omega
theorem prs_stop (hp : IsP p) {L : List (Pl p × Nat)} (F : Fam L) {g : Nat -> Nat} {e : Nat} (h : (ls (Pr L (lyE p g (e + 1)))).length <= 1) : ∀ n, prs p (ls (Pr L g)) (e + n) = prs p (ls (Pr L g)) e
  | 0 => rfl
  | n + 1 => by
    rw [<- Nat.add_assoc, prs_succ, prs_stop hp F h n, sbG_eq hp (fun x hx => isP_inv hp hx) F, if_neg (sb_short hp.1 F h (by omega)).1, List.append_nil]
theorem sb_stop (hp : IsP p) {L : List (Pl p × Nat)} (F : Fam L) {g : Nat -> Nat} {e : Nat} (h : (ls (Pr L (lyE p g (e + 1)))).length <= 1) (he : e <= (ls (Pr L g)).length) : seenF p (ls (Pr L g)) = .tup [.lst (prs p (ls (Pr L g)) e), .ints (ls (Pr L (dpE p g (e + 1))))] := by
  unfold seenF
  obtain ⟨n, hn⟩ : ∃ n, (ls (Pr L g)).length = e + n := ⟨(ls (Pr L g)).length - e, by omega⟩
  rw [hn, prs_stop hp F h, sbT_eq hp (fun x hx => isP_inv hp hx) F]
  show PV.tup [.lst _, .ints (ls (Pr L (dpE p g (e + n + 1))))] = _
  rw [(sb_short hp.1 F h (show e + 1 <= e + n + 1 by omega)).2]
def scP (c : Int) : PV -> PV
  | .tup [a, .int e] => .tup [a, .int (e * c)]
  | q => q
def lvl (p : Int) (f : List Int) (k : Nat) : List PV := (prs p (lf p f k) (lf p f k).length).map (scP (p ^ k))
def allP (p : Int) (f : List Int) : Nat -> List PV
  | 0 => []
  | k + 1 => allP p f k ++ lvl p f k
def TT (L : List (Pl p × Nat)) (c : Nat) : PV := .tup [.ints (ls (Pr L (ind c))), .int (c : Int)]
def fpL (L : List (Pl p × Nat)) : List PV := ((List.range 31).filter fun c => decide (1 < (ls (Pr L (ind c))).length)).map (TT L)
theorem pk_cast (p2 : 2 <= p) (k : Nat) : ((p.toNat ^ k : Nat) : Int) = p ^ k := by
  rw [Int.natCast_pow, Int.toNat_of_nonneg (by omega)]
theorem mem_lvl (hp : IsP p) {L : List (Pl p × Nat)} (F : Fam L) {k : Nat} {q : PV} : q ∈ lvl p (ls (Pr L id)) k ↔ ∃ e, e < (lf p (ls (Pr L id)) k).length /\ ¬ p ∣ ((e + 1 : Nat) : Int) /\ 1 < (ls (Pr L (ind ((e + 1) * p.toNat ^ k)))).length /\ q = TT L ((e + 1) * p.toNat ^ k) := by
  have hinv := fun x hx => isP_inv hp (x := x) hx
  have p2 : 2 <= p := hp.1
  have cast : ∀ e : Nat, (((e + 1) * p.toNat ^ k : Nat) : Int) = ((e : Int) + 1) * p ^ k := fun e => by
    rw [Int.natCast_mul, pk_cast p2]
    rfl
  unfold lvl prs
  rw [List.mem_map]
  constructor
  . rintro ⟨r, hr, rfl⟩
    obtain ⟨e, he, hq⟩ := List.mem_filterMap.mp hr
    rw [List.mem_range] at he
    by_cases c : 1 < (sbG p (lf p (ls (Pr L id)) k) e).length
    . rw [if_pos c] at hq
      have nd : ¬ p ∣ ((e + 1 : Nat) : Int) := fun z => by
        rw [fp_none hp hinv F z] at c
        exact absurd c (by decide)
      rw [fp_at hp hinv F nd] at c hq
      refine ⟨e, he, nd, c, ?_⟩
      cases hq
      unfold TT
      rw [cast]
      rfl
    . rw [if_neg c] at hq
      cases hq
  . rintro ⟨e, he, nd, c, rfl⟩
    refine ⟨.tup [.ints (sbG p (lf p (ls (Pr L id)) k) e), .int ((e : Int) + 1)], List.mem_filterMap.mpr ⟨e, List.mem_range.mpr he, ?_⟩, ?_⟩
    . rw [fp_at hp hinv F nd, if_pos c]
    . rw [fp_at hp hinv F nd]
      unfold TT
      rw [cast]
      rfl
theorem mem_all (hp : IsP p) {L : List (Pl p × Nat)} (F : Fam L) {q : PV} : ∀ {K : Nat}, q ∈ allP p (ls (Pr L id)) K ↔ ∃ k e, k < K /\ e < (lf p (ls (Pr L id)) k).length /\ ¬ p ∣ ((e + 1 : Nat) : Int) /\ 1 < (ls (Pr L (ind ((e + 1) * p.toNat ^ k)))).length /\ q = TT L ((e + 1) * p.toNat ^ k)
  | 0 => by
    constructor
    . intro h; cases h
    . rintro ⟨k, e, h, _⟩; omega
  | K + 1 => by
    show q ∈ allP p (ls (Pr L id)) K ++ lvl p (ls (Pr L id)) K ↔ _
    rw [List.mem_append, mem_all hp F (K := K), mem_lvl hp F]
    constructor
    . rintro (⟨k, e, h, r⟩ | ⟨e, r⟩)
      . exact ⟨k, e, by omega, r⟩
      . exact ⟨K, e, by omega, r⟩
    . rintro ⟨k, e, h, r⟩
      by_cases c : k = K
      . subst c; exact .inr ⟨e, r⟩
      . exact .inl ⟨k, e, by omega, r⟩
theorem key_TT (L : List (Pl p × Nat)) (c : Nat) : keyP (TT L c) = (c : Int) := rfl
theorem nd_lvl (hp : IsP p) {L : List (Pl p × Nat)} (F : Fam L) (k : Nat) : ((lvl p (ls (Pr L id)) k).map keyP).Nodup := by
  have p2 : 2 <= p := hp.1
  unfold lvl prs
  rw [List.map_map, List.Nodup, List.pairwise_map, List.pairwise_filterMap]
  refine List.pairwise_lt_range.imp fun {a b} hab x hx y hy => ?_
  have shape : ∀ (e : Nat) (z : PV), (if 1 < (sbG p (lf p (ls (Pr L id)) k) e).length then some (PV.tup [.ints (sbG p (lf p (ls (Pr L id)) k) e), .int ((e : Int) + 1)]) else none) = some z -> (keyP ∘ scP (p ^ k)) z = ((e : Int) + 1) * p ^ k := fun e z h => by
    split at h
    . cases h; rfl
    . cases h
  rw [shape a x hx, shape b y hy]
  have pp : p ^ k ≠ 0 := Int.pow_ne_zero (by omega)
  intro z
  have := Int.eq_of_mul_eq_mul_right pp z
  omega
theorem nd_all (hp : IsP p) {L : List (Pl p × Nat)} (F : Fam L) : ∀ K, ((allP p (ls (Pr L id)) K).map keyP).Nodup
  | 0 => List.Pairwise.nil
  | K + 1 => by
    show ((allP p (ls (Pr L id)) K ++ lvl p (ls (Pr L id)) K).map keyP).Nodup
    rw [List.map_append, List.nodup_append]
    refine ⟨nd_all hp F K, nd_lvl hp F K, fun a ha b hb z => ?_⟩
    obtain ⟨x, hx, rfl⟩ := List.mem_map.mp ha
    obtain ⟨y, hy, rfl⟩ := List.mem_map.mp hb
    obtain ⟨k, e, hk, _, nd, _, rfl⟩ := (mem_all hp F).mp hx
    obtain ⟨e', _, _, _, rfl⟩ := (mem_lvl hp F).mp hy
    rw [key_TT, key_TT] at z
    have z : (e + 1) * p.toNat ^ k = (e' + 1) * p.toNat ^ K := Int.ofNat.inj z
    have p2 : 2 <= p := hp.1
    have pp : 0 < p.toNat ^ k := Nat.pow_pos (by omega)
    obtain ⟨m, rfl⟩ : ∃ m, K = k + (m + 1) := ⟨K - k - 1, by omega⟩
    have z2 : e + 1 = (e' + 1) * p.toNat ^ m * p.toNat := by
      refine Nat.eq_of_mul_eq_mul_right pp ?_
      rw [z, Nat.pow_add, Nat.pow_succ]
      rw [Nat.mul_comm (p.toNat ^ k), Nat.mul_assoc (e' + 1), <- Nat.mul_assoc (e' + 1) (p.toNat ^ m * p.toNat)]
    refine nd ?_
    rw [z2, Int.natCast_mul, Int.toNat_of_nonneg (by omega)]
    exact Int.dvd_mul_left ..
theorem part_ex : ∀ (n : Nat) (p2 : 2 <= p), n ≠ 0 -> ∃ e k, n = (e + 1) * p.toNat ^ k /\ ¬ p ∣ ((e + 1 : Nat) : Int) := by
  intro n p2
  induction n using Nat.strongRecOn with
  | ind n ih =>
    intro h
    by_cases c : p ∣ (n : Int)
    . have c2 : p.toNat ∣ n := by
        rw [<- Int.natCast_dvd_natCast, Int.toNat_of_nonneg (by omega)]
        exact c
      obtain ⟨m, hm⟩ := c2
      have m0 : m ≠ 0 := fun z => h (by rw [hm, z, Nat.mul_zero])
      have lt : m < n := by
        rw [hm]
        have : 2 * m <= p.toNat * m := Nat.mul_le_mul_right _ (by omega)
        omega
      obtain ⟨e, k, h1, h2⟩ := ih m lt m0
      exact ⟨e, k + 1, by rw [hm, h1, Nat.pow_succ, Nat.mul_comm p.toNat, Nat.mul_assoc], h2⟩
    . exact ⟨n - 1, 0, by rw [Nat.pow_zero, Nat.mul_one]; omega, by rw [Nat.sub_add_cancel (by omega)]; exact c⟩
theorem all_fp (hp : IsP p) {L : List (Pl p × Nat)} (F : Fam L) (nz : ∀ q ∈ L, q.2 ≠ 0) (hl : (ls (Pr L id)).length <= 31) {K : Nat} (hK : (lf p (ls (Pr L id)) K).length <= 1) : (fpL L).Perm (allP p (ls (Pr L id)) K) /\ (fpL L).Pairwise (fun a b => keyP a < keyP b) := by
  have hinv := fun x hx => isP_inv hp (x := x) hx
  have p2 : 2 <= p := hp.1
  have ord : (fpL L).Pairwise (fun a b => keyP a < keyP b) := by
    unfold fpL
    rw [List.pairwise_map]
    exact (List.pairwise_lt_range.filter _).imp fun {a b} h => by rw [key_TT, key_TT]; omega
  refine ⟨?_, ord⟩
  have n1 : (fpL L).Nodup := ord.imp fun {a b} h z => by rw [z] at h; omega
  have n2 : (allP p (ls (Pr L id)) K).Nodup := by
    have := nd_all hp F K
    rw [List.Nodup, List.pairwise_map] at this
    exact this.imp fun {a b} h z => h (by rw [z])
  refine (List.perm_ext_iff_of_nodup n1 n2).mpr fun q => ?_
  rw [mem_all hp F]
  unfold fpL
  rw [List.mem_map]
  constructor
  . rintro ⟨c, hc, rfl⟩
    obtain ⟨hr, hd⟩ := List.mem_filter.mp hc
    have hd := of_decide_eq_true hd
    obtain ⟨r, hr2, hz⟩ := (Pr_len p2 F.mo F.dg).mp hd
    have ec : r.2 = c := by
      unfold ind at hz
      by_cases z : r.2 = c
      . exact z
      . rw [if_neg z] at hz
        exact absurd rfl hz
    have c0 : c ≠ 0 := by rw [<- ec]; exact nz r hr2
    obtain ⟨e, k, h1, h2⟩ := part_ex c p2 c0
    have pp : 0 < p.toNat ^ k := Nat.pow_pos (by omega)
    have gkc : gk p k r.2 = e + 1 := by
      rw [gk_eq p2, ec, h1, if_pos ⟨e + 1, Nat.mul_comm ..⟩, Nat.mul_div_cancel _ pp]
    have big := Pr_big p2 (g := gk p k) F.mo F.dg r hr2
    rw [gkc, <- lf_eq hp hinv F] at big
    refine ⟨k, e, ?_, by omega, h2, by rw [<- h1]; exact hd, by rw [<- h1]⟩
    refine Nat.lt_of_not_le fun hKk => ?_
    rw [lf_eq hp hinv F] at hK
    have := mt (Pr_len p2 (g := gk p K) F.mo F.dg).mpr (by omega)
    refine this ⟨r, hr2, ?_⟩
    have dv' : p.toNat ^ K ∣ r.2 := by
      rw [ec, h1]
      exact Nat.dvd_trans (Nat.pow_dvd_pow _ hKk) ⟨e + 1, Nat.mul_comm ..⟩
    rw [gk_eq p2, if_pos dv']
    have : 0 < r.2 / p.toNat ^ K := Nat.div_pos (Nat.le_of_dvd (by have := nz r hr2; omega) dv') (Nat.pow_pos (by omega))
    omega
  . rintro ⟨k, e, hk, he, nd, hd, rfl⟩
    refine ⟨_, List.mem_filter.mpr ⟨List.mem_range.mpr ?_, decide_eq_true hd⟩, rfl⟩
    obtain ⟨r, hr2, hz⟩ := (Pr_len p2 F.mo F.dg).mp hd
    have ec : r.2 = (e + 1) * p.toNat ^ k := by
      unfold ind at hz
      by_cases z : r.2 = (e + 1) * p.toNat ^ k
      . exact z
      . rw [if_neg z] at hz
        exact absurd rfl hz
    have big := Pr_big p2 (g := id) F.mo F.dg r hr2
    have big : r.2 < (ls (Pr L id)).length := big
    omega
theorem lvl_nil (hp : IsP p) {L : List (Pl p × Nat)} (F : Fam L) {k : Nat} (h : (lf p (ls (Pr L id)) k).length <= 1) : lvl p (ls (Pr L id)) k = [] := by
  refine List.eq_nil_iff_forall_not_mem.mpr fun q hq => ?_
  have hinv := fun x hx => isP_inv hp (x := x) hx
  obtain ⟨e, he, nd, hd, _⟩ := (mem_lvl hp F).mp hq
  obtain ⟨r, hr2, hz⟩ := (Pr_len hp.1 F.mo F.dg).mp hd
  have ec : r.2 = (e + 1) * p.toNat ^ k := by
    unfold ind at hz
    by_cases z : r.2 = (e + 1) * p.toNat ^ k
    . exact z
    . rw [if_neg z] at hz
      exact absurd rfl hz
  have p2 : 2 <= p := hp.1
  rw [lf_eq hp hinv F] at h
  have := mt (Pr_len hp.1 (g := gk p k) F.mo F.dg).mpr (by omega)
  refine this ⟨r, hr2, ?_⟩
  rw [gk_eq hp.1, ec, if_pos ⟨e + 1, Nat.mul_comm ..⟩, Nat.mul_div_cancel _ (Nat.pow_pos (by omega))]
  omega
theorem lf_short (hp : IsP p) {L : List (Pl p × Nat)} (F : Fam L) {k : Nat} (h : 1 < (lf p (ls (Pr L id)) k).length) : k < (ls (Pr L id)).length := by
  have hinv := fun x hx => isP_inv hp (x := x) hx
  have p2 : 2 <= p := hp.1
  rw [lf_eq hp hinv F] at h
  obtain ⟨r, hr2, hz⟩ := (Pr_len p2 F.mo F.dg).mp h
  have big : r.2 < (ls (Pr L id)).length := Pr_big p2 (g := id) F.mo F.dg r hr2
  rw [gk_eq p2] at hz
  by_cases c : p.toNat ^ k ∣ r.2
  . by_cases r0 : r.2 = 0
    . rw [if_pos c, r0, Nat.zero_div] at hz
      exact absurd rfl hz
    have h1 := Nat.le_of_dvd (by omega) c
    have h2 : k < p.toNat ^ k := Nat.lt_of_lt_of_le Nat.lt_two_pow_self (Nat.pow_le_pow_left (by omega) k)
    omega
  . rw [if_neg c] at hz
    exact absurd rfl hz
theorem fam_of (hp : IsP p) {x : Pl p} (mx : Mo x) (hl : (ls x).length <= 100) : ∃ L : List (Pl p × Nat), Fam L /\ (∀ q ∈ L, q.2 ≠ 0) /\ x = Pr L id := by
  obtain ⟨L, h1, h2, h3⟩ := irr_fam hp mx
  refine ⟨L, ⟨?_, fun q hq => irr_sep hp (h1 q hq).1 (by have := (h1 q hq).2.1; omega), fun q hq => (h1 q hq).1.mo, fun q hq => (h1 q hq).1.deg⟩, fun q hq => (h1 q hq).2.2, h3⟩
  exact List.Pairwise.imp_of_mem (fun {a b} ha hb ne => (h1 a ha).1.cop hp (h1 b hb).1 (by have := (h1 b hb).2.1; omega) ne) h2
end Pl
open Pl in
theorem slope_dl (p : Int) (f : List Int) : trimZ (((f.mapIdx fun k n => (k : Int) * n).drop 1).map (pl p)) = Tz p (dl f) := by
  unfold Tz
  refine trim_pl fun n => ?_
  rw [dl_get]
  congr 1
  have e : ((f.mapIdx fun k n => (k : Int) * n).drop 1).getD n 0 = (f.mapIdx fun k n => (k : Int) * n).getD (n + 1) 0 := by
    rw [gQ, gQ, List.getElem?_drop, Nat.add_comm]
  rw [e]
  by_cases c : n + 1 < f.length
  . rw [getD_lt (by rw [List.length_mapIdx]; exact c), List.getElem_mapIdx, getD_lt c]
    congr 1
  . rw [getD_ge (by rw [List.length_mapIdx]; omega), getD_ge (by omega), Int.mul_zero]
open Pl in
theorem kx_seen_by_slope (T : Top K mg cNO cK cR) : Ok P w K mg base 6 "seen_by_slope" ["kind", "f"] (spF K (GkR cR) (fun as => ∃ (p : Int) (L : List (Pl p × Nat)) (g : Nat -> Nat), as = [.ob 0 p, .ints (ls (Pr L g))] /\ IsP p /\ Fam L /\ (ls (Pr L g)).length <= 100) fun as => match as with
    | [.ob 0 p, .ints f] => seenF p f
    | _ => .non) := by
  refine okF T.d_seen_by_slope sc_seen_by_slope (fun as ⟨a, b, c, h, _⟩ => by rw [h]; rfl) (fun f cdv A outer s H E hr => ⟨_, (xss_cons (xst_setL (i := 2) sc_seen_by_slope.nd rfl (Or.inl rfl) (newL (xcl (kx_common T) hr (xa_cons (xv 0) (xa_cons (xl 1) (xa_cons (newL (xcl (kx_slope T) hr (xa_cons (xv 0) (xa_cons (xl 1) xa_nil)))) xa_nil))))))
 (xss_cons (xst_setL (i := 3) sc_seen_by_slope.nd rfl (Or.inl rfl) (xl_of (xp_item (xc (kx_divided T) hr (xa_cons (xv 0) (xa_cons (xl 1) (xa_cons (xl 2) xa_nil)))) xn_int (fun _ _ => rfl))))
 (xss_cons (xst_ownP (i := 4) sc_seen_by_slope.nd rfl (Or.inl rfl) (xp_lst xa_nil))
 (xss_cons (xst_setI (i := 5) sc_seen_by_slope.nd rfl (Or.inl rfl) xn_int)
 (xss_cons (xst_while PassesOwn.never (xt_gt (xn_len 3 T.b_len) xn_int)
 (xss_cons (xst_setL (i := 6) sc_seen_by_slope.nd rfl (Or.inl rfl) (newL (xcl (kx_common T) hr (xa_cons (xv 0) (xa_cons (xl 3) (xa_cons (xl 2) xa_nil))))))
 (xss_cons (xst_setL (i := 7) sc_seen_by_slope.nd rfl (Or.inl rfl) (xl_of (xp_item (xc (kx_divided T) hr (xa_cons (xv 0) (xa_cons (xl 3) (xa_cons (xl 6) xa_nil)))) xn_int (fun _ _ => rfl))))
 (xss_join (xst_if (xt_gt (xn_len 7 T.b_len) xn_int)
 (xss_one (xst_appP 4 (xp_tup (xa_cons (xl 7) (xa_cons (xn 5) xa_nil)))))
 xss_nil)
 (xss_cons (xst_setL (i := 2) sc_seen_by_slope.nd rfl (Or.inl rfl) (xl_of (xp_item (xc (kx_divided T) hr (xa_cons (xv 0) (xa_cons (xl 2) (xa_cons (xl 6) xa_nil)))) xn_int (fun _ _ => rfl))))
 (xss_cons (xst_setL (i := 3) sc_seen_by_slope.nd rfl (Or.inl rfl) (xl 6))
 (xss_one (xst_aug (i := 5) sc_seen_by_slope.nd rfl (Or.inl rfl) xn_int iop_addT))))))))
 (xss_freeze 4 (xss_one (xst_ret (xp_tup (xa_cons (xv 4) (xa_cons (xl 2) xa_nil))))))))))), fun as hp => ?_⟩)
  obtain ⟨p, L, g, rfl, hp, F, hl⟩ := hp
  have p2 : 2 <= p := hp.1
  have hinv := fun x hx => isP_inv hp (x := x) hx
  have st := sbT_eq hp hinv F g
  have sg := sbG_eq hp hinv F g
  have fin := fun e => sb_stop (e := e) (g := g) hp F
  have far := fun e => sb_far (e := e) p2 F g
  have mo := fun h : Nat -> Nat => F.pr p2 h
  have go := st_go (p := p) L g
  have gdE := fun e => st_gd F.ap g e
  have ly := fun e => st_ly (p := p) L g e
  have dp := fun e => st_dp (p := p) L g e
  have lenD : ∀ e, (ls (Pr L (dpE p g e))).length <= (ls (Pr L g)).length /\ (ls (Pr L (lyE p g e))).length <= (ls (Pr L g)).length := by
    have le : ∀ h : Nat -> Nat, (∀ q ∈ L, h q.2 <= g q.2) -> (ls (Pr L h)).length <= (ls (Pr L g)).length := fun h hh => by
      have e := Pr_sub (L := L) (g := g) (h := h) hh
      have := Mo.len p2 (mo fun m => g m - h m) (mo h)
      rw [<- e] at this
      have := (mo fun m => g m - h m).pos
      omega
    refine fun e => ⟨le _ fun q _ => ?_, le _ fun q _ => ?_⟩
    . unfold dpE; split <;> omega
    . unfold lyE
      split
      . omega
      . rename_i c
        split
        . have : g q.2 ≠ 0 := fun z => c (by rw [z]; exact Int.dvd_zero p)
          omega
        . omega
  have s0 := st 0
  have s0 : (gc p (ls (Pr L g)) (Tz p (dl (ls (Pr L g)))), qt p (ls (Pr L g)) (gc p (ls (Pr L g)) (Tz p (dl (ls (Pr L g)))))) = (ls (Pr L (dpE p g 1)), ls (Pr L (lyE p g 1))) := s0
  have e1 := (Prod.mk.inj s0).1
  clear s0
  generalize hf : ls (Pr L g) = f at *
  have sl := Nat.le_trans (trimZ_len ((((f.mapIdx fun k n => (k : Int) * n).drop 1).map (pl p)))) (show _ <= f.length by rw [List.length_map, List.length_drop, List.length_mapIdx]; omega)
  refine ⟨⟨⟨rfl, rfl, ⟨⟨rfl, rfl, tT⟩, p, f, rfl, by omega⟩, tT⟩, p, f, trimZ (((f.mapIdx fun k n => (k : Int) * n).drop 1).map (pl p)), rfl, hp, by omega, by omega⟩, fun d ed => ?_⟩
  have ed : d = ls (Pr L (dpE p g 1)) := by
    have ed : d = gc p f (trimZ (((f.mapIdx fun k n => (k : Int) * n).drop 1).map (pl p))) := ed
    rw [ed, slope_dl, e1]
  have l1 := lenD 1
  have dvq : ∀ {x u y : Pl p}, x = u * y -> Mo u -> Mo y -> hasIt (dvF p (Tz p (ls x)) (Tz p (ls y))) 0 /\ itP (dvF p (Tz p (ls x)) (Tz p (ls y))) 0 = .ints (ls u) := fun e mu my => by
    rw [dvF_mo hp e mu my]
    exact ⟨⟨by show (-2 : Int) <= 0; decide, by show (0 : Int) < 2; decide⟩, rfl⟩
  have q0 := dvq go (mo _) (mo _)
  rw [hf, <- ed] at q0
  refine ⟨⟨⟨⟨⟨rfl, rfl, rfl, tT⟩, p, f, d, rfl, by rw [ed]; exact dok_mo hp (mo _) (by omega), by omega⟩, tT, q0.1⟩, ?_⟩, fun y ey => ?_⟩
  . show itP (dvF p (Tz p f) (Tz p d)) 0 = .ints (pvL (itP (dvF p (Tz p f) (Tz p d)) 0))
    rw [q0.2]
    rfl
  have ey : y = ls (Pr L (lyE p g 1)) := by
    have ey : y = pvL (itP (dvF p (Tz p f) (Tz p d)) 0) := ey
    rw [q0.2] at ey
    exact ey
  refine ⟨tT, fun l0 el0 => ⟨tT, fun o0 eo0 => ?_⟩⟩
  have el0 : l0 = [] := el0
  have eo0 : o0 = 1 := eo0
  refine to_lit (Z' := [.fr (.ob 0 p), .fr (.ints f), .fr (.ints d), .fr (.ints y), .ow (.lst l0), .fr (.int o0), .un, .un]) rfl ?_
  refine ⟨fun Z => ∃ (e : Nat) (v6 v7 : Sl), Z = [.fr (.ob 0 p), .fr (.ints f), .fr (.ints (ls (Pr L (dpE p g (e + 1))))), .fr (.ints (ls (Pr L (lyE p g (e + 1))))), .ow (.lst (prs p f e)), .fr (.int ((e : Int) + 1)), v6, v7] /\ e <= f.length, fun Z => ((f.length : Int) + 1 - getI Z 5).toNat, ⟨0, .un, .un, by rw [ed, ey, el0, eo0]; rfl, Nat.zero_le _⟩, ?_⟩
  rintro Z ⟨e, v6, v7, rfl, he⟩
  have le1 := lenD (e + 1)
  have le2 := lenD (e + 1 + 1)
  refine ⟨⟨.inl rfl, tT⟩, fun k => ?_, fun k => ?_⟩
  . have k : ((ls (Pr L (lyE p g (e + 1)))).length : Int) > 1 := k
    have lt : e + 1 < f.length := Nat.lt_of_not_le fun z => by
      have := far (e + 1) z
      omega
    refine ⟨⟨⟨rfl, rfl, rfl, tT⟩, p, ls (Pr L (lyE p g (e + 1))), ls (Pr L (dpE p g (e + 1))), rfl, hp, by omega, by omega⟩, fun nl enl => ?_⟩
    have enl : nl = ls (Pr L (lyE p g (e + 1 + 1))) := by
      have enl : nl = gc p (ls (Pr L (lyE p g (e + 1)))) (ls (Pr L (dpE p g (e + 1)))) := enl
      rw [enl]
      exact gc_ls (gdE (e + 1)) (mo _)
    have q1 := dvq (ly (e + 1)) (mo _) (mo _)
    have q2 := dvq (dp (e + 1)) (mo _) (mo _)
    have ok := dok_mo hp (mo (lyE p g (e + 1 + 1))) (by omega)
    rw [<- enl] at q1 q2 ok
    refine ⟨⟨⟨⟨⟨rfl, rfl, rfl, tT⟩, p, ls (Pr L (lyE p g (e + 1))), nl, rfl, ok, by omega⟩, tT, q1.1⟩, ?_⟩, fun gg eg => ?_⟩
    . show itP (dvF p (Tz p (ls (Pr L (lyE p g (e + 1))))) (Tz p nl)) 0 = .ints (pvL (itP (dvF p (Tz p (ls (Pr L (lyE p g (e + 1))))) (Tz p nl)) 0))
      rw [q1.2]
      rfl
    have eg : gg = sbG p f e := by
      have eg : gg = pvL (itP (dvF p (Tz p (ls (Pr L (lyE p g (e + 1))))) (Tz p nl)) 0) := eg
      rw [q1.2] at eg
      rw [sg]
      exact eg
    refine to_lit (Z' := [.fr (.ob 0 p), .fr (.ints f), .fr (.ints (ls (Pr L (dpE p g (e + 1))))), .fr (.ints (ls (Pr L (lyE p g (e + 1))))), .ow (.lst (prs p f e)), .fr (.int ((e : Int) + 1)), .fr (.ints nl), .fr (.ints gg)]) rfl ?_
    have pl1 : (prs p f e).length < sizeLine := by
      refine small1000 ?_
      unfold prs
      have := List.length_filterMap_le (fun e => if 1 < (sbG p f e).length then some (PV.tup [.ints (sbG p f e), .int ((e : Int) + 1)]) else none) (List.range e)
      rw [List.length_range] at this
      omega
    refine ⟨fun Z => Z = [.fr (.ob 0 p), .fr (.ints f), .fr (.ints (ls (Pr L (dpE p g (e + 1))))), .fr (.ints (ls (Pr L (lyE p g (e + 1))))), .ow (.lst (prs p f (e + 1))), .fr (.int ((e : Int) + 1)), .fr (.ints nl), .fr (.ints gg)], ⟨⟨.inl rfl, tT⟩, fun z => ?_, fun z => ?_⟩, ?_⟩
    . have z : (gg.length : Int) > 1 := z
      refine ⟨rfl, ⟨rfl, rfl, tT⟩, pl1, ?_⟩
      rw [prs_succ, if_pos (by rw [<- eg]; omega), <- eg]
      rfl
    . have z : ¬ (gg.length : Int) > 1 := z
      rw [prs_succ, if_neg (by rw [<- eg]; omega), List.append_nil]
    rintro Z rfl
    refine ⟨⟨⟨⟨⟨rfl, rfl, rfl, tT⟩, p, ls (Pr L (dpE p g (e + 1))), nl, rfl, ok, by omega⟩, tT, q2.1⟩, ?_⟩, fun d2 ed2 => ?_⟩
    . show itP (dvF p (Tz p (ls (Pr L (dpE p g (e + 1))))) (Tz p nl)) 0 = .ints (pvL (itP (dvF p (Tz p (ls (Pr L (dpE p g (e + 1))))) (Tz p nl)) 0))
      rw [q2.2]
      rfl
    have ed2 : d2 = ls (Pr L (dpE p g (e + 1 + 1))) := by
      have ed2 : d2 = pvL (itP (dvF p (Tz p (ls (Pr L (dpE p g (e + 1))))) (Tz p nl)) 0) := ed2
      rw [q2.2] at ed2
      exact ed2
    refine ⟨rfl, fun y2 ey2 => ?_⟩
    have ey2 : y2 = nl := ey2
    refine to_lit (Z' := [.fr (.ob 0 p), .fr (.ints f), .fr (.ints d2), .fr (.ints y2), .ow (.lst (prs p f (e + 1))), .fr (.int ((e : Int) + 1)), .fr (.ints nl), .fr (.ints gg)]) rfl ?_
    refine ⟨rfl, tT, tT, fun o eo => ?_⟩
    have eo : o = (e : Int) + 1 + 1 := eo
    refine ⟨⟨e + 1, .fr (.ints nl), .fr (.ints gg), ?_, by omega⟩, ?_⟩
    . rw [eo, ed2, ey2, enl]
      rfl
    . show ((f.length : Int) + 1 - o).toNat < ((f.length : Int) + 1 - ((e : Int) + 1)).toNat
      omega
  . have k : ¬ ((ls (Pr L (lyE p g (e + 1)))).length : Int) > 1 := k
    refine ⟨⟨rfl, rfl, tT⟩, ?_⟩
    show PV.tup [.lst (prs p f e), .ints (ls (Pr L (dpE p g (e + 1))))] = seenF p f
    rw [fin e (by omega) he]
theorem fm_map {α β : Type} {g : α -> Option β} {f : α -> β} : ∀ {l : List α}, (∀ a ∈ l, g a = some (f a)) -> l.filterMap g = l.map f
  | [], _ => rfl
  | a :: l, h => by
    rw [List.filterMap_cons, h a List.mem_cons_self, List.map_cons, fm_map fun b hb => h b (List.mem_cons_of_mem _ hb)]
theorem pick_evry (f : List Int) (k : Nat) (hk : 0 < k) : pick3 f none none (some (k : Int)) = Pl.evry k f := by
  have k1 : (k : Int) > 0 := by omega
  have eb : sliceBounds none none (some (k : Int)) f.length = (0, (f.length : Int), (k : Int)) := by
    show ((if (k : Int) > 0 then (0 : Int) else (f.length : Int) - 1), (if (k : Int) > 0 then (f.length : Int) else -1), (k : Int)) = _
    rw [if_pos k1, if_pos k1]
  unfold pick3
  rw [eb]
  show (sliceRange 0 (f.length : Int) (k : Int)).filterMap (fun j => f[j]?) = _
  have ec : sliceRange 0 (f.length : Int) (k : Int) = (List.range ((f.length + k - 1) / k)).map fun (j : Nat) => ((0 : Int) + (k : Int) * (j : Int)).toNat := by
    show (List.range (if (k : Int) > 0 then (if (0 : Int) < (f.length : Int) then ((f.length : Int) - 0 + (k : Int) - 1) / (k : Int) else 0) else (if (0 : Int) > (f.length : Int) then (0 - (f.length : Int) - (k : Int) - 1) / (-(k : Int)) else 0)).toNat).map _ = _
    rw [if_pos k1]
    congr 1
    congr 1
    by_cases c : (0 : Int) < (f.length : Int)
    . rw [if_pos c]
      have e2 : (f.length : Int) - 0 + (k : Int) - 1 = ((f.length + k - 1 : Nat) : Int) := by omega
      rw [e2, <- Int.natCast_ediv, Int.toNat_natCast]
    . rw [if_neg c]
      have z : f.length = 0 := by omega
      rw [z, Nat.zero_add, Nat.div_eq_of_lt (by omega)]
      rfl
  rw [ec, List.filterMap_map]
  unfold Pl.evry
  refine fm_map fun j hj => ?_
  rw [List.mem_range] at hj
  have lt : k * j < f.length := by
    have h1 : (j + 1) * k <= f.length + k - 1 := Nat.le_trans (Nat.mul_le_mul_right k hj) (Nat.div_mul_le_self _ _)
    rw [Nat.succ_mul, Nat.mul_comm] at h1
    omega
  show f[((0 : Int) + (k : Int) * (j : Int)).toNat]? = some (f.getD (k * j) 0)
  have e3 : ((0 : Int) + (k : Int) * (j : Int)).toNat = k * j := by
    rw [Int.zero_add, <- Int.natCast_mul, Int.toNat_natCast]
  rw [e3, List.getElem?_eq_getElem lt, getD_lt lt]
open Pl in
def fpF (p : Int) (f : List Int) : PV := .lst (sortP (allP p (nrm p (Tz p f)) 40))
open Pl in
theorem lf_next {p : Int} (hp : IsP p) {L : List (Pl p × Nat)} (F : Fam L) {k : Nat} (h : (lf p (ls (Pr L id)) k).length <= 1) : (lf p (ls (Pr L id)) (k + 1)).length <= 1 := by
  have hinv := fun x hx => isP_inv hp (x := x) hx
  rw [lf_eq hp hinv F] at h ⊢
  refine Nat.le_of_not_lt fun c => ?_
  obtain ⟨q, hq, hz⟩ := (Pr_len hp.1 F.mo F.dg).mp c
  have := mt (Pr_len hp.1 (g := gk p k) F.mo F.dg).mpr (by omega)
  refine this ⟨q, hq, fun z => hz ?_⟩
  show (if p ∣ (gk p k q.2 : Int) then gk p k q.2 / p.toNat else 0) = 0
  rw [z, Nat.zero_div, ite_self]
open Pl in
theorem all_stop {p : Int} (hp : IsP p) {L : List (Pl p × Nat)} (F : Fam L) {k : Nat} (h : (lf p (ls (Pr L id)) k).length <= 1) : ∀ n, (lf p (ls (Pr L id)) (k + n)).length <= 1 /\ allP p (ls (Pr L id)) (k + n) = allP p (ls (Pr L id)) k
  | 0 => ⟨h, rfl⟩
  | n + 1 => by
    obtain ⟨h1, h2⟩ := all_stop hp F h n
    refine ⟨lf_next hp F h1, ?_⟩
    show allP p (ls (Pr L id)) (k + n) ++ lvl p (ls (Pr L id)) (k + n) = _
    rw [h2, lvl_nil hp F h1, List.append_nil]
open Pl in
theorem lf_len {p : Int} (hp : IsP p) {L : List (Pl p × Nat)} (F : Fam L) (k : Nat) : (lf p (ls (Pr L id)) k).length <= (ls (Pr L id)).length := by
  have hinv := fun x hx => isP_inv hp (x := x) hx
  have p2 := hp.1
  rw [lf_eq hp hinv F]
  have e := Pr_sub (L := L) (g := id) (h := gk p k) fun q _ => by
    rw [gk_eq p2]
    split
    . exact Nat.div_le_self _ _
    . exact Nat.zero_le _
  have l := Mo.len p2 (F.pr p2 fun m => id m - gk p k m) (F.pr p2 (gk p k))
  rw [<- e] at l
  have := (F.pr p2 fun m => id m - gk p k m).pos
  omega
open Pl in
theorem prs_len (p : Int) (f : List Int) (N : Nat) : (prs p f N).length <= N := by
  unfold prs
  have := List.length_filterMap_le (fun e => if 1 < (sbG p f e).length then some (PV.tup [.ints (sbG p f e), .int ((e : Int) + 1)]) else none) (List.range N)
  rw [List.length_range] at this
  exact this
open Pl in
theorem all_len {p : Int} (hp : IsP p) {L : List (Pl p × Nat)} (F : Fam L) (hl : (ls (Pr L id)).length <= 31) : ∀ K, (allP p (ls (Pr L id)) K).length <= K * 31
  | 0 => Nat.le_refl _
  | K + 1 => by
    show (allP p (ls (Pr L id)) K ++ lvl p (ls (Pr L id)) K).length <= _
    have h1 := all_len hp F hl K
    have h2 := prs_len p (lf p (ls (Pr L id)) K) (lf p (ls (Pr L id)) K).length
    have h3 := lf_len hp F K
    rw [List.length_append]
    unfold lvl
    rw [List.length_map]
    omega
open Pl in
theorem pairs_ok {p : Int} (hp : IsP p) {L : List (Pl p × Nat)} (F : Fam L) (nz : ∀ q ∈ L, q.2 ≠ 0) (hl : (ls (Pr L id)).length <= 31) {K : Nat} (hK : (lf p (ls (Pr L id)) K).length <= 1) : PairsOk (allP p (ls (Pr L id)) K) /\ sortP (allP p (ls (Pr L id)) K) = fpL L := by
  obtain ⟨h1, h2⟩ := all_fp hp F nz hl hK
  have nd := nd_all hp F K
  refine ⟨⟨?_, fun q hq => ?_, nd⟩, sortP_eq h1 (h2.imp fun h => Int.le_of_lt h) nd⟩
  . rw [<- h1.length_eq]
    unfold fpL
    rw [List.length_map]
    have := List.length_filter_le (fun c => decide (1 < (ls (Pr L (ind c))).length)) (List.range 31)
    rw [List.length_range] at this
    omega
  . obtain ⟨k, e, _, _, _, _, rfl⟩ := (mem_all hp F).mp hq
    exact ⟨_, rfl⟩
theorem pow_bits {p : Int} (p2 : 2 <= p) (p3 : p <= 9973) {k : Nat} (hk : k <= 40) : (p ^ k).natAbs < 2 ^ 600 := by
  rw [Int.natAbs_pow]
  have h1 : p.natAbs ^ k <= (2 ^ 14) ^ k := Nat.pow_le_pow_left (by omega) k
  refine Nat.lt_of_le_of_lt h1 ?_
  rw [<- Nat.pow_mul]
  exact Nat.pow_lt_pow_right (by decide) (by omega)
open Pl in
theorem kx_free_parts (T : Top K mg cNO cK cR) : Ok P w K mg base 8 "free_parts" ["kind", "f"] (spF K (GkR cR) (fun as => ∃ p f, as = [.ob 0 p, .ints f] /\ IsP p /\ f.length <= 100 /\ (nrm p (Tz p f)).length <= 31 /\ Tz p f ≠ []) fun as => match as with
    | [.ob 0 p, .ints f] => fpF p f
    | _ => .non) := by
  refine okFL T.d_free_parts sc_free_parts T.l_free_parts (fun as ⟨a, b, h, _⟩ => by rw [h]; rfl) (fun f cdv A outer s H E hr hl => ⟨_, (xss_cons (xst_setL (i := 2) sc_free_parts.nd rfl (Or.inl rfl) (newL (xcl (kx_with_lead_one T) hr (xa_cons (xv 0) (xa_cons (newL (xcl (kx_trimmed T) hr (xa_cons (xv 0) (xa_cons (xl 1) xa_nil)))) xa_nil)))))
 (xss_cons (xst_if (xt_not (xt_list 2))
 (xss_one xst_never)
 xss_nil)
 (xss_cons (xst_ownP (i := 3) sc_free_parts.nd rfl (Or.inl rfl) (xp_lst xa_nil))
 (xss_cons (xst_setI (i := 4) sc_free_parts.nd rfl (Or.inl rfl) xn_int)
 (xss_cons (xst_while PassesOwn.never (xt_gt (xn_len 2 T.b_len) xn_int)
 (xss_cons (xst_setP (i := 5) sc_free_parts.nd rfl (Or.inl rfl) (xc (kx_seen_by_slope T) hr (xa_cons (xv 0) (xa_cons (xl 2) xa_nil))))
 (xss_cons (xst_forT (k := 6) (j := 7) PassesOwn.never rfl (xp_of (xp_item (xv 5) xn_int (fun _ _ => rfl))) (pg_tup rfl (pgs_cons (pg_name (i := 6) sc_free_parts.nd rfl (Or.inl rfl)) (pgs_cons (pg_name (i := 7) sc_free_parts.nd rfl (Or.inl rfl)) pgs_nil)))
 (xss_one (xst_appP 3 (xp_tup (xa_cons (xl 6) (xa_cons (xn_mul (xn 7) (xn 4)) xa_nil))))))
 (xss_cons (xst_setL (i := 2) sc_free_parts.nd rfl (Or.inl rfl) (newL (xl_slice2 (xl_of (xp_item (xv 5) xn_int (fun _ _ => rfl))) xo_none xo_none (xo_some (xn_szP (ksz T) (xv 0))) (fun _ _ => .inl rfl))))
 (xss_one (xst_aug (i := 4) sc_free_parts.nd rfl (Or.inl rfl) (xn_szP (ksz T) (xv 0)) iop_mulB))))))
 (xss_freeze 3 (xss_one (xst_ret (newP (xp_sortL hl hr T.b_sorted (xv 3))))))))))), fun as hp => ?_⟩)
  obtain ⟨p, f, rfl, hp, fl, nl, ne⟩ := hp
  have p2 : 2 <= p := hp.1
  have p3 : p <= 9973 := hp.2.1
  have hinv := fun x hx => isP_inv hp (x := x) hx
  have tzl := Tz_len p f
  have G := nrm_gc hp (Tz_form p f) (Tz_red p f)
  have mN : Mo (mk p (nrm p (Tz p f))) := by
    show lastI (ls (mk p (nrm p (Tz p f)))) = 1
    rw [ls_of ⟨G.form, G.red⟩]
    rcases G.one with z | z
    . exfalso
      obtain ⟨Q, hQ⟩ := G.d1
      rw [z] at hQ
      refine ne (form_ext (Tz_form p f) form_nil fun n => pl_same (Tz_red p f n) (by show pl p 0 = 0; exact pl_0 p) ?_)
      have := hQ n
      rw [cm_comm, cm_nil, Int.sub_zero] at this
      exact this
    . exact z
  have eN : ls (mk p (nrm p (Tz p f))) = nrm p (Tz p f) := ls_of ⟨G.form, G.red⟩
  obtain ⟨L, F, nz, eL⟩ := fam_of hp mN (by rw [eN]; omega)
  rw [eL] at eN
  have mo := fun h : Nat -> Nat => F.pr p2 h
  have lfe := lf_eq hp hinv F
  have goal : fpF p f = .lst (sortP (allP p (ls (Pr L id)) 40)) := by unfold fpF; rw [eN]
  rw [<- eN] at nl
  have llen := lf_len hp F
  have alen := all_len hp F nl
  have sh := fun k => lf_short (k := k) hp F
  have stop := fun k => all_stop (k := k) hp F
  have pok := fun K => pairs_ok (K := K) hp F nz nl
  have bits := fun k => pow_bits (k := k) p2 p3
  have nx1 : ∀ k, lf p (ls (Pr L id)) (k + 1) = evry p.toNat (sbT p (lf p (ls (Pr L id)) k) (lf p (ls (Pr L id)) k).length).1 := fun k => rfl
  have ax1 : ∀ k, allP p (ls (Pr L id)) (k + 1) = allP p (ls (Pr L id)) k ++ (prs p (lf p (ls (Pr L id)) k) (lf p (ls (Pr L id)) k).length).map (scP (p ^ k)) := fun k => rfl
  have pres : ∀ k, ∃ (p' : Int) (L' : List (Pl p' × Nat)) (g' : Nat -> Nat), [PV.ob 0 p, .ints (lf p (ls (Pr L id)) k)] = [.ob 0 p', .ints (ls (Pr L' g'))] /\ IsP p' /\ Fam L' /\ (ls (Pr L' g')).length <= 100 := fun k => ⟨p, L, gk p k, by rw [lfe], hp, F, by rw [<- lfe]; have := llen k; omega⟩
  refine ⟨⟨⟨rfl, ⟨⟨rfl, rfl, tT⟩, p, f, rfl, by omega⟩, tT⟩, p, Tz p f, rfl, hp, by omega, Tz_form p f, Tz_red p f⟩, fun x ex => ?_⟩
  have ex : x = lf p (ls (Pr L id)) 0 := by
    have ex : x = nrm p (Tz p f) := ex
    rw [ex, <- eN]
    rfl
  refine ⟨.inl rfl, fun q => ?_, fun _ => ?_⟩
  . have q : ¬ ¬ x = [] := q
    rw [ex] at q
    exact absurd (mo id).ne q
  refine ⟨tT, fun l0 el0 => ⟨tT, fun c0 ec0 => ?_⟩⟩
  have el0 : l0 = allP p (ls (Pr L id)) 0 := el0
  have ec0 : c0 = p ^ 0 := by rw [Int.pow_zero]; exact ec0
  refine to_lit (Z' := [.fr (.ob 0 p), .fr (.ints f), .fr (.ints x), .ow (.lst l0), .fr (.int c0), .un, .un, .un]) rfl ?_
  clear mN eN eL G
  generalize ls (Pr L id) = x0 at *
  refine ⟨fun Z => ∃ (k : Nat) (v5 v6 v7 : Sl), Z = [.fr (.ob 0 p), .fr (.ints f), .fr (.ints (lf p x0 k)), .ow (.lst (allP p x0 k)), .fr (.int (p ^ k)), v5, v6, v7] /\ k <= 31, fun Z => (p ^ 32 - getI Z 4).toNat, ⟨0, .un, .un, .un, by rw [ex, el0, ec0], by omega⟩, ?_⟩
  rintro Z ⟨k, v5, v6, v7, rfl, hk⟩
  have ll := llen k
  refine ⟨⟨.inl rfl, tT⟩, fun q => ?_, fun q => ?_⟩
  . have q : ((lf p x0 k).length : Int) > 1 := q
    have hk1 : k + 1 <= 31 := by have := sh k (by omega); omega
    refine ⟨⟨⟨rfl, rfl, tT⟩, pres k⟩, fun fo efo => ?_⟩
    have efo : fo = seenF p (lf p x0 k) := efo
    have pl2 := prs_len p (lf p x0 k) (lf p x0 k).length
    have pm : ∀ n ∈ prs p (lf p x0 k) (lf p x0 k).length, ∃ (G : List Int) (e : Nat), e < (lf p x0 k).length /\ n = .tup [.ints G, .int ((e : Int) + 1)] := fun n hn => by
      unfold prs at hn
      obtain ⟨e, he, h⟩ := List.mem_filterMap.mp hn
      split at h
      . cases h
        exact ⟨_, e, List.mem_range.mp he, rfl⟩
      . cases h
    have nx := nx1 k
    have ax := ax1 k
    unfold seenF at efo
    generalize prs p (lf p x0 k) (lf p x0 k).length = pr at *
    generalize (sbT p (lf p x0 k) (lf p x0 k).length).1 = dp at *
    subst efo
    refine to_lit (Z' := [.fr (.ob 0 p), .fr (.ints f), .fr (.ints (lf p x0 k)), .ow (.lst (allP p x0 k)), .fr (.int (p ^ k)), .fr (.tup [.lst pr, .ints dp]), v6, v7]) rfl ?_
    have it0 : hasIt (.tup [.lst pr, .ints dp]) 0 := ⟨by show (-2 : Int) <= 0; decide, by show (0 : Int) < 2; decide⟩
    have it1 : hasIt (.tup [.lst pr, .ints dp]) 1 := ⟨by show (-2 : Int) <= 1; decide, by show (1 : Int) < 2; decide⟩
    have al := alen k
    refine ⟨⟨⟨⟨rfl, tT, it0⟩, rfl⟩, fun n hn => ?_⟩, fun i Z => ∃ v6 v7, Z = [.fr (.ob 0 p), .fr (.ints f), .fr (.ints (lf p x0 k)), .ow (.lst (allP p x0 k ++ (pr.take i).map (scP (p ^ k)))), .fr (.int (p ^ k)), .fr (.tup [.lst pr, .ints dp]), v6, v7], ⟨v6, v7, by rw [List.take_zero, List.map_nil, List.append_nil]⟩, ?_, ?_⟩
    . have hn : n ∈ pr := hn
      obtain ⟨G, e, _, rfl⟩ := pm n hn
      rfl
    . rintro i n Z hn ⟨v6, v7, rfl⟩
      have hn : pr[i]? = some n := hn
      have hi : i < pr.length := (List.getElem?_eq_some_iff.mp hn).1
      obtain ⟨G, e, he, rfl⟩ := pm n (List.mem_of_getElem? hn)
      refine ⟨rfl, ⟨rfl, ⟨rfl, rfl, ?_⟩, tT⟩, ?_, ⟨.fr (.ints G), .fr (.int ((e : Int) + 1)), ?_⟩⟩
      . exact mul_ok (n := 600) (m := 600) (Nat.lt_of_lt_of_le (show ((e : Int) + 1).natAbs < 2 ^ 6 by show _ < 64; omega) (Nat.pow_le_pow_right (by decide) (by decide))) (bits k (by omega))
      . show (allP p x0 k ++ (pr.take i).map (scP (p ^ k))).length < sizeLine
        refine small1000 ?_
        rw [List.length_append, List.length_map, List.length_take]
        omega
      . rw [take_at hn, List.map_append, <- List.append_assoc]
        rfl
    rintro Z ⟨v6, v7, rfl⟩
    have e3 : allP p x0 k ++ (pr.take pr.length).map (scP (p ^ k)) = allP p x0 (k + 1) := by rw [List.take_length, ax]
    refine to_lit (Z' := [.fr (.ob 0 p), .fr (.ints f), .fr (.ints (lf p x0 k)), .ow (.lst (allP p x0 (k + 1))), .fr (.int (p ^ k)), .fr (.tup [.lst pr, .ints dp]), v6, v7]) (by rw [<- e3]; rfl) ?_
    refine ⟨⟨⟨⟨rfl, tT, it1⟩, rfl⟩, tT, tT, ⟨rfl, rfl⟩, ?_⟩, fun x1 ex1 => ?_⟩
    . show some p ≠ some 0
      intro z
      have := Option.some.inj z
      omega
    have ex1 : x1 = lf p x0 (k + 1) := by
      have ex1 : x1 = pick3 dp none none (some p) := ex1
      have ep : p = ((p.toNat : Nat) : Int) := (Int.toNat_of_nonneg (by omega)).symm
      rw [ex1, nx]
      conv => lhs; rw [ep]
      exact pick_evry dp p.toNat (by omega)
    refine to_lit (Z' := [.fr (.ob 0 p), .fr (.ints f), .fr (.ints x1), .ow (.lst (allP p x0 (k + 1))), .fr (.int (p ^ k)), .fr (.tup [.lst pr, .ints dp]), v6, v7]) rfl ?_
    have pb := bits 1 (by decide)
    rw [Int.pow_one] at pb
    refine ⟨rfl, ⟨rfl, rfl⟩, mul_ok (n := 600) (m := 600) (bits k (by omega)) pb, fun o eo => ?_⟩
    have eo : o = p ^ (k + 1) := by rw [Int.pow_succ]; exact eo
    refine ⟨⟨k + 1, .fr (.tup [.lst pr, .ints dp]), v6, v7, by rw [eo, ex1]; rfl, hk1⟩, ?_⟩
    show (p ^ 32 - o).toNat < (p ^ 32 - p ^ k).toNat
    have pp : 0 < p ^ k := Int.pow_pos (by omega)
    have h1 : p ^ k * 2 <= o := by rw [eo, Int.pow_succ]; exact Int.mul_le_mul_of_nonneg_left p2 (Int.le_of_lt pp)
    have h2 : o <= p ^ 32 := by
      rw [eo]
      have : ((p.toNat ^ (k + 1) : Nat) : Int) <= ((p.toNat ^ 32 : Nat) : Int) := Int.ofNat_le.mpr (Nat.pow_le_pow_right (by omega) (by omega))
      rw [pk_cast p2, pk_cast p2] at this
      exact this
    generalize p ^ 32 = B at *
    generalize p ^ k = C at *
    omega
  . have q : ¬ ((lf p x0 k).length : Int) > 1 := q
    have h1 : (lf p x0 k).length <= 1 := by omega
    obtain ⟨po, _⟩ := pok k h1
    refine ⟨⟨rfl, rfl, po⟩, ?_⟩
    show PV.lst (sortP (allP p x0 k)) = fpF p f
    rw [goal]
    have := (stop k h1 (40 - k)).2
    rw [show k + (40 - k) = 40 by omega] at this
    rw [this]
theorem kx_law_plus (T : Top K mg cNO cK cR) : Ok P w K mg base 2 "_law_plus" ["_law_one", "_law_other", "_law_prime"] (spL K (GkR cR) (fun as => ∃ f g p, as = [.ints f, .ints g, .int p] /\ 0 < p /\ f.length <= 400 /\ g.length <= 400) fun as => match as with
    | [.ints f, .ints g, .int p] => Tz p (addL f g)
    | _ => []) := by
  refine okL T.d_law_plus sc_law_plus (fun as ⟨a, b, c, h, _⟩ => by rw [h]; rfl) (fun f cdv A outer s H E hr => ⟨_, (xss_cons (xst_own (i := 3) sc_law_plus.nd rfl (Or.inl rfl) (xl_rep (xl_lst (xa_cons xn_int xa_nil)) (xn_max rfl T.b_max (xn_len 0 T.b_len) (xn_len 1 T.b_len)) (fun _ => rfl)))
 (xss_cons (xst_forR (k := 4) PassesOwn.never rfl (by rfl) T.b_range (xn_len 0 T.b_len) sc_law_plus.nd rfl (Or.inl rfl)
 (xss_one (xst_setit 3 (xn 4) (xn_item 0 (xn 4) (fun _ _ => rfl)))))
 (xss_cons (xst_forR (k := 4) PassesOwn.never rfl (by rfl) T.b_range (xn_len 1 T.b_len) sc_law_plus.nd rfl (Or.inl rfl)
 (xss_one (xst_setit 3 (xn 4) (xn_add (xn_item 3 (xn 4) (fun _ _ => rfl)) (xn_item 1 (xn 4) (fun _ _ => rfl))))))
 (xss_freeze 3 (xss_one (xst_retl (xcl (kx_form T) hr (xa_cons (xl 3) (xa_cons (xn 2) xa_nil))))))))), fun as hp => ?_⟩)
  obtain ⟨f, g, p, rfl, hp, hf, hg⟩ := hp
  have ix : ∀ (xs : List Int) (k : Nat), ixO xs.length (k : Int) = k := fun xs k => by unfold ixO; rw [if_pos (by omega)]; omega
  have hM : ∃ M : Nat, (if (g.length : Int) > (f.length : Int) then (g.length : Int) else (f.length : Int)) = (M : Int) /\ f.length <= M /\ g.length <= M /\ M <= 400 := by
    split
    . exact ⟨g.length, rfl, by omega, Nat.le_refl _, hg⟩
    . exact ⟨f.length, rfl, Nat.le_refl _, by omega, hf⟩
  obtain ⟨M, eM, fM, gM, M4⟩ := hM
  refine ⟨⟨⟨⟨tT, tT⟩, tT⟩, ⟨.inl rfl, .inl rfl⟩, ?_, ?_⟩, fun r0 er0 => ?_⟩
  . show -(2 : Int) ^ 63 <= if (g.length : Int) > (f.length : Int) then (g.length : Int) else (f.length : Int)
    rw [eM]; omega
  . show (if (g.length : Int) > (f.length : Int) then (g.length : Int) else (f.length : Int)).toNat <= 1000
    rw [eM]; omega
  have er0 : r0 = List.replicate (if (g.length : Int) > (f.length : Int) then (g.length : Int) else (f.length : Int)).toNat 0 := er0
  rw [eM, Int.toNat_natCast] at er0
  have r0g : ∀ n, r0.getD n 0 = 0 := fun n => by
    rw [er0]
    by_cases h : n < M
    . rw [getD_lt (by rw [List.length_replicate]; exact h), List.getElem_replicate]
    . rw [getD_ge (by rw [List.length_replicate]; omega)]
  have r0l : r0.length = M := by rw [er0, List.length_replicate]
  clear er0 eM
  refine to_lit (Z' := [.fr (.ints f), .fr (.ints g), .fr (.int p), .ow (.ints r0), .un]) rfl ?_
  refine ⟨.inl rfl, ⟨by show -(2 : Int) ^ 62 <= (f.length : Int); omega, by show (f.length : Int) < 2 ^ 62; omega⟩, fun i Z => ∃ row v3, Z = [.fr (.ints f), .fr (.ints g), .fr (.int p), .ow (.ints row), v3] /\ row.length = M /\ ∀ n, row.getD n 0 = if n < i then f.getD n 0 else 0, ⟨r0, .un, rfl, r0l, fun n => by rw [r0g, if_neg (by omega)]⟩, ?_, ?_⟩
  . rintro i Z hi ⟨row, v3, rfl, h1, h2⟩
    have hi : i < f.length := by have hi : i < (f.length : Int).toNat := hi; omega
    refine ⟨⟨.inl rfl, rfl, by show -(f.length : Int) <= (i : Int); omega, by show (i : Int) < (f.length : Int); omega⟩, rfl, rfl, ⟨by show -(row.length : Int) <= (i : Int); omega, by show (i : Int) < (row.length : Int); omega⟩, row.set i (f.getD i 0), .fr (.int i), ?_, by rw [List.length_set]; exact h1, fun n => ?_⟩
    . show [Sl.fr (.ints f), .fr (.ints g), .fr (.int p), .ow (.ints (row.set (ixO row.length (i : Int)) (f.getD (ixO f.length (i : Int)) 0))), .fr (.int i)] = _
      rw [ix, ix]
    . rw [set_get _ _ _ _ (show i < row.length by omega), h2]
      by_cases c : n = i
      . subst c; rw [if_pos rfl, if_pos (by omega)]
      . rw [if_neg c]
        by_cases d : n < i
        . rw [if_pos d, if_pos (by omega)]
        . rw [if_neg d, if_neg (by omega)]
  rintro Z ⟨row, v3, rfl, h1, h2⟩
  have h2 : ∀ n, row.getD n 0 = if n < (f.length : Int).toNat then f.getD n 0 else 0 := h2
  have h2 : ∀ n, row.getD n 0 = f.getD n 0 := fun n => by
    rw [h2, Int.toNat_natCast]
    by_cases c : n < f.length
    . rw [if_pos c]
    . rw [if_neg c, getD_ge (by omega)]
  refine ⟨.inl rfl, ⟨by show -(2 : Int) ^ 62 <= (g.length : Int); omega, by show (g.length : Int) < 2 ^ 62; omega⟩, fun i Z => ∃ row v3, Z = [.fr (.ints f), .fr (.ints g), .fr (.int p), .ow (.ints row), v3] /\ row.length = M /\ ∀ n, row.getD n 0 = f.getD n 0 + if n < i then g.getD n 0 else 0, ⟨row, v3, rfl, h1, fun n => by rw [h2, if_neg (by omega), Int.add_zero]⟩, ?_, ?_⟩
  . rintro i Z hi ⟨row, v3, rfl, h1, h2⟩
    have hi : i < g.length := by have hi : i < (g.length : Int).toNat := hi; omega
    refine ⟨⟨⟨.inr (.inl rfl), rfl, by show -(row.length : Int) <= (i : Int); omega, by show (i : Int) < (row.length : Int); omega⟩, ⟨.inl rfl, rfl, by show -(g.length : Int) <= (i : Int); omega, by show (i : Int) < (g.length : Int); omega⟩⟩, rfl, rfl, ⟨by show -(row.length : Int) <= (i : Int); omega, by show (i : Int) < (row.length : Int); omega⟩, row.set i (row.getD i 0 + g.getD i 0), .fr (.int i), ?_, by rw [List.length_set]; exact h1, fun n => ?_⟩
    . show [Sl.fr (.ints f), .fr (.ints g), .fr (.int p), .ow (.ints (row.set (ixO row.length (i : Int)) (row.getD (ixO row.length (i : Int)) 0 + g.getD (ixO g.length (i : Int)) 0))), .fr (.int i)] = _
      rw [ix, ix]
    . rw [set_get _ _ _ _ (show i < row.length by omega), h2 i, if_neg (Nat.lt_irrefl i)]
      by_cases c : n = i
      . subst c; rw [if_pos rfl, if_pos (by omega)]; omega
      . rw [if_neg c, h2 n]
        by_cases d : n < i
        . rw [if_pos d, if_pos (by omega)]
        . rw [if_neg d, if_neg (by omega)]
  . rintro Z ⟨row, v3, rfl, h1, h2⟩
    have h2 : ∀ n, row.getD n 0 = f.getD n 0 + if n < (g.length : Int).toNat then g.getD n 0 else 0 := h2
    refine ⟨⟨⟨rfl, rfl, tT⟩, row, p, rfl, hp, by omega⟩, ?_⟩
    show Tz p row = Tz p (addL f g)
    refine trim_pl fun n => ?_
    rw [h2, addL_get, Int.toNat_natCast]
    by_cases c : n < g.length
    . rw [if_pos c]
    . rw [if_neg c, getD_ge (xs := g) (by omega)]
theorem xl_lcR2 {X : Cx} {G : Gx} {N' : List Str} {sc : Scope} {cl : List (Str × Addr)} {cap : List (Option Nat)} {el tg : Expr} {at' : Pos} {Cb Ca C2 : En -> Prop} {ga gb gi : En -> Int} {a b : Expr} {p pos' : Pos} (L : LcOk X N' sc cl (none :: cap)) (hc : X.calm = true) (hgl : Gl X "range") (hm : X.mg "range" = none) (ha : PE X a (tXI X.K G Ca ga)) (hb : PE X b (tXI X.K G C2 gb)) (hg : ∀ s H fp, PG (cxComp X N' sc cl s H fp) tg (gName 0)) (he : ∀ s H fp, PE (cxComp X N' sc cl s H fp) el (tXI X.K G Cb gi))
    (hst : starEach [a, b] X.env = [(false, eval a X.env), (false, eval b X.env)] := by rfl) (hs2 : starEach [b] X.env = [(false, eval b X.env)] := by rfl) (hs : ∀ x, foldedSetIterable (.Call (.Name "range" p) [a, b] [] pos') X.env x = pure x := by intro _; rfl) :
    PE X (.ListComp el [⟨tg, .Call (.Name "range" p) [a, b] [] pos', [], 0⟩] sc at') (tXl X.K G (fun Z => (Ca Z /\ C2 Z) /\ (-(2 ^ 62) <= ga Z /\ ga Z < 2 ^ 62 /\ -(2 ^ 62) <= gb Z /\ gb Z < 2 ^ 62) /\ (gb Z - ga Z).toNat <= 1000 /\ ∀ k : Nat, k < (gb Z - ga Z).toNat -> Cb ((capR (none :: cap) Z).set 0 (.fr (.int (ga Z + k)))))
      fun Z => (List.range (gb Z - ga Z).toNat).map fun (k : Nat) => gi ((capR (none :: cap) Z).set 0 (.fr (.int (ga Z + k))))) :=
  fun pins s σ H Q I h => pe_lc L hc (pi_range2 hgl hm (pa_cons ha (pa_cons hb pa_nil hs2) (by rw [hst, hs2])) hst hs2) hg (fun _ _ _ => pts_nil) he hs pins s σ H Q I (lc_R2 (p_of_l h))
theorem kx_law_slope (T : Top K mg cNO cK cR) : Ok P w K mg base 2 "_law_slope" ["_law_row", "_law_prime"] (spL K (GkR cR) (fun as => ∃ f p, as = [.ints f, .int p] /\ 0 < p /\ f.length <= 900) fun as => match as with
    | [.ints f, .int p] => Tz p (dl f)
    | _ => []) := by
  refine okL T.d_law_slope sc_law_slope (fun as ⟨a, b, h, _⟩ => by rw [h]; rfl) (fun f cdv A outer s H E hr => ⟨_, (xss_one (xst_retl (xcl (kx_form T) hr (xa_cons (newL (xl_lcR2 (N' := ["_law_k", "_law_row"]) (cap := [some 0]) (lc_ok rfl rfl rfl rfl ⟨⟨rfl, Or.inr (Or.inl rfl), (fun z => nomatch (show (some NameKind.cell : Option NameKind) = some NameKind.local from z)), Or.inl rfl, _, rfl, rfl⟩, tT⟩ ⟨rfl, tT⟩ rfl) rfl (by rfl) T.b_range xn_int (xn_len 0 T.b_len) (fun _ _ _ => (pg_name (i := 0) (show (["_law_k", "_law_row"] : List Str).Nodup by decide +kernel) rfl (Or.inl rfl) (.inr rfl))) (fun _ _ _ => (xn_mul (xn 0) (xn_item 1 (xn 0) (fun _ _ => rfl)))))) (xa_cons (xn 1) xa_nil))))), fun as hp => ?_⟩)
  obtain ⟨f, p, rfl, p0, hl⟩ := hp
  have ix : ∀ k : Nat, k < ((f.length : Int) - 1).toNat -> ixO f.length ((1 : Int) + (k : Int)) = k + 1 /\ k + 1 < f.length := fun k hk => ⟨by unfold ixO; rw [if_pos (by omega)]; omega, by omega⟩
  have e : (List.range ((f.length : Int) - 1).toNat).map (fun (k : Nat) => ((1 : Int) + (k : Int)) * f.getD (ixO f.length ((1 : Int) + (k : Int))) 0) = (List.range ((f.length : Int) - 1).toNat).map (fun (k : Nat) => ((k : Int) + 1) * f.getD (k + 1) 0) := by
    refine List.map_congr_left fun k hk => ?_
    rw [(ix k (List.mem_range.mp hk)).1, Int.add_comm]
  refine ⟨⟨⟨⟨⟨tT, .inl rfl⟩, ⟨by show -(2 : Int) ^ 62 <= 1; decide, by show (1 : Int) < 2 ^ 62; decide, by show -(2 : Int) ^ 62 <= (f.length : Int); omega, by show (f.length : Int) < 2 ^ 62; omega⟩, by show ((f.length : Int) - 1).toNat <= 1000; omega, fun k hk => ?_⟩, rfl, tT⟩, _, p, rfl, p0, ?_⟩, ?_⟩
  . have hk : k < ((f.length : Int) - 1).toNat := hk
    refine ⟨rfl, ⟨.inl rfl, rfl, ?_, ?_⟩, ?_⟩
    . show -(f.length : Int) <= 1 + (k : Int)
      omega
    . show (1 : Int) + (k : Int) < (f.length : Int)
      omega
    . exact mul_okL ⟨by show -(2 : Int) ^ 64 < 1 + (k : Int); omega, by show (1 : Int) + (k : Int) < (2 : Int) ^ 64; omega⟩
  . show ((List.range ((f.length : Int) - 1).toNat).map fun (k : Nat) => ((1 : Int) + (k : Int)) * f.getD (ixO f.length ((1 : Int) + (k : Int))) 0).length <= 1000
    rw [List.length_map, List.length_range]
    omega
  . show Tz p ((List.range ((f.length : Int) - 1).toNat).map fun (k : Nat) => ((1 : Int) + (k : Int)) * f.getD (ixO f.length ((1 : Int) + (k : Int))) 0) = Tz p (dl f)
    rw [e]
    unfold Tz
    refine trim_pl fun n => ?_
    rw [dl_get]
    congr 1
    by_cases c : n < ((f.length : Int) - 1).toNat
    . rw [getD_lt (by rw [List.length_map, List.length_range]; exact c), List.getElem_map, List.getElem_range]
    . rw [getD_ge (by rw [List.length_map, List.length_range]; omega), getD_ge (by omega), Int.mul_zero]
theorem kx_in_form (T : Top K mg cNO cK cR) : Ok P w K mg base 2 "_law_in_form" ["_law_found", "_law_prime"] (spFB K (GkR cR) (fun as => ∃ f p, as = [.ints f, .int p] /\ (∀ m ∈ f, 0 <= m /\ m < p) /\ InForm f /\ f ≠ []) fun as => true) := by
  refine okF T.d_in_form sc_in_form (fun as ⟨a, b, h, _⟩ => by rw [h]; rfl) (fun f cdv A outer s H E hr => ⟨_, (xss_cons (xst_if (xt_not (xt_V (xe_isinst T.b_isinstance (xl 0) (xv_bltn (by rfl) T.b_list bt_list))))
 (xss_one (xst_ret xb_bl))
 xss_nil)
 (xss_cons (xst_forL (k := 2) PassesOwn.never rfl (xl 0) sc_in_form.nd rfl (Or.inl rfl)
 (xss_one (xst_if (L2.PW.pt (xw_or (xt_not (xt_V (xcb (kx_whole T) hr (xa_cons (xn 2) xa_nil)))) (xw_or (xt_lt (xn 2) xn_int) (xw_or1 (xt_ge (xn 2) (xn 1))))))
 (xss_one (xst_ret xb_bl))
 xss_nil)))
 (xss_one (xst_ret (xe_and (xe_neL hr.units (rdX (xl 0)) (rdX (newL (xl_lst xa_nil)))) (pe_one (xe_ne (xn_item 0 (xn_neg xn_int) (fun _ _ => rfl)) xn_int))))))), fun as hp => ?_⟩)
  obtain ⟨f, p, rfl, hb, hf, nf⟩ := hp
  have h1 : instP K (.ints f) (.ty "list") = true := instP_of rfl rfl T.i_list_list
  have lf := lP nf
  refine ⟨⟨rfl, tT, _, _, _, rfl, rfl, T.i_list_list⟩, fun q => ?_, fun _ => ?_⟩
  . have q : ¬ instP K (.ints f) (.ty "list") = true := q
    exact absurd h1 q
  refine ⟨rfl, fun i Z => ∃ v, Z = [.fr (.ints f), .fr (.int p), v], ⟨_, rfl⟩, ?_, ?_⟩
  . rintro i n Z hn ⟨v, rfl⟩
    have hn : f[i]? = some n := hn
    have nb := hb n (List.mem_of_getElem? hn)
    refine ⟨⟨⟨⟨rfl, tT⟩, _, rfl⟩, fun _ => ⟨⟨rfl, tT⟩, fun _ => ⟨rfl, rfl⟩⟩⟩, fun q => ?_, fun _ => ⟨_, rfl⟩⟩
    have q : ¬ true = true \/ n < 0 \/ p <= n := q
    rcases q with q | q | q
    . exact absurd rfl q
    . omega
    . omega
  . rintro Z ⟨v, rfl⟩
    refine ⟨⟨⟨rfl, tT, tT⟩, fun _ => ⟨⟨.inl rfl, tT, by show -(f.length : Int) <= -1; omega, by show (-1 : Int) < (f.length : Int); omega⟩, tT⟩⟩, ?_⟩
    show PV.bl (decide (¬ f = [] /\ ¬ f.getD (ixO f.length (-1)) 0 = 0)) = PV.bl true
    rw [last_at f nf, decide_eq_true ⟨nf, hf nf⟩]
theorem conv_fo {p : Int} (hp : IsP p) {a b : List Int} (fa : Fo p a) (fb : Fo p b) (na : a ≠ []) (nb : b ≠ []) : Tz p (convL a b) ≠ [] /\ (Tz p (convL a b)).length + 1 = a.length + b.length := by
  have p2 := hp.1
  have la := lP na
  have lb := lP nb
  have nd : ∀ {x : List Int}, Fo p x -> x ≠ [] -> ¬ p ∣ lastI x := fun {x} fx nx z => by
    have h := fx.red (x.length - 1)
    have h1 : pl p (lastI x) = lastI x := h
    rw [pl_pos (by omega), Int.emod_eq_zero_of_dvd z] at h1
    exact fx.form nx h1.symm
  have top : p ∣ cm a b (a.length - 1 + (b.length - 1)) - lastI a * lastI b := cm_top (z := p) (E := a) (d := b) (i := a.length - 1) lb fun j hj => by rw [getD_ge (by omega)]; exact Int.dvd_zero p
  have tn : (Tz p (convL a b)).getD (a.length - 1 + (b.length - 1)) 0 ≠ 0 := fun z => by
    rw [Tz_get, convL_get, pl_pos (by omega)] at z
    have d := Int.dvd_sub (Int.dvd_of_emod_eq_zero z) top
    have e : cm a b (a.length - 1 + (b.length - 1)) - (cm a b (a.length - 1 + (b.length - 1)) - lastI a * lastI b) = lastI a * lastI b := by omega
    rw [e] at d
    rcases isP_mul hp d with y | y
    . exact nd fa na y
    . exact nd fb nb y
  have ge : a.length - 1 + (b.length - 1) < (Tz p (convL a b)).length := Nat.lt_of_not_le fun c => tn (getD_ge c)
  have le : (Tz p (convL a b)).length <= a.length + b.length - 1 := form_len (Tz_form p _) fun n hn => by
    rw [Tz_get, convL_get, cm_ge (by omega)]
    exact pl_0 p
  refine ⟨fun z => ?_, by omega⟩
  rw [z] at ge
  exact absurd ge (Nat.not_lt_zero _)
def pwB (p : Int) (made row : List Int) : Nat -> List Int
  | 0 => made
  | n + 1 => Tz p (convL (pwB p made row n) row)
theorem pwB_ok {p : Int} (hp : IsP p) {made row : List Int} (fm : Fo p made) (fr : Fo p row) (nm : made ≠ []) (nr : row ≠ []) : ∀ n, Fo p (pwB p made row n) /\ pwB p made row n ≠ [] /\ (pwB p made row n).length = made.length + n * (row.length - 1)
  | 0 => ⟨fm, nm, by rw [Nat.zero_mul]; rfl⟩
  | n + 1 => by
    obtain ⟨h1, h2, h3⟩ := pwB_ok hp fm fr nm nr n
    obtain ⟨h4, h5⟩ := conv_fo hp h1 fr h2 nr
    refine ⟨Fo.tz p _, h4, ?_⟩
    show (Tz p (convL (pwB p made row n) row)).length = _
    have := lP nr
    rw [Nat.succ_mul]
    omega
def rowB (ns : List Int) (p : Int) (k : Nat) : List Int := Tz p (cutI (([ns.getD k 0, ns.getD (k + 1) 0, ns.getD (k + 2) 0] : List Int).map fun n => n / 10) none (some (2 + ns.getD k 0 % 2)))
def oftB (ns : List Int) (p : Int) (k : Nat) : Int := ([1, 2, 3, p, p + 1] : List Int).getD (ns.getD k 0 / 2 % 5).toNat 0
open Classical in
def bltF (ns : List Int) (p : Int) : Nat -> List Int
  | 0 => [1]
  | i + 1 => if rowB ns p (3 * i) ≠ [] /\ ((bltF ns p i).length : Int) + oftB ns p (3 * i) * (((rowB ns p (3 * i)).length : Int) - 1) <= 31 then pwB p (bltF ns p i) (rowB ns p (3 * i)) (if (rowB ns p (3 * i)).length = 1 then 1 else oftB ns p (3 * i)).toNat else bltF ns p i
theorem oftB_nn {ns : List Int} {p : Int} (p2 : 2 <= p) (k : Nat) : 1 <= oftB ns p k /\ oftB ns p k <= p + 3 := by
  unfold oftB
  have h : (ns.getD k 0 / 2 % 5).toNat = 0 \/ (ns.getD k 0 / 2 % 5).toNat = 1 \/ (ns.getD k 0 / 2 % 5).toNat = 2 \/ (ns.getD k 0 / 2 % 5).toNat = 3 \/ (ns.getD k 0 / 2 % 5).toNat = 4 := by omega
  rcases h with h | h | h | h | h <;> rw [h]
  . exact ⟨by show (1 : Int) <= 1; omega, by show (1 : Int) <= p + 3; omega⟩
  . exact ⟨by show (1 : Int) <= 2; omega, by show (2 : Int) <= p + 3; omega⟩
  . exact ⟨by show (1 : Int) <= 3; omega, by show (3 : Int) <= p + 3; omega⟩
  . exact ⟨by show (1 : Int) <= p; omega, by show p <= p + 3; omega⟩
  . exact ⟨by show (1 : Int) <= p + 1; omega, by show p + 1 <= p + 3; omega⟩
theorem bltF_ok {p : Int} (hp : IsP p) (ns : List Int) : ∀ i, Fo p (bltF ns p i) /\ bltF ns p i ≠ [] /\ (bltF ns p i).length <= 31
  | 0 => ⟨⟨fun _ => (show ([1] : List Int).getD (([1] : List Int).length - 1) 0 ≠ 0 by decide), fun n => by
      match n with
      | 0 => show pl p 1 = 1; rw [pl_pos (by have := hp.1; omega)]; exact Int.emod_eq_of_lt (by decide) (by have := hp.1; omega)
      | n + 1 => exact pl_0 p⟩, (by intro h; cases h), (show ([1] : List Int).length <= 31 by decide)⟩
  | i + 1 => by
    obtain ⟨h1, h2, h3⟩ := bltF_ok hp ns i
    have p2 := hp.1
    unfold bltF
    split
    . rename_i c
      obtain ⟨k1, k2, k3⟩ := pwB_ok hp h1 (show Fo p (rowB ns p (3 * i)) from Fo.tz p _) h2 c.1 (if (rowB ns p (3 * i)).length = 1 then 1 else oftB ns p (3 * i)).toNat
      refine ⟨k1, k2, ?_⟩
      rw [k3]
      have o1 := (oftB_nn (ns := ns) p2 (3 * i)).1
      have lp := lP c.1
      have c2 := c.2
      by_cases d : (rowB ns p (3 * i)).length = 1
      . rw [if_pos d, d]
        omega
      . rw [if_neg d]
        have e : ((oftB ns p (3 * i)).toNat * ((rowB ns p (3 * i)).length - 1) : Nat) = (oftB ns p (3 * i) * (((rowB ns p (3 * i)).length : Int) - 1)).toNat := by
          have : (((oftB ns p (3 * i)).toNat * ((rowB ns p (3 * i)).length - 1) : Nat) : Int) = oftB ns p (3 * i) * (((rowB ns p (3 * i)).length : Int) - 1) := by
            rw [Int.natCast_mul, Int.toNat_of_nonneg (by omega)]
            congr 1
            omega
          rw [<- this, Int.toNat_natCast]
        have nn : 0 <= oftB ns p (3 * i) * (((rowB ns p (3 * i)).length : Int) - 1) := Int.mul_nonneg (by omega) (by omega)
        generalize oftB ns p (3 * i) * (((rowB ns p (3 * i)).length : Int) - 1) = X at *
        rw [e]
        omega
    . exact ⟨h1, h2, h3⟩
theorem kx_built (T : Top K mg cNO cK cR) : Ok P w K mg base 3 "_law_built" ["_law_script", "_law_prime"] (spFL K (GkR cR) (fun as => ∃ ns p, as = [.scr ns, .int p] /\ IsP p /\ ns.length <= 63) fun as => match as with
    | [.scr ns, .int p] => bltF ns p (rngN 0 (if (63 : Int) < (ns.length : Int) then 63 else (ns.length : Int)) 3)
    | _ => []) := by
  refine okF T.d_built sc_built (fun as ⟨a, b, h, _⟩ => by rw [h]; rfl) (fun f cdv A outer s H E hr => ⟨_, (xss_cons (xst_setL (i := 2) sc_built.nd rfl (Or.inl rfl) (newL (xl_lst (xa_cons xn_int xa_nil))))
 (xss_cons (xst_forR3 (k := 3) PassesOwn.never rfl (by rfl) T.b_range xn_int (xn_min rfl T.b_min (xn_len 0 T.b_len) xn_int) xn_int sc_built.nd rfl (Or.inl rfl)
 (xss_cons (xst_setL (i := 4) sc_built.nd rfl (Or.inl rfl) (newL (xl_lst (xa_cons (xn_item 0 (xn 3) (fun _ _ => rfl)) (xa_cons (xci (kx_cell_at T) hr (xa_cons (xr 0) (xa_cons (xn_add (xn 3) xn_int) xa_nil))) (xa_cons (xci (kx_cell_at T) hr (xa_cons (xr 0) (xa_cons (xn_add (xn 3) xn_int) xa_nil))) xa_nil))))))
 (xss_cons (xst_setL (i := 5) sc_built.nd rfl (Or.inl rfl) (newL (xcl (kx_form T) hr (xa_cons (newL (xl_slice (newL (xl_lcL (N' := ["_law_number"]) (cap := []) (lc_ok rfl rfl rfl rfl tT tT rfl) rfl (xl 4) (fun _ _ _ => (pg_name (i := 0) (show (["_law_number"] : List Str).Nodup by decide +kernel) rfl (Or.inl rfl) (.inr rfl))) (fun _ _ _ => (xn_div (xn 0) xn_int)))) xo_none (xo_some (xn_add xn_int (xn_mod (xn_item 0 (xn 3) (fun _ _ => rfl)) xn_int))) (fun _ _ => .inl rfl))) (xa_cons (xn 1) xa_nil)))))
 (xss_cons (xst_setI (i := 6) sc_built.nd rfl (Or.inl rfl) (xn_of (xp_item (newL (xl_lst (xa_cons xn_int (xa_cons xn_int (xa_cons xn_int (xa_cons (xn 1) (xa_cons (xn_add (xn 1) xn_int) xa_nil))))))) (xn_mod (xn_div (xn_item 0 (xn 3) (fun _ _ => rfl)) xn_int) xn_int) (fun _ _ => rfl))))
 (xss_one (xst_if (L2.PW.pt (xw_and (xt_neL hr.units (rdX (xl 5)) (rdX (newL (xl_lst xa_nil)))) (xw_and1 (xt_le (xn_add (xn_len 2 T.b_len) (xn_mul (xn 6) (xn_sub (xn_len 5 T.b_len) xn_int))) xn_int))))
 (xss_join (xst_if (xt_eq (xn_len 5 T.b_len) xn_int)
 (xss_one (xst_setI (i := 6) sc_built.nd rfl (Or.inl rfl) xn_int))
 xss_nil)
 (xss_one (xst_forR (k := 7) PassesOwn.never rfl (by rfl) T.b_range (xn 6) sc_built.nd rfl (Or.inl rfl)
 (xss_one (xst_setL (i := 2) sc_built.nd rfl (Or.inl rfl) (newL (xcl (kx_law_times T) hr (xa_cons (xl 2) (xa_cons (xl 5) (xa_cons (xn 1) xa_nil))))))))))
 xss_nil))))))
 (xss_one (xst_ret (xl 2))))), fun as hp => ?_⟩)
  obtain ⟨ns, p, rfl, hp, h63⟩ := hp
  have p2 : 2 <= p := hp.1
  have p3 : p <= 9973 := hp.2.1
  have p0 : 0 < p := by omega
  refine ⟨⟨⟨tT, tT⟩, tT⟩, fun m0 em0 => ?_⟩
  have em0 : m0 = [1] := em0
  refine to_lit (Z' := [.fr (.scr ns), .fr (.int p), .fr (.ints m0), .un, .un, .un, .un, .un]) rfl ?_
  have hM : (if (63 : Int) < (ns.length : Int) then (63 : Int) else (ns.length : Int)) = (ns.length : Int) := if_neg (by omega)
  refine ⟨⟨tT, ⟨.inr (.inr rfl), tT⟩, tT⟩, ⟨by show (0 : Int) < 3; decide, by show (3 : Int) < 1000; decide, by show -(2 : Int) ^ 62 <= 0; decide, by show (0 : Int) < 2 ^ 62; decide, ?_, ?_⟩, fun i Z => ∃ v3 v4 v5 v6 v7, Z = [.fr (.scr ns), .fr (.int p), .fr (.ints (bltF ns p i)), v3, v4, v5, v6, v7], ⟨.un, .un, .un, .un, .un, by rw [em0]; rfl⟩, ?_, ?_⟩
  . show -(2 : Int) ^ 62 <= if (63 : Int) < (ns.length : Int) then (63 : Int) else (ns.length : Int)
    rw [hM]; omega
  . show (if (63 : Int) < (ns.length : Int) then (63 : Int) else (ns.length : Int)) < 2 ^ 62
    rw [hM]; omega
  . rintro i Z hi ⟨v3, v4, v5, v6, v7, rfl⟩
    have hi : i < rngN 0 (if (63 : Int) < (ns.length : Int) then (63 : Int) else (ns.length : Int)) 3 := hi
    rw [hM] at hi
    have hk : 3 * i < ns.length := by
      unfold rngN at hi
      split at hi <;> omega
    have ek : (0 : Int) + (i : Int) * 3 = ((3 * i : Nat) : Int) := by omega
    have ix : ixO ns.length ((0 : Int) + (i : Int) * 3) = 3 * i := by unfold ixO; rw [if_pos (by omega)]; omega
    have b1 : -(ns.length : Int) <= 0 + (i : Int) * 3 := by omega
    have b2 : (0 : Int) + (i : Int) * 3 < (ns.length : Int) := by omega
    obtain ⟨f1, f2, f3⟩ := bltF_ok hp ns i
    obtain ⟨g1, g2, g3⟩ := bltF_ok hp ns (i + 1)
    refine ⟨⟨⟨⟨.inr (.inr rfl), rfl, b1, b2⟩, ⟨⟨rfl, ⟨rfl, tT⟩, tT⟩, tT, rfl, by show (0 : Int) <= 0 + (i : Int) * 3 + 1; omega⟩, ⟨⟨rfl, ⟨rfl, tT⟩, tT⟩, tT, rfl, by show (0 : Int) <= 0 + (i : Int) * 3 + 2; omega⟩, tT⟩, tT⟩, fun sm esm => ?_⟩
    have esm : sm = [ns.getD (3 * i) 0, ns.getD (3 * i + 1) 0, ns.getD (3 * i + 2) 0] := by
      have esm : sm = [ns.getD (ixO ns.length ((0 : Int) + (i : Int) * 3)) 0, ns.getD ((0 : Int) + (i : Int) * 3 + 1).toNat 0, ns.getD ((0 : Int) + (i : Int) * 3 + 2).toNat 0] := esm
      rw [esm, ix, show ((0 : Int) + (i : Int) * 3 + 1).toNat = 3 * i + 1 by omega, show ((0 : Int) + (i : Int) * 3 + 2).toNat = 3 * i + 2 by omega]
    refine to_lit (Z' := [.fr (.scr ns), .fr (.int p), .fr (.ints (bltF ns p i)), .fr (.int ((0 : Int) + (i : Int) * 3)), .fr (.ints sm), v5, v6, v7]) rfl ?_
    have cl := cutI_len (sm.map fun n => n / 10) none (some (2 + ns.getD (ixO ns.length ((0 : Int) + (i : Int) * 3)) 0 % 2))
    rw [List.length_map, esm] at cl
    have cl : (cutI (([ns.getD (3 * i) 0, ns.getD (3 * i + 1) 0, ns.getD (3 * i + 2) 0] : List Int).map fun n => n / 10) none (some (2 + ns.getD (ixO ns.length ((0 : Int) + (i : Int) * 3)) 0 % 2))).length <= 3 := cl
    refine ⟨⟨⟨⟨⟨rfl, ?_, fun n _ => ⟨rfl, tT, by show (0 : Int) < 10; decide, by show (10 : Int).natAbs.log2 < 9000; decide +kernel⟩⟩, tT, ⟨tT, ⟨.inr (.inr rfl), rfl, b1, b2⟩, tT, by show (0 : Int) < 2; decide⟩⟩, rfl, tT⟩, _, p, rfl, p0, ?_⟩, fun row erow => ?_⟩
    . show sm.length <= 1000
      rw [esm]
      show 3 <= 1000
      decide
    . show (cutI (sm.map fun n => n / 10) none (some (2 + ns.getD (ixO ns.length ((0 : Int) + (i : Int) * 3)) 0 % 2))).length <= 1000
      rw [esm]
      omega
    have erow : row = rowB ns p (3 * i) := by
      have erow : row = Tz p (cutI (sm.map fun n => n / 10) none (some (2 + ns.getD (ixO ns.length ((0 : Int) + (i : Int) * 3)) 0 % 2))) := erow
      rw [erow, esm, ix]
      rfl
    have rl : row.length <= 3 := by
      rw [erow]
      unfold rowB
      rw [ix] at cl
      exact Nat.le_trans (Tz_len _ _) cl
    have m5 : 0 <= ns.getD (3 * i) 0 / 2 % 5 /\ ns.getD (3 * i) 0 / 2 % 5 < 5 := by omega
    have eo0 : itP (.ints [1, 2, 3, p, p + 1]) (ns.getD (ixO ns.length ((0 : Int) + (i : Int) * 3)) 0 / 2 % 5) = .int (oftB ns p (3 * i)) := by
      rw [ix]
      unfold oftB
      show PV.int (([1, 2, 3, p, p + 1] : List Int).getD (ixO 5 (ns.getD (3 * i) 0 / 2 % 5)) 0) = _
      congr 2
      unfold ixO
      rw [if_pos m5.1]
    refine ⟨⟨⟨⟨⟨tT, tT, tT, rfl, ⟨rfl, tT⟩, tT⟩, tT⟩, ⟨⟨⟨.inr (.inr rfl), rfl, b1, b2⟩, tT, by show (0 : Int) < 2; decide, by show (2 : Int).natAbs.log2 < 9000; decide +kernel⟩, tT, by show (0 : Int) < 5; decide⟩, ?_⟩, ?_⟩, fun oft eoft => ?_⟩
    . show hasIt (.ints [1, 2, 3, p, p + 1]) (ns.getD (ixO ns.length ((0 : Int) + (i : Int) * 3)) 0 / 2 % 5)
      rw [ix]
      exact ⟨by show -(5 : Int) <= _; omega, by show _ < (5 : Int); omega⟩
    . show itP (.ints [1, 2, 3, p, p + 1]) (ns.getD (ixO ns.length ((0 : Int) + (i : Int) * 3)) 0 / 2 % 5) = .int (pvI (itP (.ints [1, 2, 3, p, p + 1]) (ns.getD (ixO ns.length ((0 : Int) + (i : Int) * 3)) 0 / 2 % 5)))
      rw [eo0]
      rfl
    have eoft : oft = oftB ns p (3 * i) := by
      have eoft : oft = pvI (itP (.ints [1, 2, 3, p, p + 1]) (ns.getD (ixO ns.length ((0 : Int) + (i : Int) * 3)) 0 / 2 % 5)) := eoft
      rw [eo0] at eoft
      exact eoft
    have ob := oftB_nn (ns := ns) p2 (3 * i)
    rw [<- eoft] at ob
    have nxt : bltF ns p (i + 1) = if row ≠ [] /\ ((bltF ns p i).length : Int) + oft * ((row.length : Int) - 1) <= 31 then pwB p (bltF ns p i) row (if row.length = 1 then 1 else oft).toNat else bltF ns p i := by
      rw [erow, eoft]
      rfl
    have fr : Fo p row := by rw [erow]; exact Fo.tz p _
    refine to_lit (Z' := [.fr (.scr ns), .fr (.int p), .fr (.ints (bltF ns p i)), .fr (.int ((0 : Int) + (i : Int) * 3)), .fr (.ints sm), .fr (.ints row), .fr (.int oft), v7]) rfl ?_
    clear eo0 erow eoft
    refine ⟨⟨⟨rfl, tT, tT⟩, fun _ => ⟨⟨.inl rfl, rfl, ⟨.inl rfl, tT⟩, ?_⟩, tT⟩⟩, fun q => ?_, fun q => ?_⟩
    . exact mul_okL ⟨by show -(2 : Int) ^ 64 < oft; omega, by show oft < (2 : Int) ^ 64; omega⟩
    . have q : ¬ row = [] /\ ((bltF ns p i).length : Int) + oft * ((row.length : Int) - 1) <= 31 := q
      rw [if_pos q] at nxt
      have lp := lP q.1
      refine ⟨fun Z => Z = [.fr (.scr ns), .fr (.int p), .fr (.ints (bltF ns p i)), .fr (.int ((0 : Int) + (i : Int) * 3)), .fr (.ints sm), .fr (.ints row), .fr (.int (if row.length = 1 then 1 else oft)), v7], ⟨⟨.inl rfl, tT⟩, fun z => ?_, fun z => ?_⟩, ?_⟩
      . have z : (row.length : Int) = 1 := z
        refine ⟨tT, fun o eo => ?_⟩
        have eo : o = 1 := eo
        rw [if_pos (by omega), eo]
        rfl
      . have z : ¬ (row.length : Int) = 1 := z
        rw [if_neg (by omega)]
      rintro Z rfl
      have ob2 : 1 <= (if row.length = 1 then 1 else oft) /\ (if row.length = 1 then 1 else oft) <= p + 3 := by split <;> omega
      generalize hn : (if row.length = 1 then 1 else oft) = nn at *
      have pk := pwB_ok hp f1 fr f2 q.1
      refine ⟨rfl, ⟨by show -(2 : Int) ^ 62 <= nn; omega, by show nn < 2 ^ 62; omega⟩, fun j Z => ∃ v7, Z = [.fr (.scr ns), .fr (.int p), .fr (.ints (pwB p (bltF ns p i) row j)), .fr (.int ((0 : Int) + (i : Int) * 3)), .fr (.ints sm), .fr (.ints row), .fr (.int nn), v7], ⟨v7, rfl⟩, ?_, ?_⟩
      . rintro j Z hj ⟨v7, rfl⟩
        have hj : j < nn.toNat := hj
        obtain ⟨k1, k2, k3⟩ := pk j
        have kl : (pwB p (bltF ns p i) row j).length <= 900 := by
          have l1 := (pk nn.toNat).2.2
          rw [<- nxt] at l1
          have : j * (row.length - 1) <= nn.toNat * (row.length - 1) := Nat.mul_le_mul_right _ (by omega)
          omega
        refine ⟨⟨⟨rfl, rfl, rfl, tT⟩, pwB p (bltF ns p i) row j, row, p, rfl, p0, by omega, k1.bd hp, fr.bd hp⟩, fun m em => ?_⟩
        have em : m = pwB p (bltF ns p i) row (j + 1) := em
        exact ⟨.fr (.int (j : Int)), by rw [<- em]; rfl⟩
      . rintro Z ⟨v7, rfl⟩
        exact ⟨.fr (.int ((0 : Int) + (i : Int) * 3)), .fr (.ints sm), .fr (.ints row), .fr (.int nn), v7, by rw [nxt]; rfl⟩
    . have q : ¬ (¬ row = [] /\ ((bltF ns p i).length : Int) + oft * ((row.length : Int) - 1) <= 31) := q
      rw [if_neg q] at nxt
      exact ⟨.fr (.int ((0 : Int) + (i : Int) * 3)), .fr (.ints sm), .fr (.ints row), .fr (.int oft), v7, by rw [nxt]⟩
  . rintro Z ⟨v3, v4, v5, v6, v7, rfl⟩
    exact ⟨rfl, rfl⟩
theorem kx_apart (T : Top K mg cNO cK cR) : Ok P w K mg base 7 "_law_apart" ["_law_kind", "_law_one", "_law_other", "_law_prime"] (spFB K (GkR cR) (fun as => ∃ p f g, as = [.ob 0 p, .ints f, .ints g, .int p] /\ IsP p /\ f.length <= 40 /\ g.length <= 40 /\ Fo p f /\ Fo p g /\ gc p f g = [1]) fun as => true) := by
  refine okF T.d_apart sc_apart (fun as ⟨a, b, c, h, _⟩ => by rw [h]; rfl) (fun f cdv A outer s H E hr => ⟨_, (xss_cons (xst_unp3 (xc (kx_shares T) hr (xa_cons (xv 0) (xa_cons (newL (xl_list T.b_list (xl 1) (fun _ => .inl rfl))) (xa_cons (newL (xl_list T.b_list (xl 2) (fun _ => .inl rfl))) xa_nil)))) (pg_tup rfl (pgs_cons (pg_name (i := 4) sc_apart.nd rfl (Or.inl rfl)) (pgs_cons (pg_name (i := 5) sc_apart.nd rfl (Or.inl rfl)) (pgs_cons (pg_name (i := 6) sc_apart.nd rfl (Or.inl rfl)) pgs_nil)))))
 (xss_cons (xst_setL (i := 7) sc_apart.nd rfl (Or.inl rfl) (newL (xcl (kx_law_plus T) hr (xa_cons (newL (xcl (kx_law_times T) hr (xa_cons (xl 5) (xa_cons (xl 1) (xa_cons (xn 3) xa_nil))))) (xa_cons (newL (xcl (kx_law_times T) hr (xa_cons (xl 6) (xa_cons (xl 2) (xa_cons (xn 3) xa_nil))))) (xa_cons (xn 3) xa_nil))))))
 (xss_one (xst_ret (xe_eqL hr.units (rdX (xl 7)) (rdX (newL (xl_lst (xa_cons xn_int xa_nil))))))))), fun as hp => ?_⟩)
  obtain ⟨p, f, g, rfl, hp, fl, gl, ff, fg, one⟩ := hp
  have p2 : 2 <= p := hp.1
  have p0 : 0 < p := by omega
  obtain ⟨RR, rg, l1, l2, l3⟩ := shF_ok (N := 45) hp (by decide) (f := f) (g := g) (by omega) (by omega)
  rw [one] at rg
  refine ⟨⟨⟨rfl, ⟨rfl, rfl, tT⟩⟩, p, f, g, rfl, hp, by omega, by omega⟩, .ints (shF p f g).1, .ints (shF p f g).2.1, .ints (shF p f g).2.2, rfl, ?_⟩
  generalize shF p f g = x at *
  refine to_lit (Z' := [.fr (.ob 0 p), .fr (.ints f), .fr (.ints g), .fr (.int p), .fr (.ints x.1), .fr (.ints x.2.1), .fr (.ints x.2.2), .un]) rfl ?_
  have c1 := tz_conv_len p x.2.1 f
  have c2 := tz_conv_len p x.2.2 g
  refine ⟨⟨⟨⟨⟨rfl, rfl, rfl, tT⟩, x.2.1, f, p, rfl, p0, by omega, RR.f2.bd hp, ff.bd hp⟩, ⟨⟨rfl, rfl, rfl, tT⟩, x.2.2, g, p, rfl, p0, by omega, RR.f3.bd hp, fg.bd hp⟩, rfl, tT⟩, Tz p (convL x.2.1 f), Tz p (convL x.2.2 g), p, rfl, p0, by omega, by omega⟩, fun m em => ?_⟩
  have em : m = Tz p (addL (Tz p (convL x.2.1 f)) (Tz p (convL x.2.2 g))) := em
  have key : m = x.1 := by
    rw [em]
    refine form_ext (Tz_form p _) RR.f1.form fun n => pl_same (Tz_red p _ n) (RR.f1.red n) ?_
    have k1 := dvd_tz p (addL (Tz p (convL x.2.1 f)) (Tz p (convL x.2.2 g))) n
    rw [addL_get] at k1
    have k2 := dvd_tz p (convL x.2.1 f) n
    have k3 := dvd_tz p (convL x.2.2 g) n
    rw [convL_get] at k2 k3
    have k4 := RR.eq n
    generalize (Tz p (addL (Tz p (convL x.2.1 f)) (Tz p (convL x.2.2 g)))).getD n 0 = y0 at *
    generalize (Tz p (convL x.2.1 f)).getD n 0 = y1 at *
    generalize (Tz p (convL x.2.2 g)).getD n 0 = y2 at *
    generalize cm x.2.1 f n = y3 at *
    generalize cm x.2.2 g n = y4 at *
    generalize x.1.getD n 0 = y7 at *
    have e : y0 - y7 = (y0 - (y1 + y2)) + (y1 - y3) + (y2 - y4) + -(y7 - (y3 + y4)) := by omega
    rw [e]
    exact Int.dvd_add (Int.dvd_add (Int.dvd_add k1 k2) k3) (Int.dvd_neg.mpr k4)
  refine to_lit (Z' := [.fr (.ob 0 p), .fr (.ints f), .fr (.ints g), .fr (.int p), .fr (.ints x.1), .fr (.ints x.2.1), .fr (.ints x.2.2), .fr (.ints m)]) rfl ?_
  refine ⟨⟨rfl, ⟨tT, tT⟩, tT⟩, ?_⟩
  show PV.bl (decide (m = [1])) = PV.bl true
  rw [decide_eq_true (key.trans rg)]
open Pl in
theorem fpF_eq {p : Int} {f : List Int} (hp : IsP p) (ne : Tz p f ≠ []) (nl : (nrm p (Tz p f)).length <= 31) : ∃ L : List (Pl p × Nat), Fam L /\ (∀ q ∈ L, q.2 ≠ 0) /\ ls (Pr L id) = nrm p (Tz p f) /\ fpF p f = .lst (fpL L) := by
  have G := nrm_gc hp (Tz_form p f) (Tz_red p f)
  have eN : ls (mk p (nrm p (Tz p f))) = nrm p (Tz p f) := ls_of ⟨G.form, G.red⟩
  have mN : Mo (mk p (nrm p (Tz p f))) := by
    show lastI (ls (mk p (nrm p (Tz p f)))) = 1
    rw [eN]
    rcases G.one with z | z
    . exfalso
      obtain ⟨Q, hQ⟩ := G.d1
      rw [z] at hQ
      refine ne (form_ext (Tz_form p f) form_nil fun n => pl_same (Tz_red p f n) (by show pl p 0 = 0; exact pl_0 p) ?_)
      have := hQ n
      rw [cm_comm, cm_nil, Int.sub_zero] at this
      exact this
    . exact z
  obtain ⟨L, F, nz, eL⟩ := fam_of hp mN (by rw [eN]; omega)
  rw [eL] at eN
  refine ⟨L, F, nz, eN, ?_⟩
  unfold fpF
  rw [<- eN] at nl ⊢
  have h : (lf p (ls (Pr L id)) 40).length <= 1 := Nat.le_of_not_lt fun c => by
    have := lf_short hp F c
    omega
  rw [(pairs_ok hp F nz nl h).2]
open Pl in
theorem nrm_lead {p : Int} (hp : IsP p) {b : List Int} (fb : Fo p b) (hb : b ≠ []) : mk p b = con p (lastI b) * mk p (nrm p b) := by
  have p2 : 2 <= p := hp.1
  have g := lead_gcd hp fb.form fb.red hb
  have one : pl p 1 = 1 := by rw [pl_pos (by omega)]; exact Int.emod_eq_of_lt (by decide) (by omega)
  have e0 : tlF p b = pl p (1 * tu (lastI b) p) := if_neg hb
  obtain ⟨h1, _⟩ := hov p2 g 1 (tlF p b) one (by rw [e0]; rfl)
  have h2 : p ∣ tlF p b * lastI b - 1 := by
    have := pl_dvd p (tlF p b * lastI b)
    rw [h1] at this
    have e : tlF p b * lastI b - 1 = -(1 - tlF p b * lastI b) := by omega
    rw [e]
    exact Int.dvd_neg.mpr this
  rw [con_mk]
  refine mk_eq.mpr fun n => ?_
  rw [scl_get]
  unfold nrm
  rw [Tz_get, getD_map (fun m => tlF p b * m) (Int.mul_zero _)]
  have h3 := Int.dvd_mul_of_dvd_right (a := p) (b := lastI b) (pl_dvd p (tlF p b * b.getD n 0))
  have h4 := Int.dvd_mul_of_dvd_left (c := b.getD n 0) h2
  have e : b.getD n 0 - lastI b * pl p (tlF p b * b.getD n 0) = -((tlF p b * lastI b - 1) * b.getD n 0) + -(lastI b * (pl p (tlF p b * b.getD n 0) - tlF p b * b.getD n 0)) := by
    rw [Int.sub_mul, Int.mul_sub, Int.one_mul, Int.mul_comm (tlF p b) (lastI b), Int.mul_assoc]
    omega
  rw [e]
  exact Int.dvd_add (Int.dvd_neg.mpr h4) (Int.dvd_neg.mpr h3)
open Pl in
def pfd {p : Int} (L : List (Pl p × Nat)) (x : Pl p) (cs : List Nat) : Pl p := cs.foldl (fun x c => x * Pr L (ind c) ^ c) x
open Pl in
theorem pow_zero' {p : Int} (x : Pl p) : x ^ 0 = 1 := rfl
open Pl in
theorem one_pow' {p : Int} : ∀ n : Nat, (1 : Pl p) ^ n = 1
  | 0 => rfl
  | n + 1 => by
    show (1 : Pl p) ^ n * 1 = 1
    rw [one_pow' n, one_mul]
open Pl in
theorem pfd_all {p : Int} (hp : IsP p) {L : List (Pl p × Nat)} (F : Fam L) (x : Pl p) : ∀ n, pfd L x ((List.range (n + 1)).filter fun c => decide (1 < (ls (Pr L (ind c))).length)) = x * prC L n
  | 0 => by
    have m1 : ∀ y : Pl p, y * 1 = y := fun y => by rw [Pl.mul_comm, Pl.one_mul]
    show pfd L x ((List.range 1).filter _) = x * 1
    rw [m1]
    show pfd L x ([0].filter _) = x
    by_cases c : decide (1 < (ls (Pr L (ind 0))).length) = true
    . rw [List.filter_cons_of_pos (by exact c), List.filter_nil]
      show x * Pr L (ind 0) ^ 0 = x
      rw [pow_zero', m1]
    . rw [List.filter_cons_of_neg (by exact c), List.filter_nil]
      rfl
  | n + 1 => by
    have m1 : ∀ y : Pl p, y * 1 = y := fun y => by rw [Pl.mul_comm, Pl.one_mul]
    have ih := pfd_all hp F x n
    rw [List.range_succ, List.filter_append]
    unfold pfd at ih ⊢
    rw [List.foldl_append, ih]
    show _ = x * (prC L n * Pr L (ind (n + 1)) ^ (n + 1))
    rw [<- Pl.mul_assoc]
    by_cases c : decide (1 < (ls (Pr L (ind (n + 1)))).length) = true
    . rw [List.filter_cons_of_pos (by exact c), List.filter_nil]
      rfl
    . rw [List.filter_cons_of_neg (by exact c), List.filter_nil]
      have e : Pr L (ind (n + 1)) = 1 := Mo.one_of hp.1 (F.pr hp.1 _) (Nat.le_of_not_lt fun z => c (decide_eq_true z))
      rw [e, one_pow', m1]
      rfl
open Pl in
theorem ls_mul {p : Int} (x y : Pl p) : Tz p (convL (ls x) (ls y)) = ls (x * y) := by
  rw [<- ls_mk, <- mk_mul, mk_ls, mk_ls]
open Pl in
theorem gc_cop {p : Int} (hp : IsP p) {x y : Pl p} (h : Cop x y) : gc p (ls x) (ls y) = [1] := by
  obtain ⟨s, t, e⟩ := h
  have m1 : ∀ y : Pl p, y * 1 = y := fun y => by rw [Pl.mul_comm, Pl.one_mul]
  rw [gc_ls (d := 1) ⟨⟨s, t, e.symm⟩, ⟨x, (m1 x).symm⟩, ⟨y, (m1 y).symm⟩⟩ (Mo.one hp.1), ls_1 hp.1]
open Pl in
theorem pfd_left {p : Int} {L : List (Pl p × Nat)} (a : Pl p) : ∀ (cs : List Nat) (x : Pl p), pfd L (a * x) cs = a * pfd L x cs
  | [], _ => rfl
  | c :: cs, x => by
    show pfd L (a * x * Pr L (ind c) ^ c) cs = _
    rw [Pl.mul_assoc, pfd_left a cs]
    rfl
open Pl in
theorem pfd_mo {p : Int} (p2 : 2 <= p) {L : List (Pl p × Nat)} (F : Fam L) : ∀ (cs : List Nat) (x : Pl p), Mo x -> Mo (pfd L x cs) /\ (ls x).length <= (ls (pfd L x cs)).length
  | [], _, h => ⟨h, Nat.le_refl _⟩
  | c :: cs, x, h => by
    have m := Mo.pow p2 (F.pr p2 (ind c)) c
    have h1 := Mo.mul2 p2 h m
    have h2 := pfd_mo p2 F cs _ h1.1
    refine ⟨h2.1, ?_⟩
    have := m.pos
    exact Nat.le_trans (by omega) h2.2
open Pl in
theorem pfd_len {p : Int} (p2 : 2 <= p) {L : List (Pl p × Nat)} (F : Fam L) {a : Pl p} {cs : List Nat} {i c j n : Nat} (hc : cs[i]? = some c) (hj : j <= c) (la : (ls a).length <= 1) (hl : (ls (pfd L 1 cs)).length <= n) : (ls (pfd L a (cs.take i) * Pr L (ind c) ^ j)).length <= n + 1 := by
  have m1 : ∀ y : Pl p, y * 1 = y := fun y => by rw [Pl.mul_comm, Pl.one_mul]
  have e : pfd L a (cs.take i) * Pr L (ind c) ^ j = a * (pfd L 1 (cs.take i) * Pr L (ind c) ^ j) := by
    conv => lhs; rw [<- m1 a]
    rw [pfd_left, Pl.mul_assoc]
  have mi := (pfd_mo p2 F (cs.take i) 1 (Mo.one p2)).1
  have mp := F.pr p2 (ind c)
  have e2 : Pr L (ind c) ^ c = Pr L (ind c) ^ j * Pr L (ind c) ^ (c - j) := by
    rw [<- Pl.pow_add, Nat.add_sub_cancel' hj]
  have m3 := Mo.mul2 p2 mi (Mo.pow p2 mp j)
  have m4 := Mo.mul2 p2 m3.1 (Mo.pow p2 mp (c - j))
  have p4 := (Mo.pow p2 mp (c - j)).pos
  have e3 : cs = cs.take i ++ c :: cs.drop (i + 1) := by
    obtain ⟨h1, h2⟩ := List.getElem?_eq_some_iff.mp hc
    rw [<- h2, List.getElem_cons_drop, List.take_append_drop]
  have e4 : pfd L 1 cs = pfd L (pfd L 1 (cs.take i) * Pr L (ind c) ^ j * Pr L (ind c) ^ (c - j)) (cs.drop (i + 1)) := by
    conv => lhs; rw [e3]
    unfold pfd
    rw [List.foldl_append, List.foldl_cons, e2, Pl.mul_assoc]
  have m5 := pfd_mo p2 F (cs.drop (i + 1)) _ m4.1
  rw [<- e4] at m5
  have := tz_conv_len p (ls a) (ls (pfd L 1 (cs.take i) * Pr L (ind c) ^ j))
  rw [ls_mul, <- e] at this
  omega
open Pl in
theorem kx_law (T : Top K mg cNO cK cR) {f : Addr} {fd : FuncData} (F : Fun K "law" "law" s_law f fd) : FnOk P w K mg base CX0 9 f fd ["_law_script"] (spLaw2 K) := by
  refine lawF2 (G := GkR cR) F sc_law (fun cdv A outer s H E hr => ⟨_, (xss_cons (xst_setI (i := 1) sc_law.nd rfl (Or.inl rfl) (xci (kx_prime_by T) hr (xa_cons (xci (kx_cell_at T) hr (xa_cons (xr 0) (xa_cons xn_int xa_nil))) xa_nil)))
 (xss_cons (xst_setP (i := 2) sc_law.nd rfl (Or.inl rfl) (xk_R (oi_Rests T) hr gkR (xn 1)))
 (xss_cons (xst_setL (i := 3) sc_law.nd rfl (Or.inl rfl) (xcL (kx_built T) hr (xa_cons (xr 0) (xa_cons (xn 1) xa_nil))))
 (xss_cons (xst_setL (i := 4) sc_law.nd rfl (Or.inl rfl) (newL (xl_slice (newL (xl_lst (xa_cons (xn_mul xn_int (xn 1)) (xa_cons xn_int xa_nil)))) xo_none (xo_some (xn_mod (xci (kx_cell_at T) hr (xa_cons (xr 0) (xa_cons xn_int xa_nil))) xn_int)) (fun _ _ => .inl rfl))))
 (xss_cons (xst_setL (i := 5) sc_law.nd rfl (Or.inl rfl) (newL (xl_cat (xl 3) (xl 4))))
 (xss_cons (xst_setP (i := 6) sc_law.nd rfl (Or.inl rfl) (xc (kx_free_parts T) hr (xa_cons (xv 2) (xa_cons (xl 5) xa_nil))))
 (xss_cons (xst_if (L2.PW.pt (xw_or (xt_not (xt_V (xe_isinst T.b_isinstance (xv 6) (xv_bltn (by rfl) T.b_list bt_list)))) (xw_or1 (xt_neL hr.units (rdX (xl 5)) (rdX (newL (xl_cat (xl 3) (xl 4))))))))
 (xss_one (xst_ret xb_bl))
 xss_nil)
 (xss_cons (xst_setL (i := 7) sc_law.nd rfl (Or.inl rfl) (newL (xl_lst (xa_cons (xn_item 3 (xn_neg xn_int) (fun _ _ => rfl)) xa_nil))))
 (xss_cons (xst_setI (i := 8) sc_law.nd rfl (Or.inl rfl) xn_int)
 (xss_cons (xst_forR (k := 9) PassesOwn.never rfl (by rfl) T.b_range (xn_lenP T.b_len (xv 6)) sc_law.nd rfl (Or.inl rfl)
 (xss_cons (xst_if (L2.PW.pt (xw_or (xt_not (xt_V (xe_isinst T.b_isinstance (xp_item (xv 6) (xn 9) (fun _ _ => rfl)) (xv_bltn (by rfl) T.b_tuple bt_tuple)))) (xw_or1 (xt_ne (xn_lenP T.b_len (xp_item (xv 6) (xn 9) (fun _ _ => rfl))) xn_int))))
 (xss_one (xst_ret xb_bl))
 xss_nil)
 (xss_cons (xst_unp (xp_item (xv 6) (xn 9) (fun _ _ => rfl)) (pg_tup rfl (pgs_cons (pg_name (i := 10) sc_law.nd rfl (Or.inl rfl)) (pgs_cons (pg_name (i := 11) sc_law.nd rfl (Or.inl rfl)) pgs_nil))))
 (xss_cons (xst_if (L2.PW.pt (xw_or (xt_not (xt_V (xcb (kx_in_form T) hr (xa_cons (xl 10) (xa_cons (xn 1) xa_nil))))) (xw_or (xt_ne (xn_item 10 (xn_neg xn_int) (fun _ _ => rfl)) xn_int) (xw_or1 (xt_lt (xn_len 10 T.b_len) xn_int)))))
 (xss_one (xst_ret xb_bl))
 xss_nil)
 (xss_cons (xst_if (L2.PW.pt (xw_or (xt_not (xt_V (xcb (kx_whole T) hr (xa_cons (xn 11) xa_nil)))) (xw_or (xt_le (xn 11) (xn 8)) (xw_or1 (xt_gt (xn 11) xn_int)))))
 (xss_one (xst_ret xb_bl))
 xss_nil)
 (xss_cons (xst_setI (i := 8) sc_law.nd rfl (Or.inl rfl) (xn 11))
 (xss_cons (xst_if (xt_not (xt_V (xcb (kx_apart T) hr (xa_cons (xv 2) (xa_cons (xl 10) (xa_cons (newL (xcl (kx_law_slope T) hr (xa_cons (xl 10) (xa_cons (xn 1) xa_nil)))) (xa_cons (xn 1) xa_nil)))))))
 (xss_one (xst_ret xb_bl))
 xss_nil)
 (xss_cons (xst_forR (k := 12) PassesOwn.never rfl (by rfl) T.b_range (xn 9) sc_law.nd rfl (Or.inl rfl)
 (xss_one (xst_if (xt_not (xt_V (xcb (kx_apart T) hr (xa_cons (xv 2) (xa_cons (xl 10) (xa_cons (xl_of (xp_item (xp_item (xv 6) (xn 12) (fun _ _ => rfl)) xn_int (fun _ _ => rfl))) (xa_cons (xn 1) xa_nil)))))))
 (xss_one (xst_ret xb_bl))
 xss_nil)))
 (xss_one (xst_forR (k := 13) PassesOwn.never rfl (by rfl) T.b_range (xn 11) sc_law.nd rfl (Or.inl rfl)
 (xss_one (xst_setL (i := 7) sc_law.nd rfl (Or.inl rfl) (newL (xcl (kx_law_times T) hr (xa_cons (xl 7) (xa_cons (xl 10) (xa_cons (xn 1) xa_nil)))))))))))))))))
 (xss_one (xst_ret (xe_eqL hr.units (rdX (xl 7)) (rdX (xl 3))))))))))))))), fun ns h63 hbits => ?_⟩)
  clear hbits
  refine ⟨⟨⟨⟨⟨rfl, tT, tT⟩, tT, rfl, by show (0 : Int) <= 0; decide⟩, tT⟩, _, rfl⟩, fun p ep => ?_⟩
  have ep : p = primeN (ns.getD 0 0) := ep
  have hp : IsP p := by rw [ep]; exact primeN_isP _
  clear ep
  have p2 : 2 <= p := hp.1
  have p3 : p <= 9973 := hp.2.1
  have p0 : 0 < p := by omega
  refine ⟨⟨rfl, hp⟩, fun kd ekd => ?_⟩
  have ekd : kd = .ob 0 p := ekd
  subst ekd
  refine ⟨⟨⟨rfl, rfl, tT⟩, ns, p, rfl, hp, h63⟩, fun f ef => ?_⟩
  obtain ⟨ff, nf, lf'⟩ : Fo p f /\ f ≠ [] /\ f.length <= 31 := by
    have ef : f = bltF ns p (rngN 0 (if (63 : Int) < (ns.length : Int) then 63 else (ns.length : Int)) 3) := ef
    rw [ef]
    exact bltF_ok hp ns _
  clear ef
  have lfp := lP nf
  refine to_lit (Z' := [.fr (.scr ns), .fr (.int p), .fr (.ob 0 p), .fr (.ints f), .un, .un, .un, .un, .un, .un, .un, .un, .un, .un]) rfl ?_
  refine ⟨⟨⟨⟨⟨tT, rfl, mul_okL (by decide)⟩, tT, tT⟩, tT⟩, tT, ⟨⟨⟨rfl, tT, tT⟩, tT, rfl, by show (0 : Int) <= 3; decide⟩, tT, by show (0 : Int) < 3; decide⟩⟩, fun tl etl => ?_⟩
  have etl : tl = cutI [2 * p, 0] none (some (ns.getD 3 0 % 3)) := etl
  have tll : tl.length <= 2 := by rw [etl]; exact cutI_len _ _ _
  have tz : ∀ m ∈ tl, p ∣ m := fun m hm => by
    rw [etl] at hm
    unfold cutI at hm
    have hm := List.drop_subset _ _ (List.take_subset _ _ hm)
    rcases List.mem_cons.mp hm with rfl | hm
    . exact Int.dvd_mul_left ..
    . rw [List.mem_singleton.mp hm]
      exact Int.dvd_zero p
  clear etl
  have s1 : f.length + tl.length <= sizeLine := Nat.le_of_lt (small1000 (by omega))
  refine ⟨⟨rfl, rfl, s1⟩, fun hd ehd => ?_⟩
  have ehd : hd = f ++ tl := ehd
  have eT : Tz p hd = f := by
    refine form_ext (Tz_form p _) ff.form fun n => ?_
    rw [Tz_get, ehd]
    by_cases c : n < f.length
    . rw [gQ, List.getElem?_append_left c, <- gQ, ff.red]
    . rw [gQ, List.getElem?_append_right (by omega), <- gQ, getD_ge (xs := f) (by omega)]
      refine Eq.trans ((pl_iff p _ 0).mpr ?_) (pl_0 p)
      rw [Int.sub_zero]
      by_cases d : n - f.length < tl.length
      . exact tz _ (FM.getD_mem d)
      . rw [getD_ge (by omega)]; exact Int.dvd_zero p
  have nl : (nrm p (Tz p hd)).length <= 31 := by
    rw [eT]
    unfold nrm
    refine Nat.le_trans (Tz_len _ _) ?_
    rw [List.length_map]
    exact lf'
  obtain ⟨L, F', nz, eN, eF⟩ := fpF_eq hp (f := hd) (by rw [eT]; exact nf) nl
  refine to_lit (Z' := [.fr (.scr ns), .fr (.int p), .fr (.ob 0 p), .fr (.ints f), .fr (.ints tl), .fr (.ints hd), .un, .un, .un, .un, .un, .un, .un, .un]) rfl ?_
  refine ⟨⟨⟨rfl, rfl, tT⟩, p, hd, rfl, hp, by rw [ehd, List.length_append]; omega, nl, by rw [eT]; exact nf⟩, fun fo efo => ?_⟩
  have efo : fo = .lst (fpL L) := by
    have efo : fo = fpF p hd := efo
    rw [efo, eF]
  have hinv := fun x hx => isP_inv hp (x := x) hx
  have eLs : fpL L = ((List.range 31).filter fun c => decide (1 < (ls (Pr L (ind c))).length)).map (TT L) := rfl
  have csAll : ∀ c ∈ (List.range 31).filter (fun c => decide (1 < (ls (Pr L (ind c))).length)), c < 31 /\ 1 < (ls (Pr L (ind c))).length /\ c ≠ 0 := fun c hc => by
    obtain ⟨h1, h2⟩ := List.mem_filter.mp hc
    have h2 := of_decide_eq_true h2
    refine ⟨List.mem_range.mp h1, h2, fun z => ?_⟩
    obtain ⟨r, hr2, hz⟩ := (Pr_len p2 F'.mo F'.dg).mp h2
    unfold ind at hz
    by_cases y : r.2 = c
    . exact nz r hr2 (y.trans z)
    . rw [if_neg y] at hz
      exact hz rfl
  have csOrd : ((List.range 31).filter fun c => decide (1 < (ls (Pr L (ind c))).length)).Pairwise (fun a b => a < b) := List.pairwise_lt_range.filter _
  have csProd := pfd_all hp F' (con p (lastI f)) 30
  have e1 : prC L 30 = Pr L id := by
    rw [prC_eq]
    refine Pr_congr fun q hq => ?_
    have big : q.2 < (ls (Pr L id)).length := Pr_big p2 (g := id) F'.mo F'.dg q hq
    rw [eN] at big
    rw [if_pos (by omega)]
    rfl
  have prE : con p (lastI f) * prC L 30 = mk p f := by
    rw [e1, nrm_lead hp ff nf]
    congr 1
    have : Pr L id = mk p (ls (Pr L id)) := (mk_ls _).symm
    rw [this, eN, eT]
  rw [prE] at csProd
  have rowLen : ∀ c, (ls (Pr L (ind c))).length <= 40 := fun c => by
    have e := Pr_sub (L := L) (g := id) (h := ind c) fun q hq => by
      unfold ind
      split
      . have := nz q hq
        show 1 <= q.2
        omega
      . exact Nat.zero_le _
    have l := Mo.len p2 (F'.pr p2 fun m => id m - ind c m) (F'.pr p2 (ind c))
    rw [<- e, eN] at l
    have := (F'.pr p2 fun m => id m - ind c m).pos
    omega
  have lcon : (ls (con p (lastI f))).length <= 1 := Tz_len p [lastI f]
  have lprod : (ls (pfd L 1 ((List.range 31).filter fun c => decide (1 < (ls (Pr L (ind c))).length)))).length <= 32 := by
    rw [pfd_all hp F' 1 30, Pl.one_mul, e1, eN]
    omega
  rw [eLs] at efo
  generalize ((List.range 31).filter fun c => decide (1 < (ls (Pr L (ind c))).length)) = cs at *
  subst efo
  refine to_lit (Z' := [.fr (.scr ns), .fr (.int p), .fr (.ob 0 p), .fr (.ints f), .fr (.ints tl), .fr (.ints hd), .fr (.lst (cs.map (TT L))), .un, .un, .un, .un, .un, .un, .un]) rfl ?_
  have il : instP K (.lst (cs.map (TT L))) (.ty "list") = true := instP_of rfl rfl T.i_list_list
  refine ⟨⟨⟨rfl, tT, _, _, _, rfl, rfl, T.i_list_list⟩, fun _ => ⟨rfl, ⟨rfl, rfl, s1⟩⟩⟩, fun q => ?_, fun _ => ?_⟩
  . have q : ¬ instP K (.lst (cs.map (TT L))) (.ty "list") = true \/ ¬ hd = f ++ tl := q
    rcases q with q | q
    . exact absurd il q
    . exact absurd ehd q
  refine ⟨⟨⟨⟨.inl rfl, tT, by show -(f.length : Int) <= -1; omega, by show (-1 : Int) < (f.length : Int); omega⟩, tT⟩, tT⟩, fun m0 em0 => ⟨tT, fun la ela => ?_⟩⟩
  have em0 : m0 = ls (con p (lastI f)) := by
    have em0 : m0 = [f.getD (ixO f.length (-1)) 0] := em0
    rw [em0, last_ix f lfp]
    have e1 : ls (con p (lastI f)) = Tz p [lastI f] := rfl
    rw [e1]
    have h : Tz p [lastI f] = [lastI f] := form_tz (fun _ => (show lastI f ≠ 0 from ff.form nf)) fun n => by
      match n with
      | 0 => exact ff.red (f.length - 1)
      | n + 1 => exact pl_0 p
    exact h.symm
  have ela : la = 0 := ela
  have hc31 : cs.length <= 31 /\ True := by
    refine ⟨?_, tT⟩
    have h1 : cs.length <= 31 := by
      have : ∀ (l : List Nat) (n : Nat), l.Pairwise (fun a b => a < b) -> (∀ c ∈ l, n <= c /\ c < 31) -> l.length + n <= 31 \/ l = [] := by
        intro l
        induction l with
        | nil => intro n _ _; exact .inr rfl
        | cons x l ih =>
          intro n ho hb
          rw [List.pairwise_cons] at ho
          have hx := hb x List.mem_cons_self
          rcases ih (x + 1) ho.2 (fun c hc => ⟨ho.1 c hc, (hb c (List.mem_cons_of_mem _ hc)).2⟩) with h | h
          . left; rw [List.length_cons]; omega
          . left; rw [h]; show 1 + n <= 31; omega
      rcases this cs 0 csOrd (fun c hc => ⟨Nat.zero_le _, (csAll c hc).1⟩) with h | h
      . omega
      . rw [h]; decide
    exact h1
  refine to_lit (Z' := [.fr (.scr ns), .fr (.int p), .fr (.ob 0 p), .fr (.ints f), .fr (.ints tl), .fr (.ints hd), .fr (.lst (cs.map (TT L))), .fr (.ints m0), .fr (.int la), .un, .un, .un, .un, .un]) rfl ?_
  have lm : (cs.map (TT L)).length = cs.length := List.length_map _
  refine ⟨⟨rfl, tT⟩, ⟨by show -(2 : Int) ^ 62 <= ((cs.map (TT L)).length : Int); omega, by show ((cs.map (TT L)).length : Int) < 2 ^ 62; omega⟩, fun i Z => ∃ (la : Nat) (v9 v10 v11 v12 v13 : Sl), Z = [.fr (.scr ns), .fr (.int p), .fr (.ob 0 p), .fr (.ints f), .fr (.ints tl), .fr (.ints hd), .fr (.lst (cs.map (TT L))), .fr (.ints (ls (pfd L (con p (lastI f)) (cs.take i)))), .fr (.int (la : Int)), v9, v10, v11, v12, v13] /\ ∀ (j : Nat) (c : Nat), i <= j -> cs[j]? = some c -> la < c, ⟨0, .un, .un, .un, .un, .un, by rw [em0, ela]; rfl, fun j c _ hc => by have := (csAll c (List.mem_of_getElem? hc)).2.2; omega⟩, ?_, ?_⟩
  . rintro i Z hi ⟨la, v9, v10, v11, v12, v13, rfl, hla⟩
    have hi : i < ((cs.map (TT L)).length : Int).toNat := hi
    have hi : i < cs.length := by omega
    have hci : cs[i]? = some cs[i] := List.getElem?_eq_getElem hi
    obtain ⟨c, hc⟩ : ∃ c, c = cs[i] := ⟨_, rfl⟩
    rw [<- hc] at hci
    have cm' := csAll c (List.mem_of_getElem? hci)
    have hlt := hla i c (Nat.le_refl i) hci
    have eit : ∀ (j : Nat) (d : Nat), cs[j]? = some d -> itP (.lst (cs.map (TT L))) (j : Int) = TT L d /\ hasIt (.lst (cs.map (TT L))) (j : Int) := fun j d hj => by
      have jl : j < cs.length := (List.getElem?_eq_some_iff.mp hj).1
      have ix : ixO (cs.map (TT L)).length (j : Int) = j := by unfold ixO; rw [if_pos (by omega)]; omega
      refine ⟨?_, by show -((cs.map (TT L)).length : Int) <= (j : Int); omega, by show (j : Int) < ((cs.map (TT L)).length : Int); omega⟩
      show (cs.map (TT L)).getD (ixO (cs.map (TT L)).length (j : Int)) .non = _
      rw [ix, gQ, List.getElem?_map, hj]
      rfl
    obtain ⟨e1, e2⟩ := eit i c hci
    have mo := F'.pr p2 (ind c)
    have fo := ls_fo (Pr L (ind c))
    have ne := mo.ne
    have rl := rowLen c
    have l1 : lastI (ls (Pr L (ind c))) = 1 := mo
    have sq := gc_cop hp (ind_sq p2 hinv F' c)
    have it : instP K (TT L c) (.ty "tuple") = true := instP_of rfl rfl T.i_tuple_tuple
    refine ⟨⟨⟨⟨rfl, rfl, e2⟩, tT, .type "tuple", .type "tuple", true, ?_, rfl, T.i_tuple_tuple⟩, fun _ => ⟨⟨⟨rfl, rfl, e2⟩, ?_⟩, tT⟩⟩, fun q => ?_, fun _ => ?_⟩
    . show tyP (itP (.lst (cs.map (TT L))) (i : Int)) = _
      rw [e1]
      rfl
    . show hasLen (itP (.lst (cs.map (TT L))) (i : Int))
      rw [e1]
      exact tT
    . have q : ¬ instP K (itP (.lst (cs.map (TT L))) (i : Int)) (.ty "tuple") = true \/ ¬ lenP (itP (.lst (cs.map (TT L))) (i : Int)) = 2 := q
      rw [e1] at q
      rcases q with q | q
      . exact absurd it q
      . exact absurd rfl q
    refine ⟨⟨rfl, rfl, e2⟩, .ints (ls (Pr L (ind c))), .int (c : Int), e1, ?_⟩
    refine to_lit (Z' := [.fr (.scr ns), .fr (.int p), .fr (.ob 0 p), .fr (.ints f), .fr (.ints tl), .fr (.ints hd), .fr (.lst (cs.map (TT L))), .fr (.ints (ls (pfd L (con p (lastI f)) (cs.take i)))), .fr (.int (la : Int)), .fr (.int (i : Int)), .fr (.ints (ls (Pr L (ind c)))), .fr (.int (c : Int)), v12, v13]) rfl ?_
    have rp := mo.pos
    refine ⟨⟨⟨⟨rfl, rfl, tT⟩, _, p, rfl, fo.at hp, fo.form, ne⟩, fun _ => ⟨⟨⟨.inl rfl, tT, by show -((ls (Pr L (ind c))).length : Int) <= -1; omega, by show (-1 : Int) < ((ls (Pr L (ind c))).length : Int); omega⟩, tT⟩, fun _ => ⟨.inl rfl, tT⟩⟩⟩, fun q => ?_, fun _ => ?_⟩
    . have q : ¬ true = true \/ ¬ (ls (Pr L (ind c))).getD (ixO (ls (Pr L (ind c))).length (-1)) 0 = 1 \/ ((ls (Pr L (ind c))).length : Int) < 2 := q
      rw [last_ix _ rp] at q
      rcases q with q | q | q
      . exact absurd rfl q
      . exact absurd l1 q
      . have := cm'.2.1
        omega
    refine ⟨⟨⟨⟨rfl, tT⟩, _, rfl⟩, fun _ => ⟨⟨rfl, rfl⟩, fun _ => ⟨rfl, tT⟩⟩⟩, fun q => ?_, fun _ => ?_⟩
    . have q : ¬ true = true \/ (c : Int) <= (la : Int) \/ (c : Int) > 30 := q
      rcases q with q | q | q
      . exact absurd rfl q
      . omega
      . have := cm'.1
        omega
    refine ⟨rfl, fun la2 ela2 => ?_⟩
    have ela2 : la2 = (c : Int) := ela2
    refine to_lit (Z' := [.fr (.scr ns), .fr (.int p), .fr (.ob 0 p), .fr (.ints f), .fr (.ints tl), .fr (.ints hd), .fr (.lst (cs.map (TT L))), .fr (.ints (ls (pfd L (con p (lastI f)) (cs.take i)))), .fr (.int la2), .fr (.int (i : Int)), .fr (.ints (ls (Pr L (ind c)))), .fr (.int (c : Int)), v12, v13]) rfl ?_
    rw [ls_dv] at sq
    have dll : (Tz p (dl (ls (Pr L (ind c))))).length <= 40 := by
      refine Nat.le_trans (Tz_len _ _) ?_
      unfold dl
      rw [List.length_map, List.length_range]
      exact rl
    refine ⟨⟨⟨rfl, rfl, ⟨⟨rfl, rfl, tT⟩, ls (Pr L (ind c)), p, rfl, p0, by omega⟩, rfl, tT⟩, p, ls (Pr L (ind c)), Tz p (dl (ls (Pr L (ind c)))), rfl, hp, rl, dll, fo, Fo.tz p _, sq⟩, fun q => ?_, fun _ => ?_⟩
    . exact absurd rfl (show ¬ true = true from q)
    refine ⟨rfl, ⟨by show -(2 : Int) ^ 62 <= (i : Int); omega, by show (i : Int) < 2 ^ 62; omega⟩, fun j Z => ∃ v12, Z = [.fr (.scr ns), .fr (.int p), .fr (.ob 0 p), .fr (.ints f), .fr (.ints tl), .fr (.ints hd), .fr (.lst (cs.map (TT L))), .fr (.ints (ls (pfd L (con p (lastI f)) (cs.take i)))), .fr (.int la2), .fr (.int (i : Int)), .fr (.ints (ls (Pr L (ind c)))), .fr (.int (c : Int)), v12, v13], ⟨v12, rfl⟩, ?_, ?_⟩
    . rintro j Z hj ⟨v12, rfl⟩
      have hj : j < (i : Int).toNat := hj
      have hj : j < i := by omega
      have hcj : cs[j]? = some cs[j] := List.getElem?_eq_getElem (by omega)
      obtain ⟨d, hd'⟩ : ∃ d, d = cs[j] := ⟨_, rfl⟩
      rw [<- hd'] at hcj
      obtain ⟨e3, e4⟩ := eit j d hcj
      have ap : d ≠ c := by
        have := List.pairwise_iff_getElem.mp csOrd j i (by omega) hi hj
        omega
      have eq1 : itP (itP (.lst (cs.map (TT L))) (j : Int)) 0 = .ints (ls (Pr L (ind d))) := by rw [e3]; rfl
      refine ⟨⟨⟨rfl, rfl, ⟨⟨⟨rfl, rfl, e4⟩, tT, ?_⟩, ?_⟩, rfl, tT⟩, p, ls (Pr L (ind c)), ls (Pr L (ind d)), ?_, hp, rl, rowLen d, fo, ls_fo _, gc_cop hp (ind_ap F' (Ne.symm ap))⟩, fun q => ?_, fun _ => ⟨_, rfl⟩⟩
      . show hasIt (itP (.lst (cs.map (TT L))) (j : Int)) 0
        rw [e3]
        exact ⟨by show (-2 : Int) <= 0; decide, by show (0 : Int) < 2; decide⟩
      . show itP (itP (.lst (cs.map (TT L))) (j : Int)) 0 = .ints (pvL (itP (itP (.lst (cs.map (TT L))) (j : Int)) 0))
        rw [eq1]
        rfl
      . show [PV.ob 0 p, .ints (ls (Pr L (ind c))), .ints (pvL (itP (itP (.lst (cs.map (TT L))) (j : Int)) 0)), .int p] = _
        rw [eq1]
        rfl
      . exact absurd rfl (show ¬ true = true from q)
    rintro Z ⟨v12, rfl⟩
    have bnd : ∀ j, j <= c -> (ls (pfd L (con p (lastI f)) (cs.take i) * Pr L (ind c) ^ j)).length <= 33 := fun j hj => pfd_len (n := 32) p2 F' hci hj lcon lprod
    refine ⟨rfl, ⟨by show -(2 : Int) ^ 62 <= (c : Int); omega, by show (c : Int) < 2 ^ 62; have := cm'.1; omega⟩, fun j Z => ∃ v13, Z = [.fr (.scr ns), .fr (.int p), .fr (.ob 0 p), .fr (.ints f), .fr (.ints tl), .fr (.ints hd), .fr (.lst (cs.map (TT L))), .fr (.ints (ls (pfd L (con p (lastI f)) (cs.take i) * Pr L (ind c) ^ j))), .fr (.int la2), .fr (.int (i : Int)), .fr (.ints (ls (Pr L (ind c)))), .fr (.int (c : Int)), v12, v13], ⟨v13, ?_⟩, ?_, ?_⟩
    . rw [pow_zero', Pl.mul_comm, Pl.one_mul]
    . rintro j Z hj ⟨v13, rfl⟩
      have hj : j < (c : Int).toNat := hj
      have b1 := bnd j (by omega)
      refine ⟨⟨⟨rfl, rfl, rfl, tT⟩, ls (pfd L (con p (lastI f)) (cs.take i) * Pr L (ind c) ^ j), ls (Pr L (ind c)), p, rfl, p0, by omega, (ls_fo _).bd hp, fo.bd hp⟩, fun m em => ?_⟩
      have em : m = Tz p (convL (ls (pfd L (con p (lastI f)) (cs.take i) * Pr L (ind c) ^ j)) (ls (Pr L (ind c)))) := em
      rw [ls_mul, Pl.mul_assoc] at em
      exact ⟨.fr (.int (j : Int)), by rw [em]; rfl⟩
    . rintro Z ⟨v13, rfl⟩
      have ec : ((c : Int)).toNat = c := by omega
      have e5 : pfd L (con p (lastI f)) (cs.take (i + 1)) = pfd L (con p (lastI f)) (cs.take i) * Pr L (ind c) ^ ((c : Int)).toNat := by
        rw [take_at hci, ec]
        unfold pfd
        rw [List.foldl_append]
        rfl
      refine ⟨c, .fr (.int (i : Int)), .fr (.ints (ls (Pr L (ind c)))), .fr (.int (c : Int)), v12, v13, by rw [e5, ela2]; rfl, fun k d hk hd => ?_⟩
      obtain ⟨kl, kd⟩ := List.getElem?_eq_some_iff.mp hd
      have := List.pairwise_iff_getElem.mp csOrd i k hi kl (by omega)
      omega
  . rintro Z ⟨la, v9, v10, v11, v12, v13, rfl, _⟩
    have e1 : cs.take ((cs.map (TT L)).length : Int).toNat = cs := by rw [lm, Int.toNat_natCast, List.take_length]
    refine ⟨⟨rfl, rfl⟩, ?_⟩
    show PV.bl (decide (ls (pfd L (con p (lastI f)) (cs.take ((cs.map (TT L)).length : Int).toNat)) = f)) = PV.bl true
    rw [decide_eq_true]
    rw [e1, csProd]
    exact ls_of ff
end
theorem all_mk {l : W.OpenLaw} {w : World} {K : W.Frag} {h : Heap} {mg : Str -> Option Value} {fa : Addr} {cNO : Addr} {cK : Addr} {cR : Addr} (X : K.In h) (G : h.Ns mainGlobals mg) (hfa : mg "law" = some (.ref fa))
    {f0 : Addr} {od0 an0 : Option Addr} {sl0 : Array (Option Value)} {oc0 kV0 dc0 pm0 cd0 ct0 : Value}
    {f1 : Addr} {od1 an1 : Option Addr} {sl1 : Array (Option Value)} {oc1 kV1 dc1 pm1 cd1 ct1 : Value}
    {f2 : Addr} {od2 an2 : Option Addr} {sl2 : Array (Option Value)} {oc2 kV2 dc2 pm2 cd2 ct2 : Value}
    {f3 : Addr} {od3 an3 : Option Addr} {sl3 : Array (Option Value)} {oc3 kV3 dc3 pm3 cd3 ct3 : Value}
    {f4 : Addr} {od4 an4 : Option Addr} {sl4 : Array (Option Value)} {oc4 kV4 dc4 pm4 cd4 ct4 : Value}
    {f5 : Addr} {od5 an5 : Option Addr} {sl5 : Array (Option Value)} {oc5 kV5 dc5 pm5 cd5 ct5 : Value}
    {f6 : Addr} {od6 an6 : Option Addr} {sl6 : Array (Option Value)} {oc6 kV6 dc6 pm6 cd6 ct6 : Value}
    {f7 : Addr} {od7 an7 : Option Addr} {sl7 : Array (Option Value)} {oc7 kV7 dc7 pm7 cd7 ct7 : Value}
    {f8 : Addr} {od8 an8 : Option Addr} {sl8 : Array (Option Value)} {oc8 kV8 dc8 pm8 cd8 ct8 : Value}
    {f9 : Addr} {od9 an9 : Option Addr} {sl9 : Array (Option Value)} {oc9 kV9 dc9 pm9 cd9 ct9 : Value}
    {f10 : Addr} {od10 an10 : Option Addr} {sl10 : Array (Option Value)} {oc10 kV10 dc10 pm10 cd10 ct10 : Value}
    {f11 : Addr} {od11 an11 : Option Addr} {sl11 : Array (Option Value)} {oc11 kV11 dc11 pm11 cd11 ct11 : Value}
    {f12 : Addr} {od12 an12 : Option Addr} {sl12 : Array (Option Value)} {oc12 kV12 dc12 pm12 cd12 ct12 : Value}
    {f13 : Addr} {od13 an13 : Option Addr} {sl13 : Array (Option Value)} {oc13 kV13 dc13 pm13 cd13 ct13 : Value}
    {f14 : Addr} {od14 an14 : Option Addr} {sl14 : Array (Option Value)} {oc14 kV14 dc14 pm14 cd14 ct14 : Value}
    {f15 : Addr} {od15 an15 : Option Addr} {sl15 : Array (Option Value)} {oc15 kV15 dc15 pm15 cd15 ct15 : Value}
    {f16 : Addr} {od16 an16 : Option Addr} {sl16 : Array (Option Value)} {oc16 kV16 dc16 pm16 cd16 ct16 : Value}
    {f17 : Addr} {od17 an17 : Option Addr} {sl17 : Array (Option Value)} {oc17 kV17 dc17 pm17 cd17 ct17 : Value}
    {f18 : Addr} {od18 an18 : Option Addr} {sl18 : Array (Option Value)} {oc18 kV18 dc18 pm18 cd18 ct18 : Value}
    {f19 : Addr} {od19 an19 : Option Addr} {sl19 : Array (Option Value)} {oc19 kV19 dc19 pm19 cd19 ct19 : Value}
    {f20 : Addr} {od20 an20 : Option Addr} {sl20 : Array (Option Value)} {oc20 kV20 dc20 pm20 cd20 ct20 : Value}
    {f21 : Addr} {od21 an21 : Option Addr} {sl21 : Array (Option Value)} {oc21 kV21 dc21 pm21 cd21 ct21 : Value}
    {f22 : Addr} {od22 an22 : Option Addr} {sl22 : Array (Option Value)} {oc22 kV22 dc22 pm22 cd22 ct22 : Value}
    {f23 : Addr} {od23 an23 : Option Addr} {sl23 : Array (Option Value)} {oc23 kV23 dc23 pm23 cd23 ct23 : Value}
    {f24 : Addr} {od24 an24 : Option Addr} {sl24 : Array (Option Value)} {oc24 kV24 dc24 pm24 cd24 ct24 : Value}
    {f25 : Addr} {od25 an25 : Option Addr} {sl25 : Array (Option Value)} {oc25 kV25 dc25 pm25 cd25 ct25 : Value}
    {f26 : Addr} {od26 an26 : Option Addr} {sl26 : Array (Option Value)} {oc26 kV26 dc26 pm26 cd26 ct26 : Value}
    {f27 : Addr} {od27 an27 : Option Addr} {sl27 : Array (Option Value)} {oc27 kV27 dc27 pm27 cd27 ct27 : Value}
    {f28 : Addr} {od28 an28 : Option Addr} {sl28 : Array (Option Value)} {oc28 kV28 dc28 pm28 cd28 ct28 : Value}
    {f29 : Addr} {od29 an29 : Option Addr} {sl29 : Array (Option Value)} {oc29 kV29 dc29 pm29 cd29 ct29 : Value}
    {tk0 : Tok}
    {fm0 : Addr} {odm0 anm0 : Option Addr} {slm0 : Array (Option Value)} {ocm0 kVm0 dcm0 pmm0 cdm0 ctm0 : Value}
    {fm1 : Addr} {odm1 anm1 : Option Addr} {slm1 : Array (Option Value)} {ocm1 kVm1 dcm1 pmm1 cdm1 ctm1 : Value}
    {fm2 : Addr} {odm2 anm2 : Option Addr} {slm2 : Array (Option Value)} {ocm2 kVm2 dcm2 pmm2 cdm2 ctm2 : Value}
    {fm3 : Addr} {odm3 anm3 : Option Addr} {slm3 : Array (Option Value)} {ocm3 kVm3 dcm3 pmm3 cdm3 ctm3 : Value}
    (a0 : W.nsIn K mainGlobals "cut_noughts" = some (some (.ref f0)))
    (l0 : K.lookup f0 = some ⟨oc0, od0, .func (W.fnOf "cut_noughts" "cut_noughts" (defArgs s_cut_noughts) (defBody s_cut_noughts) (defScope s_cut_noughts) .none kV0 dc0 pm0 an0 cd0 ct0), sl0⟩)
    (c0 : W.codeIn K cd0 "cut_noughts" = true) (k0 : W.keepIn K (.ref f0) = true)
    (a1 : W.nsIn K mainGlobals "trimmed" = some (some (.ref f1)))
    (l1 : K.lookup f1 = some ⟨oc1, od1, .func (W.fnOf "trimmed" "trimmed" (defArgs s_trimmed) (defBody s_trimmed) (defScope s_trimmed) .none kV1 dc1 pm1 an1 cd1 ct1), sl1⟩)
    (c1 : W.codeIn K cd1 "trimmed" = true) (k1 : W.keepIn K (.ref f1) = true)
    (a2 : W.nsIn K mainGlobals "plus" = some (some (.ref f2)))
    (l2 : K.lookup f2 = some ⟨oc2, od2, .func (W.fnOf "plus" "plus" (defArgs s_plus) (defBody s_plus) (defScope s_plus) .none kV2 dc2 pm2 an2 cd2 ct2), sl2⟩)
    (c2 : W.codeIn K cd2 "plus" = true) (k2 : W.keepIn K (.ref f2) = true)
    (a3 : W.nsIn K mainGlobals "less" = some (some (.ref f3)))
    (l3 : K.lookup f3 = some ⟨oc3, od3, .func (W.fnOf "less" "less" (defArgs s_less) (defBody s_less) (defScope s_less) .none kV3 dc3 pm3 an3 cd3 ct3), sl3⟩)
    (c3 : W.codeIn K cd3 "less" = true) (k3 : W.keepIn K (.ref f3) = true)
    (a4 : W.nsIn K mainGlobals "times" = some (some (.ref f4)))
    (l4 : K.lookup f4 = some ⟨oc4, od4, .func (W.fnOf "times" "times" (defArgs s_times) (defBody s_times) (defScope s_times) .none kV4 dc4 pm4 an4 cd4 ct4), sl4⟩)
    (c4 : W.codeIn K cd4 "times" = true) (k4 : W.keepIn K (.ref f4) = true)
    (a5 : W.nsIn K mainGlobals "scaled" = some (some (.ref f5)))
    (l5 : K.lookup f5 = some ⟨oc5, od5, .func (W.fnOf "scaled" "scaled" (defArgs s_scaled) (defBody s_scaled) (defScope s_scaled) .none kV5 dc5 pm5 an5 cd5 ct5), sl5⟩)
    (c5 : W.codeIn K cd5 "scaled" = true) (k5 : W.keepIn K (.ref f5) = true)
    (a6 : W.nsIn K mainGlobals "slope" = some (some (.ref f6)))
    (l6 : K.lookup f6 = some ⟨oc6, od6, .func (W.fnOf "slope" "slope" (defArgs s_slope) (defBody s_slope) (defScope s_slope) .none kV6 dc6 pm6 an6 cd6 ct6), sl6⟩)
    (c6 : W.codeIn K cd6 "slope" = true) (k6 : W.keepIn K (.ref f6) = true)
    (a7 : W.nsIn K mainGlobals "divided" = some (some (.ref f7)))
    (l7 : K.lookup f7 = some ⟨oc7, od7, .func (W.fnOf "divided" "divided" (defArgs s_divided) (defBody s_divided) (defScope s_divided) .none kV7 dc7 pm7 an7 cd7 ct7), sl7⟩)
    (c7 : W.codeIn K cd7 "divided" = true) (k7 : W.keepIn K (.ref f7) = true)
    (a8 : W.nsIn K mainGlobals "common" = some (some (.ref f8)))
    (l8 : K.lookup f8 = some ⟨oc8, od8, .func (W.fnOf "common" "common" (defArgs s_common) (defBody s_common) (defScope s_common) .none kV8 dc8 pm8 an8 cd8 ct8), sl8⟩)
    (c8 : W.codeIn K cd8 "common" = true) (k8 : W.keepIn K (.ref f8) = true)
    (a9 : W.nsIn K mainGlobals "with_lead_one" = some (some (.ref f9)))
    (l9 : K.lookup f9 = some ⟨oc9, od9, .func (W.fnOf "with_lead_one" "with_lead_one" (defArgs s_with_lead_one) (defBody s_with_lead_one) (defScope s_with_lead_one) .none kV9 dc9 pm9 an9 cd9 ct9), sl9⟩)
    (c9 : W.codeIn K cd9 "with_lead_one" = true) (k9 : W.keepIn K (.ref f9) = true)
    (a10 : W.nsIn K mainGlobals "turned_lead" = some (some (.ref f10)))
    (l10 : K.lookup f10 = some ⟨oc10, od10, .func (W.fnOf "turned_lead" "turned_lead" (defArgs s_turned_lead) (defBody s_turned_lead) (defScope s_turned_lead) .none kV10 dc10 pm10 an10 cd10 ct10), sl10⟩)
    (c10 : W.codeIn K cd10 "turned_lead" = true) (k10 : W.keepIn K (.ref f10) = true)
    (a11 : W.nsIn K mainGlobals "shares" = some (some (.ref f11)))
    (l11 : K.lookup f11 = some ⟨oc11, od11, .func (W.fnOf "shares" "shares" (defArgs s_shares) (defBody s_shares) (defScope s_shares) .none kV11 dc11 pm11 an11 cd11 ct11), sl11⟩)
    (c11 : W.codeIn K cd11 "shares" = true) (k11 : W.keepIn K (.ref f11) = true)
    (a12 : W.nsIn K mainGlobals "row_less" = some (some (.ref f12)))
    (l12 : K.lookup f12 = some ⟨oc12, od12, .func (W.fnOf "row_less" "row_less" (defArgs s_row_less) (defBody s_row_less) (defScope s_row_less) .none kV12 dc12 pm12 an12 cd12 ct12), sl12⟩)
    (c12 : W.codeIn K cd12 "row_less" = true) (k12 : W.keepIn K (.ref f12) = true)
    (a13 : W.nsIn K mainGlobals "free_parts" = some (some (.ref f13)))
    (l13 : K.lookup f13 = some ⟨oc13, od13, .func (W.fnOf "free_parts" "free_parts" (defArgs s_free_parts) (defBody s_free_parts) (defScope s_free_parts) .none kV13 dc13 pm13 an13 cd13 ct13), sl13⟩)
    (c13 : W.codeIn K cd13 "free_parts" = true) (k13 : W.keepIn K (.ref f13) = true)
    (a14 : W.nsIn K mainGlobals "seen_by_slope" = some (some (.ref f14)))
    (l14 : K.lookup f14 = some ⟨oc14, od14, .func (W.fnOf "seen_by_slope" "seen_by_slope" (defArgs s_seen_by_slope) (defBody s_seen_by_slope) (defScope s_seen_by_slope) .none kV14 dc14 pm14 an14 cd14 ct14), sl14⟩)
    (c14 : W.codeIn K cd14 "seen_by_slope" = true) (k14 : W.keepIn K (.ref f14) = true)
    (a15 : W.nsIn K mainGlobals "is_prime" = some (some (.ref f15)))
    (l15 : K.lookup f15 = some ⟨oc15, od15, .func (W.fnOf "is_prime" "is_prime" (defArgs s_is_prime) (defBody s_is_prime) (defScope s_is_prime) .none kV15 dc15 pm15 an15 cd15 ct15), sl15⟩)
    (c15 : W.codeIn K cd15 "is_prime" = true) (k15 : W.keepIn K (.ref f15) = true)
    (a16 : W.nsIn K mainGlobals "turned" = some (some (.ref f16)))
    (l16 : K.lookup f16 = some ⟨oc16, od16, .func (W.fnOf "turned" "turned" (defArgs s_turned) (defBody s_turned) (defScope s_turned) .none kV16 dc16 pm16 an16 cd16 ct16), sl16⟩)
    (c16 : W.codeIn K cd16 "turned" = true) (k16 : W.keepIn K (.ref f16) = true)
    (a17 : W.nsIn K mainGlobals "refuse_no_prime" = some (some (.ref f17)))
    (l17 : K.lookup f17 = some ⟨oc17, od17, .func (W.fnOf "refuse_no_prime" "refuse_no_prime" (defArgs s_refuse_no_prime) (defBody s_refuse_no_prime) (defScope s_refuse_no_prime) .none kV17 dc17 pm17 an17 cd17 ct17), sl17⟩)
    (c17 : W.codeIn K cd17 "refuse_no_prime" = true) (k17 : W.keepIn K (.ref f17) = true)
    (a18 : W.nsIn K mainGlobals "_law_cell_at" = some (some (.ref f18)))
    (l18 : K.lookup f18 = some ⟨oc18, od18, .func (W.fnOf "_law_cell_at" "_law_cell_at" (defArgs s_cell_at) (defBody s_cell_at) (defScope s_cell_at) .none kV18 dc18 pm18 an18 cd18 ct18), sl18⟩)
    (c18 : W.codeIn K cd18 "_law_cell_at" = true) (k18 : W.keepIn K (.ref f18) = true)
    (a19 : W.nsIn K mainGlobals "_law_whole" = some (some (.ref f19)))
    (l19 : K.lookup f19 = some ⟨oc19, od19, .func (W.fnOf "_law_whole" "_law_whole" (defArgs s_whole) (defBody s_whole) (defScope s_whole) .none kV19 dc19 pm19 an19 cd19 ct19), sl19⟩)
    (c19 : W.codeIn K cd19 "_law_whole" = true) (k19 : W.keepIn K (.ref f19) = true)
    (a20 : W.nsIn K mainGlobals "_law_divided" = some (some (.ref f20)))
    (l20 : K.lookup f20 = some ⟨oc20, od20, .func (W.fnOf "_law_divided" "_law_divided" (defArgs s_law_divided) (defBody s_law_divided) (defScope s_law_divided) .none kV20 dc20 pm20 an20 cd20 ct20), sl20⟩)
    (c20 : W.codeIn K cd20 "_law_divided" = true) (k20 : W.keepIn K (.ref f20) = true)
    (a21 : W.nsIn K mainGlobals "_law_prime_by" = some (some (.ref f21)))
    (l21 : K.lookup f21 = some ⟨oc21, od21, .func (W.fnOf "_law_prime_by" "_law_prime_by" (defArgs s_prime_by) (defBody s_prime_by) (defScope s_prime_by) .none kV21 dc21 pm21 an21 cd21 ct21), sl21⟩)
    (c21 : W.codeIn K cd21 "_law_prime_by" = true) (k21 : W.keepIn K (.ref f21) = true)
    (a22 : W.nsIn K mainGlobals "_law_form" = some (some (.ref f22)))
    (l22 : K.lookup f22 = some ⟨oc22, od22, .func (W.fnOf "_law_form" "_law_form" (defArgs s_form) (defBody s_form) (defScope s_form) .none kV22 dc22 pm22 an22 cd22 ct22), sl22⟩)
    (c22 : W.codeIn K cd22 "_law_form" = true) (k22 : W.keepIn K (.ref f22) = true)
    (a23 : W.nsIn K mainGlobals "_law_times" = some (some (.ref f23)))
    (l23 : K.lookup f23 = some ⟨oc23, od23, .func (W.fnOf "_law_times" "_law_times" (defArgs s_law_times) (defBody s_law_times) (defScope s_law_times) .none kV23 dc23 pm23 an23 cd23 ct23), sl23⟩)
    (c23 : W.codeIn K cd23 "_law_times" = true) (k23 : W.keepIn K (.ref f23) = true)
    (a24 : W.nsIn K mainGlobals "_law_plus" = some (some (.ref f24)))
    (l24 : K.lookup f24 = some ⟨oc24, od24, .func (W.fnOf "_law_plus" "_law_plus" (defArgs s_law_plus) (defBody s_law_plus) (defScope s_law_plus) .none kV24 dc24 pm24 an24 cd24 ct24), sl24⟩)
    (c24 : W.codeIn K cd24 "_law_plus" = true) (k24 : W.keepIn K (.ref f24) = true)
    (a25 : W.nsIn K mainGlobals "_law_slope" = some (some (.ref f25)))
    (l25 : K.lookup f25 = some ⟨oc25, od25, .func (W.fnOf "_law_slope" "_law_slope" (defArgs s_law_slope) (defBody s_law_slope) (defScope s_law_slope) .none kV25 dc25 pm25 an25 cd25 ct25), sl25⟩)
    (c25 : W.codeIn K cd25 "_law_slope" = true) (k25 : W.keepIn K (.ref f25) = true)
    (a26 : W.nsIn K mainGlobals "_law_in_form" = some (some (.ref f26)))
    (l26 : K.lookup f26 = some ⟨oc26, od26, .func (W.fnOf "_law_in_form" "_law_in_form" (defArgs s_in_form) (defBody s_in_form) (defScope s_in_form) .none kV26 dc26 pm26 an26 cd26 ct26), sl26⟩)
    (c26 : W.codeIn K cd26 "_law_in_form" = true) (k26 : W.keepIn K (.ref f26) = true)
    (a27 : W.nsIn K mainGlobals "_law_built" = some (some (.ref f27)))
    (l27 : K.lookup f27 = some ⟨oc27, od27, .func (W.fnOf "_law_built" "_law_built" (defArgs s_built) (defBody s_built) (defScope s_built) .none kV27 dc27 pm27 an27 cd27 ct27), sl27⟩)
    (c27 : W.codeIn K cd27 "_law_built" = true) (k27 : W.keepIn K (.ref f27) = true)
    (a28 : W.nsIn K mainGlobals "_law_apart" = some (some (.ref f28)))
    (l28 : K.lookup f28 = some ⟨oc28, od28, .func (W.fnOf "_law_apart" "_law_apart" (defArgs s_apart) (defBody s_apart) (defScope s_apart) .none kV28 dc28 pm28 an28 cd28 ct28), sl28⟩)
    (c28 : W.codeIn K cd28 "_law_apart" = true) (k28 : W.keepIn K (.ref f28) = true)
    (a29 : W.nsIn K mainGlobals "law" = some (some (.ref f29)))
    (l29 : K.lookup f29 = some ⟨oc29, od29, .func (W.fnOf "law" "law" (defArgs s_law) (defBody s_law) (defScope s_law) .none kV29 dc29 pm29 an29 cd29 ct29), sl29⟩)
    (c29 : W.codeIn K cd29 "law" = true) (k29 : W.keepIn K (.ref f29) = true)
    (lh13 : lamHas K cd13 ("free_parts" ++ ".<locals>." ++ "<lambda>") = true)
    (z0 : W.nsIn K mainGlobals "len" = some none)
    (z1 : W.nsIn K mainGlobals "range" = some none)
    (z2 : W.nsIn K mainGlobals "isinstance" = some none)
    (z3 : W.nsIn K mainGlobals "bool" = some none)
    (z4 : W.nsIn K mainGlobals "int" = some none)
    (z5 : W.nsIn K mainGlobals "list" = some none)
    (z6 : W.nsIn K mainGlobals "max" = some none)
    (z7 : W.nsIn K mainGlobals "min" = some none)
    (z8 : W.nsIn K mainGlobals "enumerate" = some none)
    (z9 : W.nsIn K mainGlobals "tuple" = some none)
    (z10 : W.nsIn K mainGlobals "sorted" = some none)
    (y0 : W.nsIn K mainGlobals "LARGEST_PRIME" = some (some (.int 9973 tk0)))
    (q_NoOver : W.nsIn K mainGlobals "NoOver" = some (some (.ref cNO)))
    (e_NoOver : W.excIn K cNO bmV "ValueError.__new__" = true)
    (q_Kind : W.nsIn K mainGlobals "Kind" = some (some (.ref cK)))
    (q_Rests : W.nsIn K mainGlobals "Rests" = some (some (.ref cR)))
    (pg_Rests : W.plainGet K cR Str.empty = true)
    (hd_Rests : W.hasDictIn K cR = true)
    (po_Rests : W.plainOver K cR = true)
    (sa_Rests : W.findIn K (.ref cR) "__setattr__" = some (some (.builtin "object.__setattr__")))
    (na_Rests_size : W.findIn K (.ref cR) "size" = some none)
    (fcm0 : W.findCls K (.ref cK) (.type "type") "__init__" = some (.val (.ref fm0)))
    (lm0 : K.lookup fm0 = some ⟨ocm0, odm0, .func (W.fnOf "__init__" "Kind.__init__" (defArgs s_Kind_init) (defBody s_Kind_init) (defScope s_Kind_init) .none kVm0 dcm0 pmm0 anm0 cdm0 ctm0), slm0⟩)
    (cm0 : W.codeIn K cdm0 "Kind.__init__" = true) (km0 : W.keepIn K (.ref fm0) = true)
    (gam0 : W.specialIn K (.ref cK) "__getattribute__" = some (some (.builtin "type.__getattribute__")))
    (rdm0 : W.readsIn K cK (.type "type") = true)
    (gm1_Rests : W.findIn K (.ref cR) "plain" = some (some (.ref fm1)))
    (lm1 : K.lookup fm1 = some ⟨ocm1, odm1, .func (W.fnOf "plain" "Kind.plain" (defArgs s_Kind_plain) (defBody s_Kind_plain) (defScope s_Kind_plain) .none kVm1 dcm1 pmm1 anm1 cdm1 ctm1), slm1⟩)
    (cm1 : W.codeIn K cdm1 "Kind.plain" = true) (km1 : W.keepIn K (.ref fm1) = true)
    (fnm1 : W.isFn K (.ref fm1) = true)
    (gm2_Rests : W.findIn K (.ref cR) "over" = some (some (.ref fm2)))
    (lm2 : K.lookup fm2 = some ⟨ocm2, odm2, .func (W.fnOf "over" "Kind.over" (defArgs s_Kind_over) (defBody s_Kind_over) (defScope s_Kind_over) .none kVm2 dcm2 pmm2 anm2 cdm2 ctm2), slm2⟩)
    (cm2 : W.codeIn K cdm2 "Kind.over" = true) (km2 : W.keepIn K (.ref fm2) = true)
    (fnm2 : W.isFn K (.ref fm2) = true)
    (fim3 : W.findIn K (.ref cR) "__init__" = some (some (.ref fm3)))
    (lm3 : K.lookup fm3 = some ⟨ocm3, odm3, .func (W.fnOf "__init__" "Rests.__init__" (defArgs s_Rests_init) (defBody s_Rests_init) (defScope s_Rests_init) .none kVm3 dcm3 pmm3 anm3 cdm3 ctm3), slm3⟩)
    (cm3 : W.codeIn K cdm3 "Rests.__init__" = true) (km3 : W.keepIn K (.ref fm3) = true)
    (mkm3 : W.makesIn K cR = true)
    (fnm3 : W.isFn K (.ref fm3) = true)
    (kcm3 : W.keepIn K (.ref cR) = true)
    (i0 : W.kitOne K (.type "int") (.type "int") = some true)
    (i1 : W.kitOne K (.type "int") (.type "bool") = some false)
    (i2 : W.kitOne K (.type "list") (.type "list") = some true)
    (i3 : W.kitOne K (.type "tuple") (.type "tuple") = some true) :
    ∃ fd : FuncData, (∀ (s : Shared) (v : Value), BindsTo s fd ⟨[v], []⟩ [("_law_script", v)]) /\ ∀ base : Heap, K.In base -> base.Ns mainGlobals mg -> FnOk l.prog w K mg base CX0 9 fa fd ["_law_script"] (spLaw2 K) := by
  have e := hfa.symm.trans (W.mg_of X G a29)
  cases e
  have F0 := fun_mk (st := s_cut_noughts) l0 c0 k0
  have b0 := F0.binds (ps := ["numbers"]) fun _ _ _ _ _ _ us hl => match us, hl with | [_], _ => rfl
  have F1 := fun_mk (st := s_trimmed) l1 c1 k1
  have b1 := F1.binds (ps := ["kind", "f"]) fun _ _ _ _ _ _ us hl => match us, hl with | [_, _], _ => rfl
  have F2 := fun_mk (st := s_plus) l2 c2 k2
  have b2 := F2.binds (ps := ["kind", "f", "g"]) fun _ _ _ _ _ _ us hl => match us, hl with | [_, _, _], _ => rfl
  have F3 := fun_mk (st := s_less) l3 c3 k3
  have b3 := F3.binds (ps := ["kind", "f", "g"]) fun _ _ _ _ _ _ us hl => match us, hl with | [_, _, _], _ => rfl
  have F4 := fun_mk (st := s_times) l4 c4 k4
  have b4 := F4.binds (ps := ["kind", "f", "g"]) fun _ _ _ _ _ _ us hl => match us, hl with | [_, _, _], _ => rfl
  have F5 := fun_mk (st := s_scaled) l5 c5 k5
  have b5 := F5.binds (ps := ["kind", "f", "number"]) fun _ _ _ _ _ _ us hl => match us, hl with | [_, _, _], _ => rfl
  have F6 := fun_mk (st := s_slope) l6 c6 k6
  have b6 := F6.binds (ps := ["kind", "f"]) fun _ _ _ _ _ _ us hl => match us, hl with | [_, _], _ => rfl
  have F7 := fun_mk (st := s_divided) l7 c7 k7
  have b7 := F7.binds (ps := ["kind", "f", "g"]) fun _ _ _ _ _ _ us hl => match us, hl with | [_, _, _], _ => rfl
  have F8 := fun_mk (st := s_common) l8 c8 k8
  have b8 := F8.binds (ps := ["kind", "f", "g"]) fun _ _ _ _ _ _ us hl => match us, hl with | [_, _, _], _ => rfl
  have F9 := fun_mk (st := s_with_lead_one) l9 c9 k9
  have b9 := F9.binds (ps := ["kind", "f"]) fun _ _ _ _ _ _ us hl => match us, hl with | [_, _], _ => rfl
  have F10 := fun_mk (st := s_turned_lead) l10 c10 k10
  have b10 := F10.binds (ps := ["kind", "f"]) fun _ _ _ _ _ _ us hl => match us, hl with | [_, _], _ => rfl
  have F11 := fun_mk (st := s_shares) l11 c11 k11
  have b11 := F11.binds (ps := ["kind", "f", "g"]) fun _ _ _ _ _ _ us hl => match us, hl with | [_, _, _], _ => rfl
  have F12 := fun_mk (st := s_row_less) l12 c12 k12
  have b12 := F12.binds (ps := ["kind", "row", "often", "other"]) fun _ _ _ _ _ _ us hl => match us, hl with | [_, _, _, _], _ => rfl
  have F13 := fun_mk (st := s_free_parts) l13 c13 k13
  have b13 := F13.binds (ps := ["kind", "f"]) fun _ _ _ _ _ _ us hl => match us, hl with | [_, _], _ => rfl
  have F14 := fun_mk (st := s_seen_by_slope) l14 c14 k14
  have b14 := F14.binds (ps := ["kind", "f"]) fun _ _ _ _ _ _ us hl => match us, hl with | [_, _], _ => rfl
  have F15 := fun_mk (st := s_is_prime) l15 c15 k15
  have b15 := F15.binds (ps := ["number"]) fun _ _ _ _ _ _ us hl => match us, hl with | [_], _ => rfl
  have F16 := fun_mk (st := s_turned) l16 c16 k16
  have b16 := F16.binds (ps := ["number", "size"]) fun _ _ _ _ _ _ us hl => match us, hl with | [_, _], _ => rfl
  have F17 := fun_mk (st := s_refuse_no_prime) l17 c17 k17
  have b17 := F17.binds (ps := ["number"]) fun _ _ _ _ _ _ us hl => match us, hl with | [_], _ => rfl
  have F18 := fun_mk (st := s_cell_at) l18 c18 k18
  have b18 := F18.binds (ps := ["_law_script", "_law_k"]) fun _ _ _ _ _ _ us hl => match us, hl with | [_, _], _ => rfl
  have F19 := fun_mk (st := s_whole) l19 c19 k19
  have b19 := F19.binds (ps := ["_law_found"]) fun _ _ _ _ _ _ us hl => match us, hl with | [_], _ => rfl
  have F20 := fun_mk (st := s_law_divided) l20 c20 k20
  have b20 := F20.binds (ps := ["_law_number"]) fun _ _ _ _ _ _ us hl => match us, hl with | [_], _ => rfl
  have F21 := fun_mk (st := s_prime_by) l21 c21 k21
  have b21 := F21.binds (ps := ["_law_cell"]) fun _ _ _ _ _ _ us hl => match us, hl with | [_], _ => rfl
  have F22 := fun_mk (st := s_form) l22 c22 k22
  have b22 := F22.binds (ps := ["_law_row", "_law_prime"]) fun _ _ _ _ _ _ us hl => match us, hl with | [_, _], _ => rfl
  have F23 := fun_mk (st := s_law_times) l23 c23 k23
  have b23 := F23.binds (ps := ["_law_one", "_law_other", "_law_prime"]) fun _ _ _ _ _ _ us hl => match us, hl with | [_, _, _], _ => rfl
  have F24 := fun_mk (st := s_law_plus) l24 c24 k24
  have b24 := F24.binds (ps := ["_law_one", "_law_other", "_law_prime"]) fun _ _ _ _ _ _ us hl => match us, hl with | [_, _, _], _ => rfl
  have F25 := fun_mk (st := s_law_slope) l25 c25 k25
  have b25 := F25.binds (ps := ["_law_row", "_law_prime"]) fun _ _ _ _ _ _ us hl => match us, hl with | [_, _], _ => rfl
  have F26 := fun_mk (st := s_in_form) l26 c26 k26
  have b26 := F26.binds (ps := ["_law_found", "_law_prime"]) fun _ _ _ _ _ _ us hl => match us, hl with | [_, _], _ => rfl
  have F27 := fun_mk (st := s_built) l27 c27 k27
  have b27 := F27.binds (ps := ["_law_script", "_law_prime"]) fun _ _ _ _ _ _ us hl => match us, hl with | [_, _], _ => rfl
  have F28 := fun_mk (st := s_apart) l28 c28 k28
  have b28 := F28.binds (ps := ["_law_kind", "_law_one", "_law_other", "_law_prime"]) fun _ _ _ _ _ _ us hl => match us, hl with | [_, _, _, _], _ => rfl
  have F29 := fun_mk (st := s_law) l29 c29 k29
  have Fm0 := fun_mk (st := s_Kind_init) lm0 cm0 km0
  have bm0 := Fm0.binds (ps := ["self", "size"]) fun _ _ _ _ _ _ us hl => match us, hl with | [_, _], _ => rfl
  have Fm1 := fun_mk (st := s_Kind_plain) lm1 cm1 km1
  have bm1 := Fm1.binds (ps := ["self", "number"]) fun _ _ _ _ _ _ us hl => match us, hl with | [_, _], _ => rfl
  have Fm2 := fun_mk (st := s_Kind_over) lm2 cm2 km2
  have bm2 := Fm2.binds (ps := ["self", "a", "b"]) fun _ _ _ _ _ _ us hl => match us, hl with | [_, _, _], _ => rfl
  have Fm3 := fun_mk (st := s_Rests_init) lm3 cm3 km3
  have bm3 := Fm3.binds (ps := ["self", "prime"]) fun _ _ _ _ _ _ us hl => match us, hl with | [_, _], _ => rfl
  have T : Top K mg cNO cK cR := ⟨Def.mk' F0 b0 (W.mg_of X G a0),
    Def.mk' F1 b1 (W.mg_of X G a1),
    Def.mk' F2 b2 (W.mg_of X G a2),
    Def.mk' F3 b3 (W.mg_of X G a3),
    Def.mk' F4 b4 (W.mg_of X G a4),
    Def.mk' F5 b5 (W.mg_of X G a5),
    Def.mk' F6 b6 (W.mg_of X G a6),
    Def.mk' F7 b7 (W.mg_of X G a7),
    Def.mk' F8 b8 (W.mg_of X G a8),
    Def.mk' F9 b9 (W.mg_of X G a9),
    Def.mk' F10 b10 (W.mg_of X G a10),
    Def.mk' F11 b11 (W.mg_of X G a11),
    Def.mk' F12 b12 (W.mg_of X G a12),
    Def.mk' F13 b13 (W.mg_of X G a13),
    Def.mk' F14 b14 (W.mg_of X G a14),
    Def.mk' F15 b15 (W.mg_of X G a15),
    Def.mk' F16 b16 (W.mg_of X G a16),
    Def.mk' F17 b17 (W.mg_of X G a17),
    Def.mk' F18 b18 (W.mg_of X G a18),
    Def.mk' F19 b19 (W.mg_of X G a19),
    Def.mk' F20 b20 (W.mg_of X G a20),
    Def.mk' F21 b21 (W.mg_of X G a21),
    Def.mk' F22 b22 (W.mg_of X G a22),
    Def.mk' F23 b23 (W.mg_of X G a23),
    Def.mk' F24 b24 (W.mg_of X G a24),
    Def.mk' F25 b25 (W.mg_of X G a25),
    Def.mk' F26 b26 (W.mg_of X G a26),
    Def.mk' F27 b27 (W.mg_of X G a27),
    Def.mk' F28 b28 (W.mg_of X G a28),
    ⟨f13, oc13, od13, _, sl13, W.mg_of X G a13, l13, lamHas_of lh13⟩,
    W.mg_none_of X G z0,
    W.mg_none_of X G z1,
    W.mg_none_of X G z2,
    W.mg_none_of X G z3,
    W.mg_none_of X G z4,
    W.mg_none_of X G z5,
    W.mg_none_of X G z6,
    W.mg_none_of X G z7,
    W.mg_none_of X G z8,
    W.mg_none_of X G z9,
    W.mg_none_of X G z10,
    ⟨_, W.mg_of X G y0⟩,
    i0,
    i1,
    i2,
    i3,
    W.mg_of X G q_NoOver,
    e_NoOver,
    W.mg_of X G q_Kind,
    W.mg_of X G q_Rests,
    ⟨pg_Rests, hd_Rests, po_Rests, sa_Rests⟩,
    na_Rests_size,
    ⟨_, _, Fm0, bm0, gam0, rdm0, fcm0, km0⟩,
    ⟨_, _, Fm1, bm1, ⟨gm1_Rests, fnm1, km1⟩⟩,
    ⟨_, _, Fm2, bm2, ⟨gm2_Rests, fnm2, km2⟩⟩,
    ⟨_, _, Fm3, bm3, mkm3, fim3, fnm3, kcm3⟩⟩
  exact ⟨_, fun s v => .of_eq rfl, fun base _ _ => kx_law T F29⟩
theorem walk {l : PySem.W.OpenLaw} {q : Program} {loose : List Str} {XP : (Str -> Option Value) -> Heap -> Prop} {YP : World -> Heap -> Prop} {d : DefRec} {K : Params -> PySem.W.Frag} (hn : l.most = some 63) (hdf : d.params.defaults = [])
    (hY : ∀ (w : World) (h : Heap), YP w h -> (K w.params).In h) (hL : ∀ (w : World) (h : Heap), YP w h -> LamOk (K w.params) h)
    (F : ∀ (w : World) (mg : Str -> Option Value) (fa : Addr) (h : Heap), (K w.params).In h -> h.Ns mainGlobals mg -> mg d.name = some (.ref fa) ->
      ∃ fd : FuncData, (∀ (s : Shared) (u : Value), BindsTo s fd ⟨[u], []⟩ [("_law_script", u)]) /\ ∀ base : Heap, (K w.params).In base -> base.Ns mainGlobals mg -> FnOk l.prog w (K w.params) mg base CX0 9 fa fd ["_law_script"] (spLaw2 (K w.params))) :
    PySem.W.WalkO q loose XP YP l.row.toRowW d [] (fun f vs => PySem.call f vs) :=
  L2.walk_of2 (n := 63) (k := 9) (x := "_law_script") (CX := fun _ => CX0) (sp := fun w => spLaw2 (K w.params)) hn (by decide) hdf ⟨rfl, by decide, by decide⟩ hY F hL (fun _ _ a ns hl hb hS => ⟨a, ns, rfl, hS, hl, hb, fun _ => rfl⟩) fun _ _ _ _ _ z => z
end K25
local macro_rules | `(tactic| o_head $H) => `(tactic| (refine PySem.W.holds_open (q := K25.view) (loose := []) (Xt := fun s => PySem.W.xlAt K25.view [] s && PySem.W.recOk (PySem.W.RowW.records PySem.Challenge.rw_factorforge_k25_whole_squares_out.row.toRowW) s) (XP := PySem.W.XL K25.view []) (Yf := PySem.W.Hook.obs $H) (Ya := PySem.W.Hook.val $H) (YP := PySem.W.Hook.says $H) (N := 20000) ?hl (PySem.W.Hook.of $H) (PySem.W.Hook.keeps $H) (fun s e => PySem.W.xl_of s (Bool.and_eq_true_iff.mp e).1) PySem.W.XL.keeps (by rfl) (by rfl) (by rfl) (fun s e => PySem.W.recFacts_of (Bool.and_eq_true_iff.mp e).2) (by rfl) (by first | assumption | decide +kernel) (by decide +kernel) ⟨rfl, rfl, rfl, rfl, rfl, by decide +kernel⟩ ?hw ?hc; (case hl => (intro w; exact K25.fin w (by kernel_rfl)))))
open PySem PySem.W PyProof.Rows
set_option maxRecDepth 100000 in
set_option maxHeartbeats 0 in
theorem PySem.Challenge.cw_factorforge_k25_whole_squares_out_holds : PySem.Challenge.rw_factorforge_k25_whole_squares_out.Holds := by
  w_on; o_law; k_head; (rotate_left; rotate_right); (· w_witness2)
  k_fill
  refine K25.walk (l := PySem.Challenge.rw_factorforge_k25_whole_squares_out) rfl rfl (fun w h Y => PySem.W.km_in_of Y) (fun w h Y => L3.lamOk_of (by kernel_rfl) (PySem.W.km_tabs_of Y)) ?F
  case F =>
    intro w mg fa h KX G hmg
    refine' K25.all_mk KX G hmg ?a0 ?l0 ?c0 ?k0 ?a1 ?l1 ?c1 ?k1 ?a2 ?l2 ?c2 ?k2 ?a3 ?l3 ?c3 ?k3 ?a4 ?l4 ?c4 ?k4 ?a5 ?l5 ?c5 ?k5 ?a6 ?l6 ?c6 ?k6 ?a7 ?l7 ?c7 ?k7 ?a8 ?l8 ?c8 ?k8 ?a9 ?l9 ?c9 ?k9 ?a10 ?l10 ?c10 ?k10 ?a11 ?l11 ?c11 ?k11 ?a12 ?l12 ?c12 ?k12 ?a13 ?l13 ?c13 ?k13 ?a14 ?l14 ?c14 ?k14 ?a15 ?l15 ?c15 ?k15 ?a16 ?l16 ?c16 ?k16 ?a17 ?l17 ?c17 ?k17 ?a18 ?l18 ?c18 ?k18 ?a19 ?l19 ?c19 ?k19 ?a20 ?l20 ?c20 ?k20 ?a21 ?l21 ?c21 ?k21 ?a22 ?l22 ?c22 ?k22 ?a23 ?l23 ?c23 ?k23 ?a24 ?l24 ?c24 ?k24 ?a25 ?l25 ?c25 ?k25 ?a26 ?l26 ?c26 ?k26 ?a27 ?l27 ?c27 ?k27 ?a28 ?l28 ?c28 ?k28 ?a29 ?l29 ?c29 ?k29 ?lh13 ?z0 ?z1 ?z2 ?z3 ?z4 ?z5 ?z6 ?z7 ?z8 ?z9 ?z10 ?y0 ?q_NoOver ?e_NoOver ?q_Kind ?q_Rests ?pg_Rests ?hd_Rests ?po_Rests ?sa_Rests ?na_Rests_size ?fcm0 ?lm0 ?cm0 ?km0 ?gam0 ?rdm0 ?gm1_Rests ?lm1 ?cm1 ?km1 ?fnm1 ?gm2_Rests ?lm2 ?cm2 ?km2 ?fnm2 ?fim3 ?lm3 ?cm3 ?km3 ?mkm3 ?fnm3 ?kcm3 ?i0 ?i1 ?i2 ?i3
    (case a0 => k_is)
    (case l0 => k_is)
    (case c0 => k_is)
    (case k0 => k_is)
    (case a1 => k_is)
    (case l1 => k_is)
    (case c1 => k_is)
    (case k1 => k_is)
    (case a2 => k_is)
    (case l2 => k_is)
    (case c2 => k_is)
    (case k2 => k_is)
    (case a3 => k_is)
    (case l3 => k_is)
    (case c3 => k_is)
    (case k3 => k_is)
    (case a4 => k_is)
    (case l4 => k_is)
    (case c4 => k_is)
    (case k4 => k_is)
    (case a5 => k_is)
    (case l5 => k_is)
    (case c5 => k_is)
    (case k5 => k_is)
    (case a6 => k_is)
    (case l6 => k_is)
    (case c6 => k_is)
    (case k6 => k_is)
    (case a7 => k_is)
    (case l7 => k_is)
    (case c7 => k_is)
    (case k7 => k_is)
    (case a8 => k_is)
    (case l8 => k_is)
    (case c8 => k_is)
    (case k8 => k_is)
    (case a9 => k_is)
    (case l9 => k_is)
    (case c9 => k_is)
    (case k9 => k_is)
    (case a10 => k_is)
    (case l10 => k_is)
    (case c10 => k_is)
    (case k10 => k_is)
    (case a11 => k_is)
    (case l11 => k_is)
    (case c11 => k_is)
    (case k11 => k_is)
    (case a12 => k_is)
    (case l12 => k_is)
    (case c12 => k_is)
    (case k12 => k_is)
    (case a13 => k_is)
    (case l13 => k_is)
    (case c13 => k_is)
    (case k13 => k_is)
    (case a14 => k_is)
    (case l14 => k_is)
    (case c14 => k_is)
    (case k14 => k_is)
    (case a15 => k_is)
    (case l15 => k_is)
    (case c15 => k_is)
    (case k15 => k_is)
    (case a16 => k_is)
    (case l16 => k_is)
    (case c16 => k_is)
    (case k16 => k_is)
    (case a17 => k_is)
    (case l17 => k_is)
    (case c17 => k_is)
    (case k17 => k_is)
    (case a18 => k_is)
    (case l18 => k_is)
    (case c18 => k_is)
    (case k18 => k_is)
    (case a19 => k_is)
    (case l19 => k_is)
    (case c19 => k_is)
    (case k19 => k_is)
    (case a20 => k_is)
    (case l20 => k_is)
    (case c20 => k_is)
    (case k20 => k_is)
    (case a21 => k_is)
    (case l21 => k_is)
    (case c21 => k_is)
    (case k21 => k_is)
    (case a22 => k_is)
    (case l22 => k_is)
    (case c22 => k_is)
    (case k22 => k_is)
    (case a23 => k_is)
    (case l23 => k_is)
    (case c23 => k_is)
    (case k23 => k_is)
    (case a24 => k_is)
    (case l24 => k_is)
    (case c24 => k_is)
    (case k24 => k_is)
    (case a25 => k_is)
    (case l25 => k_is)
    (case c25 => k_is)
    (case k25 => k_is)
    (case a26 => k_is)
    (case l26 => k_is)
    (case c26 => k_is)
    (case k26 => k_is)
    (case a27 => k_is)
    (case l27 => k_is)
    (case c27 => k_is)
    (case k27 => k_is)
    (case a28 => k_is)
    (case l28 => k_is)
    (case c28 => k_is)
    (case k28 => k_is)
    (case a29 => k_is)
    (case l29 => k_is)
    (case c29 => k_is)
    (case k29 => k_is)
    (case lh13 => kernel_rfl)
    (case z0 => k_is)
    (case z1 => k_is)
    (case z2 => k_is)
    (case z3 => k_is)
    (case z4 => k_is)
    (case z5 => k_is)
    (case z6 => k_is)
    (case z7 => k_is)
    (case z8 => k_is)
    (case z9 => k_is)
    (case z10 => k_is)
    (case y0 => k_is)
    (case q_NoOver => k_is)
    (case e_NoOver => k_exc)
    (case q_Kind => k_is)
    (case q_Rests => k_is)
    (case pg_Rests => k_is)
    (case hd_Rests => k_is)
    (case po_Rests => k_is)
    (case sa_Rests => k_is)
    (case na_Rests_size => k_is)
    (case fcm0 => k_is)
    (case lm0 => k_is)
    (case cm0 => k_is)
    (case km0 => k_is)
    (case gam0 => k_is)
    (case rdm0 => k_is)
    (case gm1_Rests => k_is)
    (case lm1 => k_is)
    (case cm1 => k_is)
    (case km1 => k_is)
    (case fnm1 => k_is)
    (case gm2_Rests => k_is)
    (case lm2 => k_is)
    (case cm2 => k_is)
    (case km2 => k_is)
    (case fnm2 => k_is)
    (case fim3 => k_is)
    (case lm3 => k_is)
    (case cm3 => k_is)
    (case km3 => k_is)
    (case mkm3 => k_is)
    (case fnm3 => k_is)
    (case kcm3 => k_is)
    (case i0 => kit_is)
    (case i1 => kit_is)
    (case i2 => kit_is)
    (case i3 => kit_is)
