import PyProof.Rows.All
import Wide.All
import KE.KNestM
import KE.KUnpack
import KE.KEqDeep
import KE.KPassesOwn
import KE.RegKIsAll
import KE.RegKTryMore
import OpenK.KOwn
import KE.KItem
import Wide.FinOn
import Lean
import PyProof.EqAt
import PyProof.EqKinds
import PyProof.TupleCall
import PySem.Challenge.RW_factorforge_k62_whole_common
set_option Elab.async false
set_option linter.all false
set_option maxRecDepth 100000
set_option maxHeartbeats 4000000
local macro_rules | `(tactic| omega) => `(tactic| lia)
noncomputable section
theorem tT : True := True.intro
theorem gQ {A : Type} {l : List A} {i : Nat} {a : A} : l.getD i a = l[i]?.getD a := List.getD_eq_getElem?_getD ..
theorem lP {A : Type} {l : List A} (h : l ≠ []) : 0 < l.length := List.length_pos_iff.mpr h
section
open PySem PySem.W PyProof.Rows
namespace K62
def top (i : Nat) : Stmt := PySem.Challenge.pw_factorforge_k62_whole_common.main.body.getD i (.Pass ⟨0, 0, 0, 0⟩)
end K62
def K62.view : PySem.Program := { PySem.Challenge.rw_factorforge_k62_whole_common.row.toRowW.prog with main := { PySem.Challenge.rw_factorforge_k62_whole_common.row.toRowW.prog.main with body := [K62.top 0, K62.top 2, K62.top 3, K62.top 5, K62.top 6, K62.top 8, K62.top 9, K62.top 10, K62.top 11, K62.top 13, K62.top 14, K62.top 15, K62.top 16, K62.top 17, K62.top 18, K62.top 19, K62.top 20, K62.top 21, K62.top 22, K62.top 23] } }
def X.trT (tb : String -> Option Builtin) (p : Program) (w : World) (n₀ : Nat) (ann : Option Value) : Nat -> SharedT -> Thread -> Option SharedT
  | 0, _, _ => none
  | n + 1, s, t => match through t with
    | true => some s
    | false => match stepOk n₀ ann t with
      | false => none
      | true => match stepT (denote tb) p w s t with
        | some (s', t') => X.trT tb p w n₀ ann n s' t'
        | none => none
theorem X.trT_of {tb : String -> Option Builtin} {p : Program} {w : World} {n₀ : Nat} {ann : Option Value} : ∀ {n : Nat} {s s' : SharedT} {t : Thread}, X.trT tb p w n₀ ann n s t = some s' -> topRun tb p w n₀ ann n s.abs t = some s'.abs
  | 0, _, _, _, h => by cases h
  | n + 1, s, s', t, h => by
    unfold X.trT at h
    unfold topRun
    cases ht : through t with
    | true => rw [ht] at h; cases h; rfl
    | false =>
      rw [ht] at h
      cases hk : stepOk n₀ ann t with
      | false => rw [hk] at h; cases h
      | true =>
        rw [hk] at h
        cases hs : stepT (denote tb) p w s t with
        | none => rw [hs] at h; cases h
        | some r => obtain ⟨s₂, t₂⟩ := r; rw [hs] at h; rw [stepT_spec hs]; exact X.trT_of h
def X.toT (s : Shared) : SharedT := ⟨(s.heap.objs.toList.foldl (fun (x : BT × Nat) o => (x.1.ins x.2 o, x.2 + 1)) (BT.nil, 0)).1, s.heap.objs.size, s.heap.life, s.gens, s.drawn, s.toks, s.os⟩
def X.RT (tb : String -> Option Builtin) (p : Program) (w : World) (N : Nat) : Option (Shared × SharedT) := (fencedOpening tb p w N).bind fun s0 => (X.trT tb p w s0.heap.objs.size (s0.heap.nsMap mainGlobals "__annotations__") N (X.toT s0) (topStub p)).map fun s1 => (s0, s1)
def X.chk (p : Program) (s0 s1 : Shared) : Bool := (s0.heap.isNs mainGlobals && s0.gens.size == 0) && (staticsOk (importedModules p.main.body) s0.heap s1.heap && namesBound p s1.heap && gensDone s1 && laidKept s0.heap s1.heap)
theorem X.ends_of_tree {p : Program} {w : World} {N : Nat} {A : Type} {f : Shared -> A} {a : A} (h0 : (fencedOpening treeTable p w N).map (fun s => (X.toT s).tree.list s.heap.objs.size) = (fencedOpening treeTable p w N).map (fun s => s.heap.objs.toList))
    (h1 : (X.RT treeTable p w N).map (fun x => (X.chk p x.1 x.2.abs, f x.2.abs)) = some (true, a)) : (openEnds treeTable p w N).map f = some a := by
  unfold X.RT at h1
  unfold openEnds
  cases e : fencedOpening treeTable p w N with
  | none => rw [e] at h1; cases h1
  | some s0 =>
    rw [e] at h0 h1
    have hl : (X.toT s0).tree.list s0.heap.objs.size = s0.heap.objs.toList := Option.some.inj h0
    have ha : (X.toT s0).abs = s0 := by
      obtain ⟨⟨objs, life⟩, gens, drawn, toks, os⟩ := s0
      show (⟨⟨((X.toT ⟨⟨objs, life⟩, gens, drawn, toks, os⟩).tree.list objs.size).toArray, life⟩, gens, drawn, toks, os⟩ : Shared) = _
      rw [hl]
    have h1 : ((X.trT treeTable p w s0.heap.objs.size (s0.heap.nsMap mainGlobals "__annotations__") N (X.toT s0) (topStub p)).map fun s1 => (s0, s1)).map (fun x => (X.chk p x.1 x.2.abs, f x.2.abs)) = some (true, a) := h1
    cases e1 : X.trT treeTable p w s0.heap.objs.size (s0.heap.nsMap mainGlobals "__annotations__") N (X.toT s0) (topStub p) with
    | none => rw [e1] at h1; cases h1
    | some s1 =>
      rw [e1] at h1
      have h1 := Option.some.inj h1
      have c := congrArg Prod.fst h1
      have d := congrArg Prod.snd h1
      have c : X.chk p s0 s1.abs = true := c
      have d : f s1.abs = a := d
      have r := X.trT_of e1
      rw [ha] at r
      obtain ⟨c1, c2⟩ := Bool.and_eq_true_iff.mp c
      show (topFrom treeTable p w N s0).map f = some a
      unfold topFrom
      rw [c1, r]
      show (match staticsOk (importedModules p.main.body) s0.heap s1.abs.heap && namesBound p s1.abs.heap && gensDone s1.abs && laidKept s0.heap s1.abs.heap with | true => some s1.abs | false => none).map f = some a
      rw [c2]
      exact congrArg some d
theorem X.both {S A B : Type} {o : Option S} {c : S -> Bool} {f : S -> A} {y : S -> B} {g : A} {a : B} (h1 : o.map (fun x => (c x, f x)) = some (true, g)) (h2 : o.map y = some a) : o.map (fun x => (c x, (f x, y x))) = some (true, (g, a)) := by
  cases o with
  | none => cases h2
  | some s =>
    have e1 := Option.some.inj h1
    have e2 := Option.some.inj h2
    have e3 : c s = true := congrArg Prod.fst e1
    have e4 : f s = g := congrArg Prod.snd e1
    show some (c s, (f s, y s)) = _
    rw [e3, e4, e2]
abbrev K62.seenT (s : Shared) := openSeen K62.view [] (importedModules PySem.Challenge.rw_factorforge_k62_whole_common.row.toRowW.prog.main.body) (fun s => xlAt K62.view [] s && recOk (RowW.records PySem.Challenge.rw_factorforge_k62_whole_common.row.toRowW) s) true s
theorem K62.h0 : ∀ w, (fencedOpening treeTable PySem.Challenge.rw_factorforge_k62_whole_common.row.toRowW.prog w 20000).map (fun s => (X.toT s).tree.list s.heap.objs.size) = (fencedOpening treeTable PySem.Challenge.rw_factorforge_k62_whole_common.row.toRowW.prog w 20000).map (fun s => s.heap.objs.toList) := by intro w; kernel_rfl
theorem K62.h1 : ∀ w, (X.RT treeTable PySem.Challenge.rw_factorforge_k62_whole_common.row.toRowW.prog w 20000).map (fun x => (X.chk PySem.Challenge.rw_factorforge_k62_whole_common.row.toRowW.prog x.1 x.2.abs, K62.seenT x.2.abs)) = some (true, openGood K62.view []) := by intro w; kernel_rfl
theorem K62.fin {A : Type} {y : Shared -> A} {a : A} (w : World) (h : (X.RT treeTable PySem.Challenge.rw_factorforge_k62_whole_common.row.toRowW.prog w 20000).map (fun x => y x.2.abs) = some a) : (openEnds treeTable PySem.Challenge.rw_factorforge_k62_whole_common.row.toRowW.prog w 20000).map (fun s => (K62.seenT s, y s)) = some (openGood K62.view [], a) :=
  X.ends_of_tree (f := fun s => (K62.seenT s, y s)) (K62.h0 w) (X.both (K62.h1 w) h)
end
namespace L2
open PySem PySem.Spec PyProof.Rows
abbrev Key := Sum Int Str
def keyIs : Key -> Value -> Bool
  | .inl k, v => Value.isInt k v
  | .inr x, v => Value.isStrOf x v
def keyH (w : World) : Key -> Int
  | .inl k => hashInt k
  | .inr x => hashStr w x
theorem keyIs_shape : ∀ {k : Key} {v : Value}, keyIs k v = true -> (∃ i t, k = Sum.inl i /\ v = Value.int i t) \/ (∃ x t, k = Sum.inr x /\ v = Value.str x t)
  | .inl i, v, h => by
    obtain ⟨t, e⟩ := Value.isInt_shape (k := i) (v := v) h
    exact .inl ⟨i, t, rfl, e⟩
  | .inr x, v, h => by
    obtain ⟨t, e⟩ := Value.isStrOf_shape (x := x) (v := v) h
    exact .inr ⟨x, t, rfl, e⟩
theorem key_ll (a b : Int) : decide ((Sum.inl a : Key) = Sum.inl b) = (a == b) := by
  by_cases e : a = b
  . subst e; simp
  . have h : ¬ (Sum.inl a : Key) = Sum.inl b := fun q => e (Sum.inl.inj q)
    rw [decide_eq_false h]
    exact (beq_eq_false_iff_ne.mpr e).symm
theorem key_rr (a b : Str) : decide ((Sum.inr a : Key) = Sum.inr b) = decide (a = b) := by
  by_cases e : a = b
  . subst e; simp
  . have h : ¬ (Sum.inr a : Key) = Sum.inr b := fun q => e (Sum.inr.inj q)
    rw [decide_eq_false h, decide_eq_false e]
theorem key_lr (a : Int) (b : Str) : decide ((Sum.inl a : Key) = Sum.inr b) = false := decide_eq_false (fun q => nomatch q)
theorem key_rl (a : Str) (b : Int) : decide ((Sum.inr a : Key) = Sum.inl b) = false := decide_eq_false (fun q => nomatch q)
def mixKind (prog : Program) (w : World) : PySem.KeyKind prog w Key where
  is := keyIs
  hash := keyH w
  inj := fun v a b ha hb => by
    rcases keyIs_shape ha with ⟨i, t, rfl, rfl⟩ | ⟨x, t, rfl, rfl⟩
    . rcases keyIs_shape hb with ⟨j, u, rfl, e⟩ | ⟨y, u, rfl, e⟩
      . injection e with e1 _; rw [e1]
      . exact nomatch e
    . rcases keyIs_shape hb with ⟨j, u, rfl, e⟩ | ⟨y, u, rfl, e⟩
      . exact nomatch e
      . injection e with e1 _; rw [e1]
  byValue := fun k v h => by
    rcases keyIs_shape h with ⟨i, t, rfl, rfl⟩ | ⟨x, t, rfl, rfl⟩ <;> rfl
  pyHash := fun hv h => by
    rcases keyIs_shape hv with ⟨i, t, rfl, rfl⟩ | ⟨x, t, rfl, rfl⟩
    . exact wpAny_pyHash_int h
    . exact wpAny_pyHash_str h
  eqBool := fun hu hv h => by
    rcases keyIs_shape hu with ⟨i, t, rfl, rfl⟩ | ⟨x, t, rfl, rfl⟩
    . rcases keyIs_shape hv with ⟨j, u, rfl, rfl⟩ | ⟨y, u, rfl, rfl⟩
      . rw [key_ll] at h; exact wpAny_eqBool_int h
      . rw [key_lr] at h; exact SeqAt.EqAt.int_str i t y u _ _ _ _ h
    . rcases keyIs_shape hv with ⟨j, u, rfl, rfl⟩ | ⟨y, u, rfl, rfl⟩
      . rw [key_rl] at h; exact SeqAt.EqAt.str_int x t j u _ _ _ _ h
      . rw [key_rr] at h; exact wpAny_eqBool_str h
  «strs» := fun k x t v h => by
    rcases keyIs_shape h with ⟨i, u, rfl, e⟩ | ⟨y, u, rfl, e⟩
    . exact nomatch e
    . injection e with e1 _
      subst e1
      cases v <;> rfl
inductive V where
  | non | bl (b : Bool) | int (i : Int) | str (x : Str) | byt (b : Array UInt8) | flt (b : UInt64) | ref (a : Addr) | ty (n : String)
  deriving DecidableEq
def RelV : V -> Value -> Prop
  | .non, u => u = Value.none
  | .bl b, u => u = Value.bool b
  | .int i, u => ∃ t, u = Value.int i t
  | .str x, u => ∃ t, u = Value.str x t
  | .byt b, u => ∃ t, u = Value.bytes b t
  | .flt b, u => ∃ t, u = Value.float b t
  | .ref a, u => u = Value.ref a
  | .ty n, u => u = Value.type n
abbrev Vals : List V -> List Value -> Prop := Paired RelV
theorem Vals.length {xs : List V} {us : List Value} (r : Vals xs us) : xs.length = us.length := Paired.length r
theorem Vals.get : ∀ {xs : List V} {us : List Value} {i : Nat} {x : V}, Vals xs us -> xs[i]? = some x -> ∃ u, us[i]? = some u /\ RelV x u
  | _, _, _, _, .nil, e => by simp at e
  | _, _, 0, _, .cons r _, e => by simp at e; subst e; exact ⟨_, rfl, r⟩
  | _, _, i + 1, x, .cons _ t, e => by
    obtain ⟨u, h1, h2⟩ := Vals.get (i := i) (x := x) t (by simpa using e)
    exact ⟨u, by simpa using h1, h2⟩
theorem Vals.set {x : V} {u : Value} (r : RelV x u) : ∀ {xs : List V} {us : List Value} (i : Nat), Vals xs us -> Vals (xs.set i x) (us.set i u)
  | _, _, _, .nil => .nil
  | _, _, 0, .cons _ t => .cons r t
  | _, _, i + 1, .cons q t => .cons q (Vals.set r i t)
theorem Vals.append : ∀ {xs ys : List V} {us ws : List Value}, Vals xs us -> Vals ys ws -> Vals (xs ++ ys) (us ++ ws)
  | _, _, _, _, .nil, s => s
  | _, _, _, _, .cons r t, s => .cons r (Vals.append t s)
theorem Vals.take : ∀ {xs : List V} {us : List Value} (n : Nat), Vals xs us -> Vals (xs.take n) (us.take n)
  | _, _, 0, _ => .nil
  | _, _, _ + 1, .nil => .nil
  | _, _, n + 1, .cons r t => .cons r (Vals.take n t)
theorem Vals.drop : ∀ {xs : List V} {us : List Value} (n : Nat), Vals xs us -> Vals (xs.drop n) (us.drop n)
  | _, _, 0, r => r
  | _, _, _ + 1, .nil => .nil
  | _, _, n + 1, .cons _ t => Vals.drop n t
def RelO : Option V -> Option Value -> Prop
  | some v, some u => RelV v u
  | none, none => True
  | _, _ => False
def KV {κ : Type} : List (κ × V) -> List (κ × Value) -> Prop := Paired fun (p : κ × V) (q : κ × Value) => p.1 = q.1 /\ RelV p.2 q.2
def kV : Key -> V
  | .inl i => .int i
  | .inr x => .str x
inductive HO where
  | lst (xs : List V)
  | tup (xs : List V)
  | dK (kvs : List (Key × V)) | dT (kvs : List (List Key × V))
  | set (S : Int -> Bool) (n : Nat)
  | ins (C dx : Addr) (fs : List (Str × V))
  | own (x : Addr)
  | xd (fs : List (Str × V))
  | met (f x : Addr)
  | rng (lo hi : Int)
  | frz (o : Obj) (u : HO)
  | tbl (ps : Array Value)
  | ext (φ : Heap -> Prop)
abbrev Hp := Addr -> Option HO
def upd (H : Hp) (a : Addr) (o : HO) : Hp := fun b => if b = a then some o else H b
theorem upd_same {H : Hp} {a : Addr} {o : HO} : upd H a o a = some o := by unfold upd; rw [if_pos rfl]
theorem upd_ne {H : Hp} {a b : Addr} {o : HO} (h : b ≠ a) : upd H a o b = H b := by unfold upd; rw [if_neg h]
theorem upd_upd {H : Hp} {a : Addr} {o u : HO} : upd (upd H a o) a u = upd H a u := by
  funext b; unfold upd; split <;> rfl
theorem ne_of_none {H : Hp} {a b : Addr} {o : HO} (h : H a = some o) (h' : H b = none) : a ≠ b := by
  intro e; subst e; rw [h] at h'; cases h'
section
variable (P : Program) (w : World)
def ObjOk (H : Hp) (h : Heap) (a : Addr) : HO -> Prop
  | .lst xs => xs.length <= sizeLine /\ ∃ (its : List Value) (n : Nat), Vals xs its /\ h.get? a = some { cls := .type "list", data := .seq its.toArray n }
  | .tup xs => xs.length <= sizeLine /\ ∃ its : List Value, Vals xs its /\ IsTup h a its.toArray
  | .dK kvs => kvs.length <= sizeLine /\ (a == sysModules) = false /\ ∃ vs, KV kvs vs /\ h.DictOf (mixKind P w) a vs
  | .dT kvs => kvs.length <= sizeLine /\ (a == sysModules) = false /\ ∃ xs : List (List Key × Addr × Value),
      Paired (fun (p : List Key × V) (q : List Key × Addr × Value) => p.1 = q.1 /\ H q.2.1 = some (.tup (p.1.map kV)) /\ RelV p.2 q.2.2) kvs xs /\
      ∃ o es ep, h.get? a = some o /\ o.ExactDict /\ o.data = .dict es ep /\ es.toList = xs.map (entryOfKey (tupleKind (mixKind P w))) /\ (xs.map (·.1)).Nodup
  | .set S n => h.SetOf (intKind P w) a S n
  | .ins C dx fs => H dx = some (.own a) /\ fs.length <= 1000 /\ dx ≠ a /\ h.get? a = some (PySem.W.instObj C dx) /\
      ∃ mA, h.Ns1 dx mA /\ (∀ f, RelO (fs.lookup f) (mA f)) /\ PySem.Within mA (fs.map (·.1))
  | .own _ => ∃ o, h.get? a = some o
  | .xd fs => ∃ mA, h.Ns1 a mA /\ ∀ f, RelO (fs.lookup f) (mA f)
  | .rng lo hi => ∃ t u v, h.get? a = some { cls := .type "range", data := .fields #[.int lo t, .int hi u, .int 1 v] }
  | .frz o u => h.get? a = some o /\ ObjOk H h a u
  | .tbl ps => h.get? a = some { cls := .none, data := .fields ps }
  | .met f x => h.get? a = some (PySem.W.methodObj (.ref f) (.ref x))
  | .ext φ => φ h /\ (∃ o, h.get? a = some o) /\ ∀ h1 h2 : Heap, φ h1 -> (∀ o, h1.get? a = some o -> h2.get? a = some o) -> φ h2
def HOk (H : Hp) (h : Heap) : Prop := ∀ a o, H a = some o -> ObjOk P w H h a o
end
section
variable {P : Program} {w : World} {H H' : Hp} {h h' : Heap} {a : Addr} {o : HO}
theorem ObjOk.lt (x : ObjOk P w H h a o) : a < h.objs.size := by
  cases o with
  | lst xs => obtain ⟨_, _, _, _, e⟩ := x; exact Heap.lt_size e
  | tup xs => obtain ⟨_, _, _, p⟩ := x; exact p.lt
  | dK kvs => obtain ⟨_, _, _, _, o, _, _, e, _⟩ := x; exact Heap.lt_size e
  | dT kvs => obtain ⟨_, _, _, _, o, _, _, e, _⟩ := x; exact Heap.lt_size e
  | set S n => obtain ⟨o, _, _, _, e, _⟩ := x; exact Heap.lt_size e
  | ins C dx fs => obtain ⟨_, _, _, e, _⟩ := x; exact Heap.lt_size e
  | own y => obtain ⟨_, e⟩ := x; exact Heap.lt_size e
  | xd fs => obtain ⟨_, ⟨_, _, _, e, _⟩, _⟩ := x; exact Heap.lt_size e
  | rng lo hi => obtain ⟨_, _, _, e⟩ := x; exact Heap.lt_size e
  | frz ob u => obtain ⟨e, _⟩ := x; exact Heap.lt_size e
  | tbl ps => exact Heap.lt_size (show h.get? a = some _ from x)
  | met f y => exact Heap.lt_size (show h.get? a = some _ from x)
  | ext φ => obtain ⟨_, ⟨_, e⟩, _⟩ := x; exact Heap.lt_size e
theorem Paired.mapP {α β : Type} {F G : α -> β -> Prop} : ∀ {l₁ : List α} {l₂ : List β}, Paired F l₁ l₂ -> (∀ a b, F a b -> G a b) -> Paired G l₁ l₂
  | _, _, .nil, _ => .nil
  | _, _, .cons r t, f => .cons (f _ _ r) (Paired.mapP t f)
theorem ObjOk.stay (x : ObjOk P w H h a o) (k : ∀ b u, (b = a \/ H b = some (.own a)) -> h.get? b = some u -> h'.get? b = some u)
    (ho : ∀ b, H b = some (.own a) -> H' b = some (.own a)) (ht : ∀ b xs, H b = some (.tup xs) -> H' b = some (.tup xs)) : ObjOk P w H' h' a o := by
  induction o with
  | lst xs => obtain ⟨z, its, n, r, e⟩ := x; exact ⟨z, its, n, r, k _ _ (.inl rfl) e⟩
  | tup xs => obtain ⟨z, its, r, ob, e, c⟩ := x; exact ⟨z, its, r, ob, k _ _ (.inl rfl) e, c⟩
  | dK kvs => obtain ⟨z, y, vs, r, ob, es, ep, e, c⟩ := x; exact ⟨z, y, vs, r, ob, es, ep, k _ _ (.inl rfl) e, c⟩
  | dT kvs =>
    obtain ⟨z, y, xs, r, ob, es, ep, e, c⟩ := x
    exact ⟨z, y, xs, Paired.mapP r fun p q z => ⟨z.1, ht _ _ z.2.1, z.2.2⟩, ob, es, ep, k _ _ (.inl rfl) e, c⟩
  | set S n => obtain ⟨ob, es, ep, t, e, c⟩ := x; exact ⟨ob, es, ep, t, k _ _ (.inl rfl) e, c⟩
  | ins C dx fs =>
    obtain ⟨d, z, ne, e, mA, ⟨od, es, ep, e2, c⟩, r⟩ := x
    exact ⟨ho _ d, z, ne, k _ _ (.inl rfl) e, mA, ⟨od, es, ep, k _ _ (.inr d) e2, c⟩, r⟩
  | own y => obtain ⟨ob, e⟩ := x; exact ⟨ob, k _ _ (.inl rfl) e⟩
  | xd fs => obtain ⟨mA, ⟨od, es, ep, e, c⟩, r⟩ := x; exact ⟨mA, ⟨od, es, ep, k _ _ (.inl rfl) e, c⟩, r⟩
  | rng lo hi => obtain ⟨t, u, v, e⟩ := x; exact ⟨t, u, v, k _ _ (.inl rfl) e⟩
  | frz ob u ih => obtain ⟨e, q⟩ := x; exact ⟨k _ _ (.inl rfl) e, ih q⟩
  | tbl ps =>
    have e : h.get? a = some { cls := .none, data := .fields ps } := x
    show h'.get? a = some { cls := .none, data := .fields ps }
    exact k a _ (.inl rfl) e
  | met f y =>
    have e : h.get? a = some (PySem.W.methodObj (.ref f) (.ref y)) := x
    show h'.get? a = some (PySem.W.methodObj (.ref f) (.ref y))
    exact k a _ (.inl rfl) e
  | ext φ => obtain ⟨p, ⟨o, e⟩, st⟩ := x; exact ⟨st _ _ p fun o q => k _ _ (.inl rfl) q, ⟨o, k _ _ (.inl rfl) e⟩, st⟩
theorem HOk.lt (x : HOk P w H h) (e : H a = some o) : a < h.objs.size := (x a o e).lt
theorem HOk.fresh (x : HOk P w H h) (e : h.objs.size <= a) : H a = none := by
  cases q : H a with
  | none => rfl
  | some u => exact absurd (Nat.lt_of_lt_of_le (x.lt q) e) (Nat.lt_irrefl _)
theorem HOk.kept (x : HOk P w H h) (k : ∀ b u, h.get? b = some u -> h'.get? b = some u) : HOk P w H h' := fun a o e =>
  (x a o e).stay (fun b u _ q => k b u q) (fun _ q => q) fun _ _ q => q
theorem HOk.laid (x : HOk P w H h) (k : ∀ b u, h.get? b = some u -> h'.get? b = some u) (hp : h.objs.size <= a) (new : ObjOk P w (upd H a o) h' a o) : HOk P w (upd H a o) h' := fun b u e => by
  have hn := x.fresh hp
  by_cases hb : b = a
  . subst hb; rw [upd_same] at e; cases e; exact new
  . rw [upd_ne hb] at e
    exact (x b u e).stay (fun c v _ q => k c v q) (fun c q => by rw [upd_ne (ne_of_none q hn)]; exact q) fun c xs q => by rw [upd_ne (ne_of_none q hn)]; exact q
end
def Rd (H : Hp) (a : Addr) (u : HO) : Prop := H a = some u \/ ∃ o, H a = some (.frz o u)
theorem Rd.ok {P : Program} {w : World} {H : Hp} {h : Heap} {a : Addr} {u : HO} (r : Rd H a u) (x : HOk P w H h) : ObjOk P w H h a u := by
  rcases r with r | ⟨o, r⟩
  . exact x a u r
  . obtain ⟨_, q⟩ := x a _ r
    exact q
def Mut : Option HO -> Prop
  | some (.lst _) => True
  | some (.dK _) => True
  | some (.dT _) => True
  | some (.set _ _) => True
  | some (.ins _ _ _) => True
  | some (.ext _) => True
  | _ => False
section
variable {P : Program} {w : World} {H : Hp} {h h' : Heap} {x e : Addr} {o' : HO}
theorem HOk.write (ok : HOk P w H h) (mu : Mut (H x)) (he : e = x \/ H e = some (.own x)) (k : ∀ b u, b ≠ e -> h.get? b = some u -> h'.get? b = some u) (heo : ∃ u, h'.get? e = some u)
    (new : ObjOk P w (upd H x o') h' x o') : HOk P w (upd H x o') h' := fun b u q => by
  have nown : ∀ c y, H c = some (.own y) -> c ≠ x := fun c y r z => by subst z; rw [r] at mu; exact mu
  have ntup : ∀ c xs, H c = some (.tup xs) -> c ≠ x := fun c xs r z => by subst z; rw [r] at mu; exact mu
  by_cases hb : b = x
  . subst hb; rw [upd_same] at q; cases q; exact new
  . rw [upd_ne hb] at q
    by_cases hbe : b = e
    . have q' : H b = some (.own x) := by
        rcases he with z | z
        . exact absurd (hbe.trans z) hb
        . rw [hbe]; exact z
      rw [q] at q'; cases q'
      obtain ⟨v, hv⟩ := heo
      exact ⟨v, by rw [hbe]; exact hv⟩
    . refine (ok b u q).stay (fun c v hc r => k c v ?_ r) (fun c r => by rw [upd_ne (nown c b r)]; exact r) fun c xs r => by rw [upd_ne (ntup c xs r)]; exact r
      rcases hc with rfl | hc
      . exact hbe
      . rintro rfl
        rcases he with z | z
        . exact nown c b hc z
        . rw [hc] at z; cases z; exact hb rfl
end
structure Un (fs ex : List Addr) (H H' : Hp) (h h' : Heap) : Prop where
  keep : ∀ b o, h.get? b = some o -> H b = none -> b ∉ fs -> b ∉ ex -> h'.get? b = some o
  slot : ∀ b o, h.get? b = some o -> H b = none -> b ∈ fs -> b ∉ ex -> ∃ sl, h'.get? b = some { o with slots := sl }
  free : ∀ b o, h.get? b = some o -> H b = none -> b ∉ ex -> H' b = none
  there : ∀ b o, h.get? b = some o -> b ∉ ex -> ∃ o', h'.get? b = some o'
  tups : ∀ b xs, H b = some (.tup xs) -> H' b = some (.tup xs)
  frzs : ∀ b o u, H b = some (.frz o u) -> H' b = some (.frz o u)
  tbls : ∀ b ps, H b = some (.tbl ps) -> ∃ more, H' b = some (.tbl (ps ++ more))
section
variable {fs fs' ex ex' : List Addr} {H H1 H2 : Hp} {h h1 h2 h' : Heap} {a x e : Addr} {o : HO}
theorem Un.any (u : Un fs ex H H1 h h1) {b : Addr} {ob : Obj} (q : h.get? b = some ob) (n : H b = none) (hx : b ∉ ex) : ∃ sl, h1.get? b = some { ob with slots := sl } := by
  by_cases hb : b ∈ fs
  . exact u.slot b ob q n hb hx
  . exact ⟨ob.slots, u.keep b ob q n hb hx⟩
theorem Un.kept (k : ∀ b u, h.get? b = some u -> h'.get? b = some u) : Un fs ex H H h h' :=
  ⟨fun b ob q _ _ _ => k b ob q, fun b ob q _ _ _ => ⟨ob.slots, k b ob q⟩, fun _ _ _ n _ => n, fun b ob q _ => ⟨ob, k b ob q⟩, fun _ _ q => q, fun _ _ _ q => q, fun _ ps q => ⟨#[], by rw [q]; simp⟩⟩
theorem Un.refl : Un fs ex H H h h := Un.kept fun _ _ q => q
theorem Un.laid (k : ∀ b u, h.get? b = some u -> h'.get? b = some u) (hp : h.objs.size <= a) (hn : H a = none) : Un fs ex H (upd H a o) h h' where
  keep := fun b u q _ _ _ => k b u q
  slot := fun b u q _ _ _ => ⟨u.slots, k b u q⟩
  free := fun b u q n _ => by rw [upd_ne (Nat.ne_of_lt (Nat.lt_of_lt_of_le (Heap.lt_size q) hp))]; exact n
  there := fun b u q _ => ⟨u, k b u q⟩
  tups := fun b xs q => by rw [upd_ne (ne_of_none q hn)]; exact q
  frzs := fun b u xs q => by rw [upd_ne (ne_of_none q hn)]; exact q
  tbls := fun b ps q => ⟨#[], by rw [upd_ne (ne_of_none q hn), q]; simp⟩
theorem Un.write (mu : Mut (H x)) (he : e = x \/ H e = some (.own x)) (k : ∀ b u, b ≠ e -> h.get? b = some u -> h'.get? b = some u) (heo : ∃ u, h'.get? e = some u) : Un fs ex H (upd H x o) h h' := by
  have hx : ∀ b, H b = none -> b ≠ x := fun b n z => by subst z; rw [n] at mu; exact mu
  have hb : ∀ b, H b = none -> b ≠ e := fun b n z => by
    subst z
    rcases he with r | r
    . exact hx b n r
    . rw [n] at r; cases r
  have hm : ∀ b u, H b = some u -> ¬ Mut (some u) -> b ≠ x := fun b u q nm z => by subst z; rw [q] at mu; exact nm mu
  refine ⟨fun b u q n _ _ => k b u (hb b n) q, fun b u q n _ _ => ⟨u.slots, k b u (hb b n) q⟩, fun b u q n _ => by rw [upd_ne (hx b n)]; exact n, fun b u q _ => ?_,
    fun b xs q => by rw [upd_ne (hm b _ q fun z => z)]; exact q, fun b u xs q => by rw [upd_ne (hm b _ q fun z => z)]; exact q, fun b ps q => ⟨#[], by rw [upd_ne (hm b _ q fun z => z), q]; simp⟩⟩
  by_cases hbe : b = e
  . subst hbe; exact heo
  . exact ⟨u, k b u hbe q⟩
end
def trk (h : Heap) (H : Hp) : List Addr := (List.range h.objs.size).filter fun a => (H a).isSome
def hidT (h : Heap) (H : Hp) : Heap := PySem.W.hideAll h (trk h H)
theorem hidT_size (h : Heap) (H : Hp) : (hidT h H).objs.size = h.objs.size := PySem.W.hideAll_size _ _
theorem hidT_get {h : Heap} {H : Hp} {b : Addr} {o : Obj} (e : h.get? b = some o) (n : H b = none) : (hidT h H).get? b = some o :=
  PySem.W.hideAll_get _ e fun hm => by
    have q : (H b).isSome = true := (List.mem_filter.mp hm).2
    rw [n] at q; simp at q
theorem of_hidT {h : Heap} {H : Hp} {b : Addr} {o : Obj} (e : (hidT h H).get? b = some o) : h.get? b = some o /\ H b = none := by
  have e' : h.get? b = some o := PySem.W.of_hideAll (trk h H) e
  refine ⟨e', ?_⟩
  cases q : H b with
  | none => rfl
  | some x =>
    have hm : b ∈ trk h H := List.mem_filter.mpr ⟨List.mem_range.mpr (Heap.lt_size e'), by simp [q]⟩
    have z : (hidT h H).get? b = none := PySem.W.hideAll_none (trk h H) hm
    rw [z] at e; cases e
def allNews (g h : Heap) (L : Addr) : List (Addr × Obj) := (List.range h.objs.size).filterMap fun a => if a = L \/ (g.get? a).isSome = true then none else (h.get? a).map fun o => (a, o)
def rest (g h : Heap) (L d : Addr) : List (Addr × Obj) := (allNews g h L).filter fun p => decide (p.1 ≠ d)
structure Mod (K : PySem.W.Frag) (mg : Str -> Option Value) (base : Heap) : Prop where
  kin : K.In base
  glob : base.Ns mainGlobals mg
  blt : ∃ mb, base.Ns builtinsNs mb /\ ∀ x : Str, x ≠ "__name__" -> mb x = bootBuiltins x
  nolimit : base.NoLimit
structure Cx where
  prog : Program
  w : World
  K : PySem.W.Frag
  mg : Str -> Option Value
  base : Heap
  A : Around
  N : List Str
  s₀ : Shared
  H₀ : Hp
  env : Env
  outer : List Env
  stack : List Env
  ex : List Addr
  fn : Str -> Bool
  calm : Bool
  pn : List (Addr × Obj)
  xe : Value -> Shared -> Prop
def frs (l : List Env) : List Addr := l.filterMap (·.frame)
abbrev Cx.fs (X : Cx) : List Addr := frs X.outer
def Vis (sc : Scope) (x : Str) : Prop := sc.names.lookup x = some .local \/ sc.names.lookup x = some .cell \/ sc.names.lookup x = some .free
def Loc (sc : Scope) (x : Str) : Prop := sc.names.lookup x = some .local \/ sc.names.lookup x = some .cell
def Look (env : Env) (h : Heap) (m : Str -> Option Value) (x : Str) (u : Value) : Prop :=
  (env.kindOf x = some .local /\ m x = some u) \/ ((env.kindOf x = some .cell \/ env.kindOf x = some .free) /\ ∃ c, env.cells.lookup x = some c /\ h.IsCell c (some u))
structure Cx.Ok (X : Cx) : Prop where
  mod : Mod X.K X.mg X.base
  kind : X.env.scope.kind = .function
  glob : X.env.globals = mainGlobals
  blt : X.env.builtins = builtinsNs
  above : X.s₀.heap.objs.size <= X.env.locals
  inj : ∀ x y c, X.env.cells.lookup x = some c -> X.env.cells.lookup y = some c -> x = y
  has : ∀ x, (X.env.kindOf x = some .cell \/ X.env.kindOf x = some .free) -> ∃ c, X.env.cells.lookup x = some c
  cab : ∀ x c, X.fn x = true -> X.env.cells.lookup x = some c -> X.s₀.heap.objs.size <= c
  hd : X.calm = true -> X.A.handled = none
  frames : X.A.frames = some X.stack
  stk : X.stack = X.outer \/ (X.stack = X.env :: X.outer /\ X.env.frame = some X.env.locals)
  exf : ∀ b ∈ X.ex, b ≠ X.env.locals /\ ∀ x c, X.env.cells.lookup x = some c -> c ≠ b
  bs : ∀ b o, X.base.get? b = some o -> X.s₀.heap.get? b = some o /\ X.H₀ b = none
  bsz : X.base.objs.size <= X.s₀.heap.objs.size
  noex : ∀ b o, X.base.get? b = some o -> b ∉ X.ex
  exfs : ∀ b ∈ X.ex, b ∉ X.fs
  funs : X.s₀.heap.FunFrames X.base X.outer
  frf : ∀ b ∈ X.fs, X.H₀ b = none
structure Inv (X : Cx) (pins : List (Addr × Obj)) (σ : List (Option V)) (H : Hp) (s : Shared) : Prop where
  ok : X.Ok
  os : s.os = X.s₀.os
  bare : AllBare s.gens
  base : Un X.fs X.ex X.H₀ H X.s₀.heap s.heap
  loc : ∃ m, s.heap.Ns X.env.locals m /\ ∀ (i : Nat) (x : Str) (v : V), X.N[i]? = some x -> σ[i]? = some (some v) -> Vis X.env.scope x -> ∃ u, RelV v u /\ Look X.env s.heap m x u
  cell : ∀ x c, X.env.cells.lookup x = some c -> ∃ v, s.heap.IsCell c v
  free : H X.env.locals = none
  freeC : ∀ x c, X.env.cells.lookup x = some c -> H c = none
  pin : ∀ p ∈ X.pn ++ pins, s.heap.get? p.1 = some p.2 /\ H p.1 = none /\ p.1 ≠ X.env.locals /\ p.1 ∉ X.fs /\ ∀ v, p.2.data ≠ .cell v
  hok : HOk X.prog X.w H s.heap
  len : σ.length = X.N.length
section
variable {X : Cx} {pins : List (Addr × Obj)} {σ : List (Option V)} {H H' : Hp} {s : Shared} {h' : Heap}
theorem Cx.Ok.nofr (ok : X.Ok) {b : Addr} {o : Obj} (e : X.base.get? b = some o) : b ∉ X.fs := fun hb => by
  have := (ok.funs.mem hb).1
  rw [e] at this; cases this
theorem Inv.bs (I : Inv X pins σ H s) : ∀ b o, X.base.get? b = some o -> s.heap.get? b = some o /\ H b = none := fun b o e =>
  ⟨I.base.keep b o (I.ok.bs b o e).1 (I.ok.bs b o e).2 (I.ok.nofr e) (I.ok.noex b o e), I.base.free b o (I.ok.bs b o e).1 (I.ok.bs b o e).2 (I.ok.noex b o e)⟩
theorem Inv.bk (I : Inv X pins σ H s) : ∀ b o, X.base.get? b = some o -> s.heap.get? b = some o := fun b o e => (I.bs b o e).1
theorem Inv.mod (I : Inv X pins σ H s) : Mod X.K X.mg X.base := I.ok.mod
theorem Inv.kIn (I : Inv X pins σ H s) : X.K.In s.heap := I.ok.mod.kin.keeps I.bk
theorem Inv.fr (I : Inv X pins σ H s) : ∃ m, Fr X.base X.env.locals s.heap m :=
  let ⟨m, hn, _⟩ := I.loc
  ⟨m, hn, I.bk, Nat.le_trans I.ok.bsz I.ok.above⟩
theorem Inv.lt (I : Inv X pins σ H s) : X.env.locals < s.heap.objs.size := let ⟨_, hn, _⟩ := I.loc; hn.lt
theorem Inv.sz (I : Inv X pins σ H s) : X.s₀.heap.objs.size <= s.heap.objs.size := Nat.le_trans I.ok.above (Nat.le_of_lt I.lt)
theorem Inv.nofs (I : Inv X pins σ H s) {a : Addr} (h : s.heap.objs.size <= a) : a ∉ X.fs := fun hb => by
  obtain ⟨_, o, ho, _⟩ := I.ok.funs.mem hb
  exact absurd (Nat.lt_of_lt_of_le (Heap.lt_size ho) (Nat.le_trans I.sz h)) (Nat.lt_irrefl _)
theorem Inv.cne (I : Inv X pins σ H s) : ∀ x c, X.env.cells.lookup x = some c -> c ≠ X.env.locals := fun x c e z => by
  obtain ⟨v, o, ho, hd⟩ := I.cell x c e
  obtain ⟨m, ⟨o', es, ep, ho', hd', _⟩, _⟩ := I.loc
  rw [z, ho'] at ho; cases ho; rw [hd'] at hd; cases hd
theorem Inv.funs (I : Inv X pins σ H s) : s.heap.FunFrames X.base X.outer := by
  have all : ∀ (l : List Env), (∀ b ∈ frs l, b ∈ X.fs) -> X.s₀.heap.FunFrames X.base l -> s.heap.FunFrames X.base l := by
    intro l
    induction l with
    | nil => intro _ _; trivial
    | cons env r ih =>
      intro hs hl
      obtain ⟨hk, ⟨L, o, hf, hn, ho, hd⟩, hr⟩ := hl
      have hL : L ∈ X.fs := hs L (by unfold frs; rw [List.filterMap_cons, hf]; exact List.mem_cons_self)
      obtain ⟨sl, e⟩ := I.base.slot L o ho (I.ok.frf L hL) hL fun z => I.ok.exfs L z hL
      exact ⟨hk, ⟨L, _, hf, hn, e, hd⟩, ih (fun b hb => hs b (by unfold frs; rw [List.filterMap_cons, hf]; exact List.mem_cons_of_mem _ hb)) hr⟩
  exact all X.outer (fun _ hb => hb) I.ok.funs
theorem Inv.stack (I : Inv X pins σ H s) : s.heap.FunFrames X.base X.stack := by
  rcases I.ok.stk with e | ⟨e, hf⟩
  . rw [e]; exact I.funs
  . rw [e]
    obtain ⟨m, hn, _⟩ := I.loc
    refine .cons (by rw [I.ok.kind]; decide) hf hn ?_ I.funs
    exact Heap.get?_none_of_le (Nat.le_trans I.ok.bsz I.ok.above)
theorem Inv.stkSub (I : Inv X pins σ H s) : ∀ b ∈ frs X.stack, b ∈ X.env.locals :: X.fs := fun b hb => by
  rcases I.ok.stk with e | ⟨e, hf⟩
  . rw [e] at hb; exact List.mem_cons_of_mem _ hb
  . rw [e] at hb
    unfold frs at hb
    rw [List.filterMap_cons, hf] at hb
    exact hb
theorem Inv.stkFree (I : Inv X pins σ H s) : ∀ b ∈ frs X.stack, H b = none := fun b hb => by
  rcases List.mem_cons.mp (I.stkSub b hb) with e | hb
  . rw [e]; exact I.free
  . obtain ⟨_, o, ho, _⟩ := I.ok.funs.mem hb
    exact I.base.free b o ho (I.ok.frf b hb) fun z => I.ok.exfs b z hb
theorem Inv.step {g' : Array GenState} {t' : Nat} {d' : Drawn} {ch : List Addr} (I : Inv X pins σ H s)
    (hch : ∀ b ∈ ch, (b ∈ X.ex \/ X.s₀.heap.objs.size <= b) /\ b ≠ X.env.locals /\ (∀ x c, X.env.cells.lookup x = some c -> c ≠ b) /\ ∀ p ∈ X.pn ++ pins, p.1 ≠ b)
    (keep : ∀ b o, b ≠ X.env.locals -> b ∉ X.fs -> b ∉ ch -> s.heap.get? b = some o -> H b = none -> h'.get? b = some o)
    (slot : ∀ b o, b ≠ X.env.locals -> b ∈ X.fs -> b ∉ ch -> s.heap.get? b = some o -> H b = none -> ∃ sl, h'.get? b = some { o with slots := sl }) (free : ∀ b o, b ∉ ch -> s.heap.get? b = some o -> H b = none -> H' b = none)
    (there : ∀ b o, b ∉ ch -> s.heap.get? b = some o -> ∃ o', h'.get? b = some o')
    (tups : ∀ b xs, H b = some (.tup xs) -> H' b = some (.tup xs)) (frzs : ∀ b o u, H b = some (.frz o u) -> H' b = some (.frz o u)) (tbls : ∀ b ps, H b = some (.tbl ps) -> ∃ more, H' b = some (.tbl (ps ++ more)))
    (ns : ∀ m, s.heap.Ns X.env.locals m -> h'.Ns X.env.locals m) (hok : HOk X.prog X.w H' h') (hg : AllBare g') :
    Inv X pins σ H' { s with heap := h', gens := g', drawn := d', toks := t' } := by
  have neL : ∀ b o, X.s₀.heap.get? b = some o -> b ≠ X.env.locals := fun b o e => Nat.ne_of_lt (Nat.lt_of_lt_of_le (Heap.lt_size e) I.ok.above)
  have neC : ∀ b o, X.s₀.heap.get? b = some o -> b ∉ X.ex -> b ∉ ch := fun b o e hx hb => by
    rcases (hch b hb).1 with z | z
    . exact hx z
    . exact absurd (Nat.lt_of_lt_of_le (Heap.lt_size e) z) (Nat.lt_irrefl _)
  have cellK : ∀ x c, X.env.cells.lookup x = some c -> ∀ v, s.heap.IsCell c v -> h'.IsCell c v := fun x c e v ⟨o, ho, hd⟩ => by
    have nch : c ∉ ch := fun z => (hch c z).2.2.1 x c e rfl
    by_cases hc : c ∈ X.fs
    . obtain ⟨sl, q⟩ := slot c o (I.cne x c e) hc nch ho (I.freeC x c e)
      exact ⟨_, q, hd⟩
    . exact ⟨o, keep c o (I.cne x c e) hc nch ho (I.freeC x c e), hd⟩
  refine ⟨I.ok, I.os, hg, ⟨fun b o e n hb hx => ?_, fun b o e n hb hx => ?_, fun b o e n hx => ?_, fun b o e hx => ?_, fun b xs e => tups b xs (I.base.tups b xs e), fun b o xs e => frzs b o xs (I.base.frzs b o xs e), fun b ps e => ?_⟩, ?_, fun x c e => ?_, ?_, fun x c e => ?_, fun p hp => ?_, hok, I.len⟩
  . exact keep b o (neL b o e) hb (neC b o e hx) (I.base.keep b o e n hb hx) (I.base.free b o e n hx)
  . obtain ⟨sl, e1⟩ := I.base.slot b o e n hb hx
    obtain ⟨sl', e2⟩ := slot b _ (neL b o e) hb (neC b o e hx) e1 (I.base.free b o e n hx)
    exact ⟨sl', e2⟩
  . obtain ⟨o', e1⟩ := I.base.there b o e hx
    exact free b o' (neC b o e hx) e1 (I.base.free b o e n hx)
  . obtain ⟨o', e1⟩ := I.base.there b o e hx
    exact there b o' (neC b o e hx) e1
  . obtain ⟨m1, e1⟩ := I.base.tbls b ps e
    obtain ⟨m2, e2⟩ := tbls b _ e1
    exact ⟨m1 ++ m2, by rw [e2, Array.append_assoc]⟩
  . obtain ⟨m, hn, hl⟩ := I.loc
    refine ⟨m, ns m hn, fun i x v e1 e2 e3 => ?_⟩
    obtain ⟨u, r, l⟩ := hl i x v e1 e2 e3
    refine ⟨u, r, ?_⟩
    rcases l with l | ⟨k, c, e, z⟩
    . exact .inl l
    . exact .inr ⟨k, c, e, cellK x c e _ z⟩
  . obtain ⟨v, z⟩ := I.cell x c e
    exact ⟨v, cellK x c e v z⟩
  . obtain ⟨m, ⟨o, _, _, ho, _⟩, _⟩ := I.loc
    exact free _ o (fun z => (hch _ z).2.1 rfl) ho I.free
  . obtain ⟨v, o, ho, hd⟩ := I.cell x c e
    exact free c o (fun z => (hch c z).2.2.1 x c e rfl) ho (I.freeC x c e)
  . obtain ⟨e, n, ne, nf, d⟩ := I.pin p hp
    have nch : p.1 ∉ ch := fun z => (hch p.1 z).2.2.2 p hp rfl
    exact ⟨keep p.1 p.2 ne nf nch e n, free p.1 p.2 nch e n, ne, nf, d⟩
theorem Inv.un {t' : Nat} (I : Inv X pins σ H s) (u : Un X.fs [] H H' s.heap h') (hok : HOk X.prog X.w H' h') : Inv X pins σ H' { s with heap := h', toks := t' } := by
  obtain ⟨m, ⟨o, es, ep, ho, r⟩, _⟩ := id I.loc
  obtain ⟨sl, hL⟩ := u.any ho I.free (by simp)
  exact I.step (g' := s.gens) (d' := s.drawn) (ch := []) (fun _ z => nomatch z) (fun b o _ hb _ e n => u.keep b o e n hb (by simp)) (fun b o _ hb _ e n => u.slot b o e n hb (by simp)) (fun b o _ e n => u.free b o e n (by simp)) (fun b o _ e => u.there b o e (by simp)) u.tups u.frzs u.tbls (fun m' hm => by
    obtain ⟨o', es', ep', ho', r'⟩ := hm
    rw [ho] at ho'; cases ho'
    exact ⟨_, es', ep', hL, r'⟩) hok I.bare
theorem Inv.call {g' : Array GenState} {t' : Nat} {d' : Drawn} {ch : List Addr} (I : Inv X pins σ H s) (u : Un (frs X.stack) ch H H' s.heap h') (hok : HOk X.prog X.w H' h') (hg : AllBare g')
    (hch : ∀ b ∈ ch, (b ∈ X.ex \/ X.s₀.heap.objs.size <= b) /\ b ≠ X.env.locals /\ (∀ x c, X.env.cells.lookup x = some c -> c ≠ b) /\ ∀ p ∈ X.pn ++ pins, p.1 ≠ b) :
    Inv X pins σ H' { s with heap := h', gens := g', drawn := d', toks := t' } := by
  obtain ⟨m, ⟨o, es, ep, ho, r⟩, _⟩ := id I.loc
  obtain ⟨sl, hL⟩ := u.any ho I.free fun z => (hch _ z).2.1 rfl
  exact I.step (ch := ch) hch (fun b o hL hb hc e n => u.keep b o e n (fun z => (List.mem_cons.mp (I.stkSub b z)).elim hL hb) hc) (fun b o _ _ hc e n => u.any e n hc) (fun b o hc e n => u.free b o e n hc) (fun b o hc e => u.there b o e hc) u.tups u.frzs u.tbls (fun m' hm => by
    obtain ⟨o', es', ep', ho', r'⟩ := hm
    rw [ho] at ho'; cases ho'
    exact ⟨_, es', ep', hL, r'⟩) hok hg
theorem Inv.turned {t' : Nat} {it : Addr} (I : Inv X pins σ H s) (k : ∀ b o, b ≠ it -> s.heap.get? b = some o -> h'.get? b = some o) (hn : H it = none) (hL : it ≠ X.env.locals)
    (h1 : it ∈ X.ex \/ X.s₀.heap.objs.size <= it) (h2 : ∀ x c, X.env.cells.lookup x = some c -> c ≠ it) (h3 : ∀ p ∈ X.pn ++ pins, p.1 ≠ it) : Inv X pins σ H { s with heap := h', toks := t' } := by
  have nit : ∀ b u, H b = some u -> b ≠ it := fun b u e z => by rw [z, hn] at e; cases e
  refine I.step (g' := s.gens) (d' := s.drawn) (ch := [it]) (fun b hb => ?_) (fun b o _ _ hc e _ => k b o (fun z => hc (by simp [z])) e) (fun b o _ _ hc e _ => ⟨o.slots, k b o (fun z => hc (by simp [z])) e⟩) (fun _ _ _ _ n => n)
    (fun b o hc e => ⟨o, k b o (fun z => hc (by simp [z])) e⟩) (fun _ _ e => e) (fun _ _ _ e => e) (fun b ps e => ⟨#[], by rw [e]; simp⟩) (fun m hm => ?_) (fun b u e => ?_) I.bare
  . have e : b = it := by simpa using hb
    subst e
    exact ⟨h1, hL, h2, h3⟩
  . obtain ⟨o, es, ep, ho, r⟩ := hm
    exact ⟨o, es, ep, k _ o (Ne.symm hL) ho, r⟩
  . refine (I.hok b u e).stay (fun c v hc q => k c v ?_ q) (fun _ q => q) fun _ _ q => q
    rcases hc with z | z
    . rw [z]; exact nit b u e
    . exact nit c _ z
theorem Inv.tok (I : Inv X pins σ H s) (t : Nat) : Inv X pins σ H { s with toks := t } := I.un (h' := s.heap) (t' := t) Un.refl I.hok
theorem Inv.kept {t' : Nat} (I : Inv X pins σ H s) (k : ∀ b u, s.heap.get? b = some u -> h'.get? b = some u) : Inv X pins σ H { s with heap := h', toks := t' } := I.un (Un.kept k) (I.hok.kept k)
theorem Inv.laid {a : Addr} {o : HO} {t' : Nat} (I : Inv X pins σ H s) (k : ∀ b u, s.heap.get? b = some u -> h'.get? b = some u) (hp : s.heap.objs.size <= a) (new : ObjOk X.prog X.w (upd H a o) h' a o) :
    Inv X pins σ (upd H a o) { s with heap := h', toks := t' } := I.un (Un.laid k hp (I.hok.fresh hp)) (I.hok.laid k hp new)
theorem Inv.write {x e : Addr} {o : HO} {t' : Nat} (I : Inv X pins σ H s) (mu : Mut (H x)) (he : e = x \/ H e = some (.own x)) (k : ∀ b u, b ≠ e -> s.heap.get? b = some u -> h'.get? b = some u) (heo : ∃ u, h'.get? e = some u)
    (new : ObjOk X.prog X.w (upd H x o) h' x o) : Inv X pins σ (upd H x o) { s with heap := h', toks := t' } := I.un (Un.write mu he k heo) (I.hok.write mu he k heo new)
theorem Inv.weak {σ' : List (Option V)} (I : Inv X pins σ H s) (hl : σ'.length = σ.length) (w : ∀ (i : Nat) v, σ'[i]? = some (some v) -> σ[i]? = some (some v)) : Inv X pins σ' H s :=
  ⟨I.ok, I.os, I.bare, I.base, let ⟨m, hn, hl'⟩ := I.loc; ⟨m, hn, fun i x v e1 e2 e3 => hl' i x v e1 (w i v e2) e3⟩, I.cell, I.free, I.freeC, I.pin, I.hok, hl.trans I.len⟩
theorem Inv.pins_of {pins' : List (Addr × Obj)} (I : Inv X pins σ H s) (h : ∀ p ∈ pins', s.heap.get? p.1 = some p.2 /\ H p.1 = none /\ p.1 ≠ X.env.locals /\ p.1 ∉ X.fs /\ ∀ v, p.2.data ≠ .cell v) : Inv X pins' σ H s :=
  ⟨I.ok, I.os, I.bare, I.base, I.loc, I.cell, I.free, I.freeC, fun p hp => (List.mem_append.mp hp).elim (fun z => I.pin p (List.mem_append_left _ z)) (h p), I.hok, I.len⟩
theorem nodup_ix {N : List Str} (hN : N.Nodup) {i j : Nat} {x : Str} (a : N[i]? = some x) (b : N[j]? = some x) : i = j := by
  obtain ⟨h1, e1⟩ := List.getElem?_eq_some_iff.mp a
  obtain ⟨h2, e2⟩ := List.getElem?_eq_some_iff.mp b
  exact (List.getElem_inj hN).mp (e1.trans e2.symm)
theorem store_ok2 {M : Model} {A : Around} {E : Value -> Shared -> Prop} {i : Nat} {x : Str} {v : V} {u : Value} {Q : Unit -> Shared -> Prop} (I : Inv X pins σ H s) (hN : X.N.Nodup) (hi : X.N[i]? = some x) (hx : Loc X.env.scope x) (r : RelV v u)
    (h : ∀ s', Inv X pins (σ.set i (some v)) H s' -> (∃ a, Heap.SameBut a s.heap s'.heap /\ (a = X.env.locals \/ X.env.cells.lookup x = some a)) -> Q () s') (hf : X.fn x = true \/ X.env.scope.names.lookup x = some .local := by first | exact .inl rfl | exact .inr rfl | assumption) : wpAny M A (storeName X.env x u) Q E s := by
  obtain ⟨m, hn, hl⟩ := id I.loc
  have hcls : (X.env.scope.kind == .class || (X.env.scope.kind == .module && X.env.locals != X.env.globals)) = false := by rw [I.ok.kind]; rfl
  have hiσ : i < σ.length := by rw [I.len]; exact (List.getElem?_eq_some_iff.mp hi).1
  have cne := I.cne
  have tracked : ∀ {a : Addr} {h' : Heap}, (∃ o, s.heap.get? a = some o /\ H a = none) -> Heap.SameBut a s.heap h' -> HOk X.prog X.w H h' := fun {a h'} ha hs b ob e => by
    obtain ⟨_, _, hfree⟩ := ha
    refine (I.hok b ob e).stay (fun c w' hc q => (hs.2 c ?_).trans q) (fun _ q => q) fun _ _ q => q
    rintro rfl
    rcases hc with rfl | hc
    . rw [hfree] at e; cases e
    . rw [hfree] at hc; cases hc
  rcases hx with hk | hk
  . refine wpAny_storeName_local hk hn (fun h' hn' hs => ?_) hcls
    obtain ⟨oL, _, _, hoL, _⟩ := id hn
    refine h _ ⟨I.ok, I.os, I.bare, ⟨fun b o e n hb hx => ?_, fun b o e n hb hx => ?_, I.base.free, fun b o e hx => ?_, I.base.tups, I.base.frzs, I.base.tbls⟩, ⟨_, hn', fun j y v' e1 e2 e3 => ?_⟩, fun y c e => ?_, I.free, I.freeC, fun p hp => ?_, tracked ⟨oL, hoL, I.free⟩ hs, by simpa using I.len⟩ ⟨_, hs, .inl rfl⟩
    . exact (hs.2 b (Nat.ne_of_lt (Nat.lt_of_lt_of_le (Heap.lt_size e) I.ok.above))).trans (I.base.keep b o e n hb hx)
    . obtain ⟨sl, e1⟩ := I.base.slot b o e n hb hx
      exact ⟨sl, (hs.2 b (Nat.ne_of_lt (Nat.lt_of_lt_of_le (Heap.lt_size e) I.ok.above))).trans e1⟩
    . obtain ⟨o', e1⟩ := I.base.there b o e hx
      exact ⟨o', (hs.2 b (Nat.ne_of_lt (Nat.lt_of_lt_of_le (Heap.lt_size e) I.ok.above))).trans e1⟩
    . by_cases hj : j = i
      . subst hj
        rw [hi] at e1; cases e1
        rw [List.getElem?_set_self hiσ] at e2
        cases e2
        exact ⟨u, r, .inl ⟨hk, by simp⟩⟩
      . rw [List.getElem?_set_ne (Ne.symm hj)] at e2
        obtain ⟨u', r', q⟩ := hl j y v' e1 e2 e3
        refine ⟨u', r', ?_⟩
        rcases q with ⟨k, e⟩ | ⟨k, c, e, z⟩
        . refine .inl ⟨k, ?_⟩
          have : y ≠ x := fun e => hj (nodup_ix hN e1 (e ▸ hi))
          simp [this, e]
        . exact .inr ⟨k, c, e, z.sameBut hs (cne y c e)⟩
    . obtain ⟨w', z⟩ := I.cell y c e
      exact ⟨w', z.sameBut hs (cne y c e)⟩
    . obtain ⟨e, n, ne, nf, d⟩ := I.pin p hp
      exact ⟨(hs.2 p.1 ne).trans e, n, ne, nf, d⟩
  . have hfn : X.fn x = true := by
      rcases hf with z | z
      . exact z
      . rw [z] at hk; cases hk
    obtain ⟨c, hc⟩ := I.ok.has x (.inl hk)
    obtain ⟨w', z⟩ := I.cell x c hc
    refine wpAny_storeName_cell I.ok.kind hk hc z (fun h' hc' hs => ?_)
    obtain ⟨oc, hoc, hocd⟩ := id z
    refine h { s with heap := h' } ⟨I.ok, I.os, I.bare, ⟨fun b o e n hb hx => ?_, fun b o e n hb hx => ?_, I.base.free, fun b o e hx => ?_, I.base.tups, I.base.frzs, I.base.tbls⟩, ⟨m, hn.sameBut hs (Ne.symm (cne x c hc)), fun j y v' e1 e2 e3 => ?_⟩, fun y c' e => ?_, I.free, I.freeC, fun p hp => ?_, tracked ⟨oc, hoc, I.freeC x c hc⟩ hs, by simpa using I.len⟩ ⟨c, hs, .inr hc⟩
    . exact (hs.2 b (Nat.ne_of_lt (Nat.lt_of_lt_of_le (Heap.lt_size e) (I.ok.cab x c hfn hc)))).trans (I.base.keep b o e n hb hx)
    . obtain ⟨sl, e1⟩ := I.base.slot b o e n hb hx
      exact ⟨sl, (hs.2 b (Nat.ne_of_lt (Nat.lt_of_lt_of_le (Heap.lt_size e) (I.ok.cab x c hfn hc)))).trans e1⟩
    . obtain ⟨o', e1⟩ := I.base.there b o e hx
      exact ⟨o', (hs.2 b (Nat.ne_of_lt (Nat.lt_of_lt_of_le (Heap.lt_size e) (I.ok.cab x c hfn hc)))).trans e1⟩
    . by_cases hj : j = i
      . subst hj
        rw [hi] at e1; cases e1
        rw [List.getElem?_set_self hiσ] at e2
        cases e2
        exact ⟨u, r, .inr ⟨.inl hk, c, hc, hc'⟩⟩
      . rw [List.getElem?_set_ne (Ne.symm hj)] at e2
        obtain ⟨u', r', q⟩ := hl j y v' e1 e2 e3
        refine ⟨u', r', ?_⟩
        rcases q with q | ⟨k, c', e, z'⟩
        . exact .inl q
        . refine .inr ⟨k, c', e, z'.sameBut hs ?_⟩
          rintro rfl
          exact hj (nodup_ix hN e1 (I.ok.inj _ _ _ e hc ▸ hi))
    . by_cases hcc : c' = c
      . subst hcc; exact ⟨_, hc'⟩
      . obtain ⟨w2, z2⟩ := I.cell y c' e
        exact ⟨w2, z2.sameBut hs hcc⟩
    . obtain ⟨e, n, ne, nf, d⟩ := I.pin p hp
      refine ⟨(hs.2 p.1 ?_).trans e, n, ne, nf, d⟩
      intro q
      rw [q, hoc] at e
      have q' : oc = p.2 := Option.some.inj e
      exact d w' (by rw [<- q']; exact hocd)
theorem store_ok {M : Model} {A : Around} {E : Value -> Shared -> Prop} {i : Nat} {x : Str} {v : V} {u : Value} {Q : Unit -> Shared -> Prop} (I : Inv X pins σ H s) (hN : X.N.Nodup) (hi : X.N[i]? = some x) (hx : Loc X.env.scope x) (r : RelV v u)
    (h : ∀ s', Inv X pins (σ.set i (some v)) H s' -> Q () s') (hf : X.fn x = true \/ X.env.scope.names.lookup x = some .local := by first | exact .inl rfl | exact .inr rfl | assumption) : wpAny M A (storeName X.env x u) Q E s :=
  store_ok2 I hN hi hx r (fun s' I' _ => h s' I') hf
theorem Inv.call' {s' : Shared} {ch : List Addr} (I : Inv X pins σ H s) (ho : s'.os = s.os) (u : Un (frs X.stack) ch H H' s.heap s'.heap) (hok : HOk X.prog X.w H' s'.heap) (hg : AllBare s'.gens)
    (hch : ∀ b ∈ ch, (b ∈ X.ex \/ X.s₀.heap.objs.size <= b) /\ b ≠ X.env.locals /\ (∀ x c, X.env.cells.lookup x = some c -> c ≠ b) /\ ∀ p ∈ X.pn ++ pins, p.1 ≠ b) : Inv X pins σ H' s' := by
  obtain ⟨h', g', d', t', o'⟩ := s'
  have e : o' = s.os := ho
  subst e
  exact I.call (g' := g') (t' := t') (d' := d') u hok hg hch
end
abbrev XK := Value -> Option Addr -> Hp -> Prop
abbrev St := List (Option V)
abbrev VK := V -> Hp -> Prop
abbrev TE := St -> Hp -> VK -> Prop
abbrev TT := St -> Hp -> (Bool -> Hp -> Prop) -> Prop
abbrev TA := St -> Hp -> (List V -> Hp -> Prop) -> Prop
structure Ends where
  nx : St -> Hp -> Prop
  rt : VK
  bk : St -> Hp -> Prop := fun _ _ => False
  ct : St -> Hp -> Prop := fun _ _ => False
abbrev TS := Ends -> St -> Hp -> Prop
def EP (X : Cx) (pins : List (Addr × Obj)) (σ : St) (Q : VK) (u : Value) (s' : Shared) : Prop := ∃ v H', Inv X pins σ H' s' /\ RelV v u /\ Q v H'
def TP (X : Cx) (pins : List (Addr × Obj)) (σ : St) (Q : Bool -> Hp -> Prop) (b : Bool) (s' : Shared) : Prop := ∃ H', Inv X pins σ H' s' /\ Q b H'
def AP (X : Cx) (pins : List (Addr × Obj)) (σ : St) (Q : List V -> Hp -> Prop) (us : List Value) (s' : Shared) : Prop := ∃ vs H', Inv X pins σ H' s' /\ Vals vs us /\ Q vs H'
def SP (X : Cx) (pins : List (Addr × Obj)) (D : Ends) (f : Flow) (s' : Shared) : Prop :=
  match f with
  | .next => ∃ σ' H', Inv X pins σ' H' s' /\ D.nx σ' H'
  | .brk => ∃ σ' H', Inv X pins σ' H' s' /\ D.bk σ' H'
  | .cont => ∃ σ' H', Inv X pins σ' H' s' /\ D.ct σ' H'
  | .ret u => ∃ v σ' H', Inv X pins σ' H' s' /\ RelV v u /\ D.rt v H'
def PE (X : Cx) (e : Expr) (t : TE) : Prop :=
  ∀ (pins : List (Addr × Obj)) (s : Shared) (σ : St) (H : Hp) (Q : VK), Inv X pins σ H s -> t σ H Q -> wpAny (model X.prog X.w) X.A (eval e X.env) (EP X pins σ Q) X.xe s
def PT (X : Cx) (e : Expr) (t : TT) : Prop :=
  ∀ (pins : List (Addr × Obj)) (s : Shared) (σ : St) (H : Hp) (Q : Bool -> Hp -> Prop), Inv X pins σ H s -> t σ H Q -> wpAny (model X.prog X.w) X.A (isTrue e X.env (eval e X.env)) (TP X pins σ Q) X.xe s
def PW (X : Cx) (e : Expr) (t : TT) : Prop :=
  ∀ (whole : Sem Value) (pins : List (Addr × Obj)) (s : Shared) (σ : St) (H : Hp) (Q : Bool -> Hp -> Prop), Inv X pins σ H s -> t σ H Q -> wpAny (model X.prog X.w) X.A (isTrue e X.env whole) (TP X pins σ Q) X.xe s
theorem PW.pt {X : Cx} {e : Expr} {t : TT} (h : PW X e t) : PT X e t := h _
def PA (X : Cx) (es : List Expr) (t : TA) : Prop :=
  ∀ (pos : Pos) (pins : List (Addr × Obj)) (s : Shared) (σ : St) (H : Hp) (Q : List V -> Hp -> Prop), Inv X pins σ H s -> t σ H Q -> wpAny (model X.prog X.w) X.A (spliced (backTo pos (starEach es X.env))) (AP X pins σ Q) X.xe s
def PS (X : Cx) (st : Stmt) (t : TS) : Prop :=
  ∀ (pins : List (Addr × Obj)) (s : Shared) (σ : St) (H : Hp) (D : Ends), Inv X pins σ H s -> t D σ H -> wpAny (model X.prog X.w) X.A (exec st X.env) (SP X pins D) X.xe s
def PSs (X : Cx) (st : List Stmt) (t : TS) : Prop :=
  ∀ (pins : List (Addr × Obj)) (s : Shared) (σ : St) (H : Hp) (D : Ends), Inv X pins σ H s -> t D σ H -> wpAny (model X.prog X.w) X.A (execs st X.env) (SP X pins D) X.xe s
theorem thn {α : Type} {t : Sem α} {Q Q' : α -> Shared -> Prop} {M : Model} {A : Around} {E : Value -> Shared -> Prop} {s : Shared} (h : wpAny M A t Q E s) (hQ : ∀ a s, Q a s -> Q' a s) : wpAny M A t Q' E s := wpAny_mono h hQ fun _ _ x => x
section
variable {X : Cx}
def tVar (i : Nat) : TE := fun σ H Q => ∃ v, σ[i]? = some (some v) /\ Q v H
def tC (v : V) : TE := fun _ H Q => Q v H
theorem pe_var {i : Nat} {x : Str} {pos : Pos} (hN : X.N[i]? = some x) (hv : Vis X.env.scope x) (hd : (x == ("__debug__" : Str)) = false := by decide) (hcd : (x == ("__classdict__" : Str)) = false := by decide) : PE X (.Name x pos) (tVar i) := by
  intro pins s σ H Q I h
  obtain ⟨v, e, h⟩ := h
  obtain ⟨m, hn, hl⟩ := I.loc
  obtain ⟨u, r, l⟩ := hl i x v hN e hv
  have fin : EP X pins σ Q u s := ⟨v, H, I, r, h⟩
  rcases l with ⟨hk, hm⟩ | ⟨hk, c, hc, hcell⟩
  . exact wpAny_Name (wpAny_loadName_local I.ok.kind hk hn hm fin) hd
  . rcases hk with hk | hk
    . exact wpAny_Name (wpAny_loadName_cell I.ok.kind hk hc hcell fin) hd
    . exact wpAny_Name (wpAny_loadName_free I.ok.kind hk hc hcell fin hcd) hd
theorem pe_int {i j pos} : PE X (.Constant (.int i) j pos) (tC (.int i)) := fun _ _ _ H _ I h => wpAny_Constant_int ⟨.int i, H, I.tok _, ⟨_, rfl⟩, h⟩
theorem pe_bl {b j pos} : PE X (.Constant (.bool b) j pos) (tC (.bl b)) := fun _ _ _ H _ I h => Constant_bool ⟨.bl b, H, I, rfl, h⟩
theorem pe_non {j pos} : PE X (.Constant .none j pos) (tC .non) := fun _ _ _ H _ I h => Constant_none ⟨.non, H, I, rfl, h⟩
def Gl (X : Cx) (x : Str) : Prop := X.env.kindOf x = some .globalImplicit
theorem ld_glob {E : Value -> Shared -> Prop} {pins : List (Addr × Obj)} {s : Shared} {σ : St} {H : Hp} {x : Str} {u : Value} {pos : Pos} {Q : Value -> Shared -> Prop} (I : Inv X pins σ H s) (hg : Gl X x) (hm : X.mg x = some u) (h : Q u s)
    (hd : (x == ("__debug__" : Str)) = false := by decide) : wpAny (model X.prog X.w) X.A (eval (.Name x pos) X.env) Q E s :=
  Calls.Name_function_global I.ok.kind hg (Calls.loadGlobal_global (by rw [I.ok.glob]; exact I.mod.glob.keeps I.bk) hm h) hd
theorem ld_blt {E : Value -> Shared -> Prop} {pins : List (Addr × Obj)} {s : Shared} {σ : St} {H : Hp} {x : Str} {u : Value} {pos : Pos} {Q : Value -> Shared -> Prop} (I : Inv X pins σ H s) (hg : Gl X x) (hm : X.mg x = none) (hv : bootBuiltins x = some u) (h : Q u s)
    (hn : x ≠ "__name__" := by decide) (hd : (x == ("__debug__" : Str)) = false := by decide) : wpAny (model X.prog X.w) X.A (eval (.Name x pos) X.env) Q E s := by
  obtain ⟨mb, h1, h2⟩ := I.mod.blt
  exact Calls.Name_function_global I.ok.kind hg (Calls.loadGlobal_builtin (by rw [I.ok.glob]; exact I.mod.glob.keeps I.bk) hm (by rw [I.ok.blt]; exact h1.keeps I.bk) ((h2 x hn).trans hv) h) hd
theorem pe_bltn {x : Str} {v : V} {u : Value} {pos : Pos} (hg : Gl X x) (hm : X.mg x = none) (hv : bootBuiltins x = some u) (r : RelV v u) (hn : x ≠ "__name__" := by decide) (hd : (x == ("__debug__" : Str)) = false := by decide) : PE X (.Name x pos) (tC v) :=
  fun _ _ _ H _ I h => ld_blt I hg hm hv ⟨v, H, I, r, h⟩ hn hd
variable {a b : Expr} {ta tb : TE} {pos : Pos}
def tB (t : TE) : TT := fun σ H Q => t σ H fun x H1 => ∃ c, x = .bl c /\ Q c H1
theorem pt_val {e : Expr} {t : TE} (h : PE X e t) (he : ∀ whole, isTrue e X.env whole = (do let v <- whole; standAt e.pos; holding [v] (truthy v)) := by intro _; rfl) : PT X e (tB t) := by
  intro pins s σ H Q I hw
  refine isTrue_plain (thn (h pins s σ H _ I hw) fun v s1 ⟨x, H1, I1, r1, q1⟩ => ?_) (he _)
  obtain ⟨d, rfl, q⟩ := q1
  cases r1
  exact wpAny_truthy_bool ⟨H1, I1, q⟩
variable {tA tB' : TT} {rest : List Expr}
def tAnd (t u : TT) : TT := fun σ H Q => t σ H fun c H1 => if c = true then u σ H1 Q else Q false H1
def tOr (t u : TT) : TT := fun σ H Q => t σ H fun c H1 => if c = true then Q true H1 else u σ H1 Q
def tNot (t : TT) : TT := fun σ H Q => t σ H fun c H1 => Q (!c) H1
theorem pw_and1 (ha : PT X a tA) : PW X (.BoolOp .And [a] pos) tA := by
  intro wh pins s σ H Q I h
  refine isTrue_and (thn (ha pins s σ H Q I h) fun c s1 e => ?_)
  cases c with
  | true => exact isTrue_and_nil e
  | false => exact e
theorem pw_or1 (ha : PT X a tA) : PW X (.BoolOp .Or [a] pos) tA := by
  intro wh pins s σ H Q I h
  refine isTrue_or (thn (ha pins s σ H Q I h) fun c s1 e => ?_)
  cases c with
  | false => exact isTrue_or_nil e
  | true => exact e
theorem pw_and (ha : PT X a tA) (hb : PW X (.BoolOp .And (b :: rest) pos) tB') : PW X (.BoolOp .And (a :: b :: rest) pos) (tAnd tA tB') := by
  intro wh pins s σ H Q I h
  refine isTrue_and (thn (ha pins s σ H _ I h) fun c s1 ⟨H1, I1, q1⟩ => ?_)
  cases c with
  | true => exact hb wh pins s1 σ H1 Q I1 q1
  | false => exact ⟨H1, I1, q1⟩
theorem pw_or (ha : PT X a tA) (hb : PW X (.BoolOp .Or (b :: rest) pos) tB') : PW X (.BoolOp .Or (a :: b :: rest) pos) (tOr tA tB') := by
  intro wh pins s σ H Q I h
  refine isTrue_or (thn (ha pins s σ H _ I h) fun c s1 ⟨H1, I1, q1⟩ => ?_)
  cases c with
  | true => exact ⟨H1, I1, q1⟩
  | false => exact hb wh pins s1 σ H1 Q I1 q1
theorem pt_not (ha : PT X a tA) : PT X (.UnaryOp .Not a pos) (tNot tA) := by
  intro pins s σ H Q I h
  exact isTrue_not (ha pins s σ H (fun c H1 => Q (!c) H1) I h)
def tAndV (ta tb : TE) : TE := fun σ H Q => ta σ H fun x H1 => ∃ c, x = .bl c /\ if c = true then tb σ H1 Q else Q (.bl false) H1
def tNotV (ta : TE) : TE := fun σ H Q => ta σ H fun x H1 => ∃ c, x = .bl c /\ Q (.bl (!c)) H1
theorem pe_one {op} {t : TE} (h : PE X a t) : PE X (.BoolOp op [a] pos) t := fun pins s σ H Q I hw => BoolOp_one (h pins s σ H Q I hw)
theorem pe_and (ha : PE X a ta) (hb : PE X (.BoolOp .And (b :: rest) pos) tb) : PE X (.BoolOp .And (a :: b :: rest) pos) (tAndV ta tb) := by
  intro pins s σ H Q I h
  refine BoolOp_and (thn (ha pins s σ H _ I h) fun v s1 ⟨x, H1, I1, r1, q1⟩ => ?_)
  obtain ⟨c, rfl, q1⟩ := q1
  cases r1
  refine wpAny_truthy_bool ?_
  cases c with
  | true => exact hb pins s1 σ H1 Q I1 q1
  | false => exact ⟨.bl false, H1, I1, rfl, q1⟩
theorem pe_not (ha : PE X a ta) : PE X (.UnaryOp .Not a pos) (tNotV ta) := by
  intro pins s σ H Q I h
  refine UnaryOp_ (thn (ha pins s σ H _ I h) fun v s1 ⟨x, H1, I1, r1, q1⟩ => ?_)
  obtain ⟨c, rfl, q1⟩ := q1
  cases r1
  exact not_of (wpAny_truthy_bool ⟨.bl (!c), H1, I1, rfl, q1⟩)
end
def SqL (K : PySem.W.Frag) (H : Hp) (a : Addr) (xs : List V) : Prop :=
  Rd H a (.lst xs) \/
    ∃ (o : Obj) (its : Array Value) (n : Nat), K.lookup a = some o /\ o.cls = .type "list" /\ o.dict = none /\ o.data = .seq its n /\ its.size <= sizeLine /\ Vals xs its.toList
def SqT (K : PySem.W.Frag) (H : Hp) (a : Addr) (xs : List V) : Prop :=
  Rd H a (.tup xs) \/
    ∃ (o : Obj) (its : Array Value) (n : Nat), K.lookup a = some o /\ o.cls = .type "tuple" /\ o.data = .seq its n /\ its.size <= sizeLine /\ Vals xs its.toList
def absV : Value -> Option V
  | .none => some .non
  | .bool b => some (.bl b)
  | .int i _ => some (.int i)
  | .str x _ => some (.str x)
  | .bytes b _ => some (.byt b)
  | .float b _ => some (.flt b)
  | .ref a => some (.ref a)
  | .type n => some (.ty n)
  | _ => none
theorem RelV.abs {x : V} {u : Value} (r : RelV x u) : absV u = some x := by
  cases x with
  | non => cases r; rfl
  | bl _ => cases r; rfl
  | int _ => obtain ⟨t, rfl⟩ := r; rfl
  | str _ => obtain ⟨t, rfl⟩ := r; rfl
  | byt _ => obtain ⟨t, rfl⟩ := r; rfl
  | flt _ => obtain ⟨t, rfl⟩ := r; rfl
  | ref _ => cases r; rfl
  | ty _ => cases r; rfl
theorem RelV.inj {x y : V} {u : Value} (r : RelV x u) (q : RelV y u) : x = y := Option.some.inj (r.abs.symm.trans q.abs)
theorem Vals.inj : ∀ {xs ys : List V} {us : List Value}, Vals xs us -> Vals ys us -> xs = ys
  | _, _, _, .nil, .nil => rfl
  | _, _, _, .cons r t, .cons r' t' => by rw [r.inj r', Vals.inj t t']
section
variable {X : Cx} {pins : List (Addr × Obj)} {σ : St} {H : Hp} {s : Shared} {a : Addr} {xs ys : List V}
theorem SqL.of {K : PySem.W.Frag} (h : H a = some (.lst xs)) : SqL K H a xs := .inl (.inl h)
theorem SqT.of {K : PySem.W.Frag} (h : H a = some (.tup xs)) : SqT K H a xs := .inl (.inl h)
theorem Inv.list (I : Inv X pins σ H s) (h : SqL X.K H a xs) : ∃ its : List Value, Vals xs its /\ PlainL s.heap a its.toArray /\ xs.length <= sizeLine := by
  rcases h with h | ⟨o, its, n, hk, hc, hd, hs, hz, r⟩
  . obtain ⟨z, its, n, r, e⟩ := h.ok I.hok
    exact ⟨its, r, ⟨_, n, e, rfl, rfl, rfl⟩, z⟩
  . refine ⟨its.toList, r, ⟨o, n, I.kIn a o hk, hc, hd, by simpa using hs⟩, ?_⟩
    have e := r.length
    simp only [Array.length_toList] at e
    omega
theorem Inv.tuple (I : Inv X pins σ H s) (h : SqT X.K H a xs) : ∃ its : List Value, Vals xs its /\ IsTup s.heap a its.toArray /\ xs.length <= sizeLine := by
  rcases h with h | ⟨o, its, n, hk, hc, hs, hz, r⟩
  . obtain ⟨z, its, r, p⟩ := h.ok I.hok
    exact ⟨its, r, p, z⟩
  . refine ⟨its.toList, r, ⟨o, I.kIn a o hk, hc, n, by simpa using hs⟩, ?_⟩
    have e := r.length
    simp only [Array.length_toList] at e
    omega
theorem Inv.list_inj (I : Inv X pins σ H s) (h : SqL X.K H a xs) (h' : SqL X.K H a ys) : xs = ys := by
  obtain ⟨its, r, ⟨o, n, e, _, _, d⟩, _⟩ := I.list h
  obtain ⟨its', r', ⟨o', n', e', _, _, d'⟩, _⟩ := I.list h'
  rw [e] at e'; cases e'
  rw [d] at d'
  injection d' with d1 _
  have : its = its' := by simpa using congrArg Array.toList d1
  subst this
  exact r.inj r'
end
abbrev Cx.wish (X : Cx) (E : Value -> Shared -> Prop) : Cx := { X with xe := E }
abbrev Cx.nox (X : Cx) : Cx := X.wish fun _ _ => False
theorem Cx.Ok.wish {X : Cx} (ok : X.Ok) (E : Value -> Shared -> Prop) : (X.wish E).Ok :=
  ⟨ok.mod, ok.kind, ok.glob, ok.blt, ok.above, ok.inj, ok.has, ok.cab, ok.hd, ok.frames, ok.stk, ok.exf, ok.bs, ok.bsz, ok.noex, ok.exfs, ok.funs, ok.frf⟩
theorem Cx.Ok.unwish {X : Cx} {E : Value -> Shared -> Prop} (ok : (X.wish E).Ok) : X.Ok :=
  ⟨ok.mod, ok.kind, ok.glob, ok.blt, ok.above, ok.inj, ok.has, ok.cab, ok.hd, ok.frames, ok.stk, ok.exf, ok.bs, ok.bsz, ok.noex, ok.exfs, ok.funs, ok.frf⟩
section
variable {X : Cx} {pins : List (Addr × Obj)} {σ : St} {H : Hp} {s : Shared} {E : Value -> Shared -> Prop}
theorem Inv.wish (I : Inv X pins σ H s) (E : Value -> Shared -> Prop) : Inv (X.wish E) pins σ H s := ⟨I.ok.wish E, I.os, I.bare, I.base, I.loc, I.cell, I.free, I.freeC, I.pin, I.hok, I.len⟩
theorem Inv.unwish (I : Inv (X.wish E) pins σ H s) : Inv X pins σ H s := ⟨I.ok.unwish, I.os, I.bare, I.base, I.loc, I.cell, I.free, I.freeC, I.pin, I.hok, I.len⟩
theorem SP.unwish {D : Ends} {f : Flow} {s' : Shared} (h : SP (X.wish E) pins D f s') : SP X pins D f s' := by
  cases f with
  | next => obtain ⟨σ', H', I, q⟩ := h; exact ⟨σ', H', I.unwish, q⟩
  | brk => obtain ⟨σ', H', I, q⟩ := h; exact ⟨σ', H', I.unwish, q⟩
  | cont => obtain ⟨σ', H', I, q⟩ := h; exact ⟨σ', H', I.unwish, q⟩
  | ret u => obtain ⟨v, σ', H', I, r, q⟩ := h; exact ⟨v, σ', H', I.unwish, r, q⟩
theorem PSs.nox {st : List Stmt} {t : TS} (h : PSs X.nox st t) : PSs X st t := fun pins s σ H D I hw =>
  wpAny_mono (h pins s σ H D (I.wish _) hw) (fun _ _ q => q.unwish) fun _ _ z => False.elim z
end
section
variable {X : Cx} {st : Stmt} {rest : List Stmt} {t u : TS} {e : Expr} {te : TE} {pos : Pos}
def tNext : TS := fun D σ H => D.nx σ H
def tSeq (t u : TS) : TS := fun D σ H => t { D with nx := u D } σ H
theorem pss_nil : PSs X [] tNext := fun _ _ σ H _ I h => wpAny_execs_nil ⟨σ, H, I, h⟩
theorem pss_cons (h1 : PS X st t) (h2 : PSs X rest u) : PSs X (st :: rest) (tSeq t u) := by
  intro pins s σ H D I h
  refine wpAny_execs_cons (thn (h1 pins s σ H { D with nx := u D } I h) fun f s1 q => ?_)
  cases f with
  | next =>
    obtain ⟨σ', H', I', q⟩ := q
    exact h2 pins s1 σ' H' D I' q
  | ret v => exact q
  | brk => exact q
  | cont => exact q
theorem pss_one (h1 : PS X st t) : PSs X [st] t := by
  intro pins s σ H D I h
  refine wpAny_execs_cons (thn (h1 pins s σ H D I h) fun f s1 q => ?_)
  cases f with
  | next => exact wpAny_execs_nil q
  | ret v => exact q
  | brk => exact q
  | cont => exact q
theorem Inv.quiet {pins : List (Addr × Obj)} {σ : St} {H : Hp} {s : Shared} (I : Inv X pins σ H s) : interactive X.env = false := by simp [interactive, I.ok.kind]
def tDrop (te : TE) : TS := fun D σ H => te σ H fun _ H1 => D.nx σ H1
theorem ps_expr (he : PE X e te) (hs : swapsWith e none pos.line X.env = pure false := by rfl) : PS X (.Expr e pos) (tDrop te) := by
  intro pins s σ H D I h
  exact wpAny_Expr_any (thn (he pins s σ H _ I h) fun v s1 ⟨x, H1, I1, r1, q1⟩ => ⟨σ, H1, I1, q1⟩) I.quiet hs
def tRet (te : TE) : TS := fun D σ H => te σ H D.rt
theorem ps_ret (he : PE X e te) : PS X (.Return (some e) pos) (tRet te) := by
  intro pins s σ H D I h
  exact wpAny_Return_some (thn (he pins s σ H _ I h) fun v s1 ⟨x, H1, I1, r1, q1⟩ => ⟨x, σ, H1, I1, r1, q1⟩)
def tIfS (c : TT) (t u : TS) : TS := fun D σ H => c σ H fun b H1 => if b = true then t D σ H1 else u D σ H1
theorem ps_if {c : Expr} {a b : List Stmt} {tc : TT} (hc : PT X c tc) (ha : PSs X a t) (hb : PSs X b u) : PS X (.If c a b pos) (tIfS tc t u) := by
  intro pins s σ H D I h
  refine wpAny_If (thn (hc pins s σ H _ I h) fun d s1 ⟨H1, I1, q1⟩ => ?_)
  cases d with
  | true => exact ha pins s1 σ H1 D I1 q1
  | false => exact hb pins s1 σ H1 D I1 q1
end
abbrev TG := V -> St -> Hp -> (St -> Hp -> Prop) -> Prop
abbrev TGs := List V -> St -> Hp -> (St -> Hp -> Prop) -> Prop
def PG (X : Cx) (target : Expr) (t : TG) : Prop :=
  ∀ (pins : List (Addr × Obj)) (s : Shared) (σ : St) (H : Hp) (v : V) (u : Value) (Q : St -> Hp -> Prop), Inv X pins σ H s -> RelV v u -> t v σ H Q ->
    wpAny (model X.prog X.w) X.A (assign target X.env u) (fun _ s' => ∃ σ' H', Inv X pins σ' H' s' /\ Q σ' H') X.xe s
def PGs (X : Cx) (ts : List Expr) (t : TGs) : Prop :=
  ∀ (pins : List (Addr × Obj)) (s : Shared) (σ : St) (H : Hp) (vs : List V) (us : List Value) (Q : St -> Hp -> Prop), Inv X pins σ H s -> Vals vs us -> t vs σ H Q ->
    wpAny (model X.prog X.w) X.A (assignInOrder ((assignEach ts X.env).map (·.2)) us) (fun _ s' => ∃ σ' H', Inv X pins σ' H' s' /\ Q σ' H') X.xe s
abbrev TSet := V -> V -> V -> Hp -> (Hp -> Prop) -> Prop
def PSet (X : Cx) (t : TSet) : Prop :=
  ∀ (pins : List (Addr × Obj)) (s : Shared) (σ : St) (H : Hp) (o i v : V) (ov iv u : Value) (Q : Hp -> Prop), Inv X pins σ H s -> RelV o ov -> RelV i iv -> RelV v u -> t o i v H Q ->
    wpAny (model X.prog X.w) X.A (setItem ov iv u) (fun _ s' => ∃ H', Inv X pins σ H' s' /\ Q H') X.xe s
section
variable {X : Cx} {pos : Pos}
def gName (i : Nat) : TG := fun v σ H Q => Q (σ.set i (some v)) H
theorem pg_name {i : Nat} {x : Str} (hN : X.N.Nodup) (hi : X.N[i]? = some x) (hx : Loc X.env.scope x) (hf : X.fn x = true \/ X.env.scope.names.lookup x = some .local := by first | exact .inl rfl | exact .inr rfl | assumption) : PG X (.Name x pos) (gName i) := by
  intro pins s σ H v u Q I r h
  exact wpAny_assign_Name (store_ok I hN hi hx r (fun s' I' => ⟨_, H, I', h⟩) hf)
def gNil : TGs := fun vs σ H Q => vs = [] /\ Q σ H
def gCons (t : TG) (u : TGs) : TGs := fun vs σ H Q => ∃ v r, vs = v :: r /\ t v σ H fun σ' H' => u r σ' H' Q
theorem pgs_nil : PGs X [] gNil := by
  intro pins s σ H vs us Q I r h
  obtain ⟨e, h⟩ := h
  subst e
  cases r
  exact assignInOrder_nil ⟨σ, H, I, h⟩
theorem pgs_cons {e : Expr} {es : List Expr} {t : TG} {u : TGs} (h1 : PG X e t) (h2 : PGs X es u)
    (hs : (assignEach (e :: es) X.env).map (·.2) = assign e X.env :: (assignEach es X.env).map (·.2) := by rfl) : PGs X (e :: es) (gCons t u) := by
  intro pins s σ H vs us Q I r h
  obtain ⟨v, vr, e1, h⟩ := h
  subst e1
  cases r with
  | cons r rr =>
    rw [hs]
    refine assignInOrder_cons (thn (h1 pins s σ H _ _ _ I r h) fun _ s1 ⟨σ1, H1, I1, q1⟩ => ?_)
    exact h2 pins s1 σ1 H1 _ _ Q I1 rr q1
def gTup (K : PySem.W.Frag) (n : Nat) (t : TGs) : TG := fun v σ H Q => ∃ a xs, v = .ref a /\ SqT K H a xs /\ xs.length = n /\ t xs σ H Q
theorem pg_tup {es : List Expr} {k : Nat} {t : TGs} {n : Nat} (hc : X.calm = true) (h : PGs X es t)
    (hn : (assignEach es X.env).length = n := by rfl) (hst : (assignEach es X.env).findIdx? (·.1) = none := by rfl) : PG X (.Tuple es k pos) (gTup X.K n t) := by
  intro pins s σ H v u Q I r hw
  obtain ⟨a, xs, e1, hq, hl, hw⟩ := hw
  subst e1
  cases r
  obtain ⟨its, rv, ht, hz⟩ := I.tuple hq
  refine assign_Tuple_tuple (I.ok.hd hc) ht (by simp [hn, <- hl, rv.length]) hst fun h' hx => ?_
  have I1 : Inv X pins σ H { s with heap := h' } := I.kept (t' := s.toks) fun b o e => hx b o (Nat.ne_of_lt (Heap.lt_size e)) e
  exact h pins _ σ H xs _ Q I1 (by simpa using rv) hw
def gSub (to ti : TE) (t : TSet) : TG := fun v σ H Q => to σ H fun o H1 => ti σ H1 fun i H2 => t o i v H2 fun H3 => Q σ H3
theorem pg_sub {o i : Expr} {to ti : TE} {t : TSet} (ho : PE X o to) (hi : PE X i ti) (hs : PSet X t)
    (ha : ∀ v, assign (.Subscript o i pos) X.env v = (do
      let ov <- holding [v] (eval o X.env)
      let iv <- holding [v, ov] (eval i X.env)
      standAt pos
      holding [v, ov, iv] (setItem ov iv v)
      release [v, ov, iv] []) := by intro _; rfl) : PG X (.Subscript o i pos) (gSub to ti t) := by
  intro pins s σ H v u Q I r h
  rw [ha]
  refine wpAny_bind (wpAny_holding (thn (ho pins s σ H _ I h) fun ov s1 ⟨x, H1, I1, r1, q1⟩ => ?_))
  refine wpAny_bind (wpAny_holding (thn (hi pins s1 σ H1 _ I1 q1) fun iv s2 ⟨y, H2, I2, r2, q2⟩ => ?_))
  refine wpAny_bind (wpAny_standAt (wpAny_bind (wpAny_holding (thn (hs pins s2 σ H2 x y v ov iv u _ I2 r1 r2 r q2) fun _ s3 ⟨H3, I3, q3⟩ => ?_))))
  exact wpAny_release ⟨σ, H3, I3, q3⟩
def tAsg (te : TE) (g : TG) : TS := fun D σ H => te σ H fun x H1 => g x σ H1 D.nx
theorem ps_asg {tg e : Expr} {te : TE} {g : TG} (he : PE X e te) (hg : PG X tg g) (hs : swapsWithSole [tg] e pos.line X.env = pure false := by rfl) (hw : swappedStores [tg] e X.env = pure none := by rfl)
    (h1 : (assignEach [tg] X.env).map (·.2) = [assign tg X.env] := by rfl) : PS X (.Assign [tg] e pos) (tAsg te g) := by
  intro pins s σ H D I h
  refine wpAny_Assign_stores (thn (he pins s σ H _ I h) fun v s1 ⟨x, H1, I1, r1, q1⟩ => ?_) hs hw
  rw [h1]
  exact thn (hg pins s1 σ H1 x v _ I1 r1 q1) fun _ s2 q => q
theorem ps_set {i : Nat} {x : Str} {e : Expr} {te : TE} {pos' : Pos} (hN : X.N.Nodup) (hi : X.N[i]? = some x) (hx : Loc X.env.scope x) (he : PE X e te) (hs : swapsWith e (some (.Name x pos')) pos.line X.env = pure false := by rfl) (hf : X.fn x = true \/ X.env.scope.names.lookup x = some .local := by first | exact .inl rfl | exact .inr rfl | assumption) :
    PS X (.Assign [.Name x pos'] e pos) (tAsg te (gName i)) := by
  intro pins s σ H D I h
  refine wpAny_Assign_Name (thn (he pins s σ H _ I h) fun v s1 ⟨y, H1, I1, r1, q1⟩ => ?_) hs
  exact store_ok I1 hN hi hx r1 (fun s2 I2 => ⟨_, H1, I2, q1⟩) hf
end
section
variable {X : Cx} {pos : Pos}
def tWhile (c : TT) (tb : TS) : TS := fun D σ H => ∃ W : Nat -> St -> Hp -> Prop, (∃ m, W m σ H) /\ ∀ m σ H, W m σ H ->
  c σ H fun b H1 => if b = true then ∃ N : St -> Hp -> Prop, (∀ σ' H', N σ' H' -> ∃ m', m' < m /\ W m' σ' H') /\ tb { D with nx := N, ct := N, bk := D.nx } σ H1 else D.nx σ H1
theorem ps_while {c : Expr} {body : List Stmt} {tc : TT} {tb : TS} (hp : PassesOwn (model X.prog X.w) X.A X.env X.xe) (hc : PT X c tc) (hb : PSs X body tb) : PS X (.While c body [] pos) (tWhile tc tb) := by
  intro pins s σ H D I h
  obtain ⟨W, ⟨m0, w0⟩, turn⟩ := h
  refine wpAny_While (codeAny_whileLoop (fun n s' => ∃ σ' H', Inv X pins σ' H' s' /\ W n σ' H') ?_ m0 ⟨σ, H, I, w0⟩)
  rintro n s1 ⟨σ1, H1, I1, w1⟩
  refine wpAny_passesOwn hp (thn (hc pins s1 σ1 H1 _ I1 (turn n σ1 H1 w1)) fun b s2 ⟨H2, I2, q2⟩ => ?_)
  cases b with
  | true =>
    obtain ⟨N, hN, q2⟩ := q2
    rw [if_pos rfl]
    refine wpAny_passesOwn hp (thn (hb pins s2 σ1 H2 _ I2 q2) fun f s3 q3 => ?_)
    cases f with
    | next =>
      obtain ⟨σ3, H3, I3, n3⟩ := q3
      obtain ⟨m', hm, w3⟩ := hN σ3 H3 n3
      exact ⟨m', hm, σ3, H3, I3, w3⟩
    | cont =>
      obtain ⟨σ3, H3, I3, n3⟩ := q3
      obtain ⟨m', hm, w3⟩ := hN σ3 H3 n3
      exact ⟨m', hm, σ3, H3, I3, w3⟩
    | brk => exact q3
    | ret v => exact q3
  | false =>
    rw [if_neg Bool.false_ne_true]
    exact wpAny_execs_nil ⟨σ1, H2, I2, q2⟩
end
structure It where
  go : Nat -> Hp -> Prop
  yld : Nat -> Hp -> V -> Hp -> Prop
  stop : Nat -> Hp -> Prop
def FpOk (X : Cx) (pins : List (Addr × Obj)) (H : Hp) (b : Addr) : Prop :=
  H b = none /\ b ≠ X.env.locals /\ b ∉ X.fs /\ (b ∈ X.ex \/ X.s₀.heap.objs.size <= b) /\ (∀ x c, X.env.cells.lookup x = some c -> c ≠ b) /\ ∀ p ∈ X.pn ++ pins, p.1 ≠ b
theorem Inv.fpOk {X : Cx} {pins : List (Addr × Obj)} {σ : St} {H H' : Hp} {s : Shared} {b : Addr} (I : Inv X pins σ H s) (hb : s.heap.objs.size <= b) (hn : H' b = none) : FpOk X pins H' b := by
  refine ⟨hn, Nat.ne_of_gt (Nat.lt_of_lt_of_le I.lt hb), I.nofs hb, .inr (Nat.le_trans I.sz hb), fun x c e z => ?_, fun p hp z => ?_⟩
  . obtain ⟨v, q⟩ := I.cell x c e
    exact absurd (Nat.lt_of_lt_of_le q.lt (by rw [z]; exact hb)) (Nat.lt_irrefl _)
  . exact absurd (Nat.lt_of_lt_of_le (Heap.lt_size (I.pin p hp).1) (by rw [z]; exact hb)) (Nat.lt_irrefl _)
structure Turn (P : Program) (w : World) (K : PySem.W.Frag) (tg : Expr) (J : It) (fp : List Addr) (it : Addr) (tn : Nat -> Heap -> Prop) : Prop where
  mem : it ∈ fp
  obj : ∀ i h, tn i h -> ∀ b ∈ fp, ∃ o, h.get? b = some o /\ ∀ v, o.data ≠ .cell v
  keep : ∀ i h h', tn i h -> (∀ b ∈ fp, ∀ o, h.get? b = some o -> h'.get? b = some o) -> tn i h'
  item : ∀ (X : Cx), X.prog = P -> X.w = w -> X.K = K -> X.calm = true -> ∀ (i : Nat) (pins : List (Addr × Obj)) (s : Shared) (σ : St) (H : Hp) (E : Value -> Shared -> Prop), Inv X pins σ H s -> (∀ b ∈ fp, FpOk X pins H b) -> tn i s.heap -> J.go i H ->
    wpAny (model P w) X.A (pyNext (.ref it)) (fun r s1 => ∃ u, r = some u /\
      wpAny (model P w) X.A (letOwnedTupleGo tg (.ref it) u) (fun _ s2 => ∃ x H', Inv X pins σ H' s2 /\ RelV x u /\ J.yld i H x H' /\ tn (i + 1) s2.heap /\ ∀ b ∈ fp, H' b = none) E s1) E s
  done : ∀ (X : Cx), X.prog = P -> X.w = w -> X.K = K -> X.calm = true -> ∀ (i : Nat) (pins : List (Addr × Obj)) (s : Shared) (σ : St) (H : Hp) (E : Value -> Shared -> Prop), Inv X pins σ H s -> (∀ b ∈ fp, FpOk X pins H b) -> tn i s.heap -> J.stop i H ->
    wpAny (model P w) X.A (pyNext (.ref it)) (fun r s1 => r = none /\ Inv X pins σ H s1) E s
  self : ∀ (A : Around) (i : Nat) (s : Shared) (Q : Value -> Shared -> Prop) (E : Value -> Shared -> Prop), tn i s.heap -> Q (.ref it) s -> wpAny (model P w) A (pyIter (.ref it)) Q E s
abbrev TI := St -> Hp -> (It -> Hp -> Prop) -> Prop
def PIE (X : Cx) (pins : List (Addr × Obj)) (σ : St) (tg : Expr) (R : It -> Hp -> Prop) (itv : Value) (s2 : Shared) : Prop :=
  ∃ (it : Addr) (fp : List Addr) (tn : Nat -> Heap -> Prop) (J : It) (H' : Hp), itv = .ref it /\ Inv X pins σ H' s2 /\ Turn X.prog X.w X.K tg J fp it tn /\ tn 0 s2.heap /\ (∀ b ∈ fp, FpOk X pins H' b) /\ R J H'
def PI (X : Cx) (tg iter : Expr) (wi : TI) : Prop :=
  ∀ (pins : List (Addr × Obj)) (s : Shared) (σ : St) (H : Hp) (R : It -> Hp -> Prop), Inv X pins σ H s -> wi σ H R ->
    wpAny (model X.prog X.w) X.A (eval iter X.env) (fun v s1 => wpAny (model X.prog X.w) X.A (pyIter v) (PIE X pins σ tg R) X.xe s1) X.xe s
theorem go_of {M : Model} {A : Around} {E : Value -> Shared -> Prop} {s : Shared} {tg : Expr} {it : Addr} {u : Value} {o : Obj} {n : String} {vs : Array Value} {Q : Unit -> Shared -> Prop} (ho : s.heap.get? it = some o) (hc : o.cls = .type n) (hd : o.data = .fields vs)
    (hn : ["enumerate", "zip", "dict_itemiterator", "dict_reverseitemiterator", "odict_iterator", "itertools.zip_longest", "itertools.pairwise"].contains n = false) (hQ : Q () s) : wpAny M A (letOwnedTupleGo tg (.ref it) u) Q E s := by
  unfold letOwnedTupleGo
  cases tg <;> first
    | exact wpAny_pure hQ
    | (cases u <;> first
        | exact wpAny_pure hQ
        | (refine wpAny_bind (wpAny_load ho ?_)
           rw [hc, hd]
           show wpAny M A (if (["enumerate", "zip", "dict_itemiterator", "dict_reverseitemiterator", "odict_iterator", "itertools.zip_longest", "itertools.pairwise"].contains n && vs[0]? == some (rawInt _)) = true then _ else _) Q E s
           rw [if_neg (by intro h; rw [hn, Bool.false_and] at h; cases h)]
           exact wpAny_pure hQ))
def Itl (K : PySem.W.Frag) (a : Addr) : It :=
  ⟨fun i H => ∃ xs x, SqL K H a xs /\ xs[i]? = some x, fun i H x H' => H' = H /\ ∀ xs, SqL K H a xs -> xs[i]? = some x, fun i H => ∃ xs, SqL K H a xs /\ xs.length <= i⟩
def Itr (lo : Int) (n : Nat) : It := ⟨fun i _ => i < n, fun i H x H' => H' = H /\ x = .int (lo + i), fun i _ => n <= i⟩
theorem turn_list {P : Program} {w : World} {K : PySem.W.Frag} {tg : Expr} (a it : Addr) : Turn P w K tg (Itl K a) [it] it (fun i h => h.IsListIter it a i) where
  mem := by simp
  obj := fun i h st b hb => by
    have e : b = it := by simpa using hb
    subst e
    obtain ⟨o, e, c, d⟩ := st
    exact ⟨o, e, fun v z => by rw [d] at z; cases z⟩
  keep := fun i h h' st k => st.at fun o e => k it (by simp) o e
  item := by
    intro X hP hw hK hc i pins s σ H E I hf st hg
    subst hP hw hK
    obtain ⟨xs, x, hq, hx⟩ := hg
    obtain ⟨its, rv, p, hz⟩ := I.list hq
    obtain ⟨u, hu, ru⟩ := rv.get hx
    obtain ⟨f0, f1, f2, f3, f4, f5⟩ := hf it (by simp)
    refine wpAny_pyNext_list_item st p.isList (x := u) (by simpa using hu) fun h' st' sb => ?_
    have I1 : Inv X pins σ H { s with heap := h' } := I.turned (t' := s.toks) (fun b o hb e => (sb.2 b hb).trans e) f0 f1 f3 f4 f5
    obtain ⟨o, e, c, d⟩ := id st'
    exact ⟨u, rfl, go_of (s := { s with heap := h' }) e c d (by decide) ⟨x, H, I1, ru, ⟨rfl, fun ys hy => by rw [I.list_inj hy hq]; exact hx⟩, st', fun b hb => (hf b hb).1⟩⟩
  done := by
    intro X hP hw hK hc i pins s σ H E I hf st hg
    subst hP hw hK
    obtain ⟨xs, hq, hx⟩ := hg
    obtain ⟨its, rv, p, hz⟩ := I.list hq
    obtain ⟨f0, f1, f2, f3, f4, f5⟩ := hf it (by simp)
    have hl := rv.length
    exact wpAny_pyNext_list_end (I.ok.hd hc) st p.isList (by simp; omega) fun h' eb => ⟨rfl, I.turned (t' := s.toks) (fun b o hb e => eb b o hb e) f0 f1 f3 f4 f5⟩
  self := fun _ _ _ _ _ st h => wpAny_pyIter_listiter st h
theorem turn_range {P : Program} {w : World} {K : PySem.W.Frag} {tg : Expr} (it : Addr) (lo : Int) (n : Nat) : Turn P w K tg (Itr lo n) [it] it (fun i h => IsRangeIter h it (lo + (i : Nat) * 1) ((n : Int) - (i : Nat)) 1) where
  mem := by simp
  obj := fun i h st b hb => by
    have e : b = it := by simpa using hb
    subst e
    exact ⟨_, st, fun v z => by
      have z' : Data.fields _ = Data.cell v := z
      cases z'⟩
  keep := fun i h h' st k => k it (by simp) _ st
  item := by
    intro X hP hw hK hc i pins s σ H E I hf st hg
    subst hP hw hK
    obtain ⟨f0, f1, f2, f3, f4, f5⟩ := hf it (by simp)
    have W := Walks.range (prog := X.prog) (w := X.w) (I.ok.hd hc) it lo 1 n
    refine W.item i s _ _ hg st fun v h' tk hv st' kk => ?_
    obtain ⟨t, rfl⟩ := hv
    have I1 : Inv X pins σ H { s with heap := h', toks := tk } := I.turned (fun b o hb e => kk b o (by simpa using hb) e) f0 f1 f3 f4 f5
    refine ⟨_, rfl, go_of (s := { s with heap := h', toks := tk }) (n := "range_iterator") st' rfl rfl (by decide) ⟨.int (lo + i), H, I1, ⟨t, ?_⟩, ⟨rfl, rfl⟩, st', fun b hb => (hf b hb).1⟩⟩
    rw [Int.mul_one]
  done := by
    intro X hP hw hK hc i pins s σ H E I hf st hg
    subst hP hw hK
    obtain ⟨f0, f1, f2, f3, f4, f5⟩ := hf it (by simp)
    exact wpAny_pyNext_range_end (I.ok.hd hc) st (by have : n <= i := hg; omega) fun h' eb => ⟨rfl, I.turned (t' := s.toks) (fun b o hb e => eb b o hb e) f0 f1 f3 f4 f5⟩
  self := fun _ _ _ _ _ st h => wpAny_pyIter_rangeiter st h
section
variable {X : Cx} {tg : Expr}
def iList (K : PySem.W.Frag) (tl : TE) : TI := fun σ H R => tl σ H fun x H1 => ∃ a, x = .ref a /\ (∃ xs, SqL K H1 a xs) /\ R (Itl K a) H1
theorem pi_list {l : Expr} {tl : TE} (hl : PE X l tl) : PI X tg l (iList X.K tl) := by
  intro pins s σ H R I h
  refine thn (hl pins s σ H _ I h) fun v s1 ⟨x, H1, I1, r1, q1⟩ => ?_
  obtain ⟨a, e, ⟨xs, hq⟩, q⟩ := q1
  subst e
  cases r1
  obtain ⟨its, rv, p, hz⟩ := I1.list hq
  refine wpAny_pyIter_list p.isList ?_
  refine ⟨s1.heap.objs.size, [s1.heap.objs.size], _, _, H1, rfl, I1.kept (t' := s1.toks) fun b o e => Heap.get?_push_of_some _ e, turn_list a _, ⟨_, Heap.get?_push_size _ rfl, rfl, rfl⟩, fun b hb => ?_, q⟩
  have e : b = s1.heap.objs.size := by simpa using hb
  subst e
  exact I1.fpOk (Nat.le_refl _) (I1.hok.fresh (Nat.le_refl _))
theorem range_it {pins : List (Addr × Obj)} {σ : St} {H : Hp} {s : Shared} {R : It -> Hp -> Prop} {E : Value -> Shared -> Prop} {lo hi : Int} {t u v : Tok} {tk : Nat} (I : Inv X pins σ H s) (h1 : -(2 ^ 62) <= lo) (h2 : lo < 2 ^ 62) (h3 : -(2 ^ 62) <= hi) (h4 : hi < 2 ^ 62)
    (q : R (Itr lo (hi - lo).toNat) H) : wpAny (model X.prog X.w) X.A (pyIter (.ref s.heap.objs.size)) (PIE X pins σ tg R) E { s with heap := s.heap.push { cls := .type "range", data := .fields #[.int lo t, .int hi u, .int 1 v] }, toks := tk } := by
  refine wpAny_pyIter_range (IsRange.new ..) (small_one h1 h2 h3 h4) ?_
  have I1 : Inv X pins σ H { s with heap := s.heap.push { cls := .type "range", data := .fields #[.int lo t, .int hi u, .int 1 v] }, toks := tk } := I.kept fun b o e => Heap.get?_push_of_some _ e
  refine ⟨(s.heap.push { cls := .type "range", data := .fields #[.int lo t, .int hi u, .int 1 v] }).objs.size, [(s.heap.push { cls := .type "range", data := .fields #[.int lo t, .int hi u, .int 1 v] }).objs.size], _, _, H, rfl,
    I1.kept (t' := tk) fun b o e => Heap.get?_push_of_some _ e, turn_range _ lo (hi - lo).toNat, ?_, fun b hb => ?_, q⟩
  . have e1 : lo + ((0 : Nat) : Int) * 1 = lo := by simp
    have e2 : (((hi - lo).toNat : Nat) : Int) - ((0 : Nat) : Int) = Builtin.Range.rangeSize lo hi 1 := by rw [rangeSize_one]; split <;> omega
    show IsRangeIter _ _ (lo + ((0 : Nat) : Int) * 1) ((((hi - lo).toNat : Nat) : Int) - ((0 : Nat) : Int)) 1
    rw [e1, e2]
    exact Heap.get?_push_size _ rfl
  . have e : b = (s.heap.push { cls := .type "range", data := .fields #[.int lo t, .int hi u, .int 1 v] }).objs.size := by simpa using hb
    subst e
    exact I1.fpOk (Nat.le_refl _) (I1.hok.fresh (Nat.le_refl _))
def iRng1 (ta : TA) : TI := fun σ H R => ta σ H fun vs H1 => ∃ j : Int, vs = [.int j] /\ -(2 ^ 62) <= j /\ j < 2 ^ 62 /\ R (Itr 0 j.toNat) H1
theorem pi_range1 {a : Expr} {ta : TA} {p pos : Pos} (hg : Gl X "range") (hm : X.mg "range" = none) (ha : PA X [a] ta) (hs : starEach [a] X.env = [(false, eval a X.env)] := by rfl) : PI X tg (.Call (.Name "range" p) [a] [] pos) (iRng1 ta) := by
  intro pins s σ H R I h
  refine Call_ (ld_blt I hg hm boot_range (PyProof.Rows.callWith_type1 (thn (ha pos pins s σ H _ I h) fun us s1 ⟨vs, H1, I1, r1, q1⟩ => ?_) hs rfl))
  obtain ⟨j, e, q1, q2, q⟩ := q1
  subst e
  cases r1 with
  | cons r rr =>
    cases rr
    obtain ⟨t, rfl⟩ := r
    exact call_range_1 (range_it I1 (by omega) (by omega) q1 q2 (by simpa using q))
def tFor (wi : TI) (g : TG) (tb : TS) : TS := fun D σ H => wi σ H fun J H1 => ∃ W : Nat -> Nat -> St -> Hp -> Prop, (∃ m, W 0 m σ H1) /\ ∀ i m σ H, W i m σ H ->
  (J.stop i H /\ D.nx σ H) \/ (J.go i H /\ ∃ N : St -> Hp -> Prop, (∀ σ' H', N σ' H' -> ∃ m', m' < m /\ W (i + 1) m' σ' H') /\ ∀ x H', J.yld i H x H' -> g x σ H' fun σ2 H2 => tb { D with nx := N, ct := N, bk := D.nx } σ2 H2)
def pinsAt (fp : List Addr) (h : Heap) : List (Addr × Obj) := fp.filterMap fun b => (h.get? b).map fun o => (b, o)
theorem mem_pinsAt {fp : List Addr} {h : Heap} {b : Addr} {o : Obj} (hb : b ∈ fp) (e : h.get? b = some o) : (b, o) ∈ pinsAt fp h := List.mem_filterMap.mpr ⟨b, hb, by rw [e]; rfl⟩
theorem of_pinsAt {fp : List Addr} {h : Heap} {p : Addr × Obj} (hp : p ∈ pinsAt fp h) : p.1 ∈ fp /\ h.get? p.1 = some p.2 := by
  obtain ⟨b, hb, e⟩ := List.mem_filterMap.mp hp
  cases q : h.get? b with
  | none => rw [q] at e; cases e
  | some o =>
    rw [q] at e
    have e' : (b, o) = p := Option.some.inj e
    subst e'
    exact ⟨hb, q⟩
theorem Inv.pinned {pins : List (Addr × Obj)} {σ : St} {H : Hp} {s : Shared} {fp : List Addr} (I : Inv X pins σ H s) (hf : ∀ b ∈ fp, FpOk X pins H b) (ho : ∀ b ∈ fp, ∃ o, s.heap.get? b = some o /\ ∀ v, o.data ≠ .cell v) : Inv X (pins ++ pinsAt fp s.heap) σ H s :=
  I.pins_of fun p hp => (List.mem_append.mp hp).elim (fun z => I.pin p (List.mem_append_right _ z)) fun z => by
    obtain ⟨hb, e⟩ := of_pinsAt z
    obtain ⟨f0, f1, f2, _⟩ := hf p.1 hb
    obtain ⟨o, e', d⟩ := ho p.1 hb
    rw [e] at e'; cases e'
    exact ⟨e, f0, f1, f2, d⟩
theorem Inv.unpinned {pins pl : List (Addr × Obj)} {σ : St} {H : Hp} {s : Shared} (I : Inv X (pins ++ pl) σ H s) : Inv X pins σ H s := I.pins_of fun p hp => I.pin p (List.mem_append_right _ (List.mem_append_left _ hp))
theorem ps_for {iter : Expr} {body : List Stmt} {wi : TI} {g : TG} {tb : TS} {pos : Pos} (hp : PassesOwn (model X.prog X.w) X.A X.env X.xe) (hc : X.calm = true) (hi : PI X tg iter wi) (hg : PG X tg g) (hb : PSs X body tb)
    (hs : ∀ x, foldedSetIterable iter X.env x = pure x := by intro _; rfl) : PS X (.For tg iter body [] pos) (tFor wi g tb) := by
  intro pins s σ H D I h
  refine wpAny_For (thn (hi pins s σ H _ I h) fun v s1 h1 => thn h1 fun itv s2 h2 => ?_) hs
  obtain ⟨it, fp, tn, J, H2, e, I2, T, st2, f2, W, ⟨m0, w0⟩, turn⟩ := h2
  subst e
  have stat : ∀ {H' : Hp}, (∀ b ∈ fp, H' b = none) -> ∀ b ∈ fp, FpOk X pins H' b := fun hn b hb => ⟨hn b hb, (f2 b hb).2⟩
  refine codeAny_forLoop_any (fun n s' => ∃ i σ' H', Inv X pins σ' H' s' /\ tn i s'.heap /\ (∀ b ∈ fp, H' b = none) /\ W i n σ' H') ?_ m0 ⟨0, σ, H2, I2, st2, fun b hb => (f2 b hb).1, w0⟩
  rintro n s3 ⟨i, σ3, H3, I3, st3, fr3, w3⟩
  rcases turn i n σ3 H3 w3 with ⟨stop, qn⟩ | ⟨go, N, hN, step⟩
  . refine wpAny_passesOwn hp (thn (T.done X rfl rfl rfl hc i pins s3 σ3 H3 X.xe I3 (stat fr3) st3 stop) fun r s4 ⟨hr, I4⟩ => ?_)
    subst hr
    exact wpAny_execs_nil ⟨σ3, H3, I4, qn⟩
  . refine wpAny_passesOwn hp (thn (T.item X rfl rfl rfl hc i pins s3 σ3 H3 X.xe I3 (stat fr3) st3 go) fun r s4 ⟨u, hr, h4⟩ => ?_)
    subst hr
    refine wpAny_passesOwn hp (thn h4 fun _ s5 ⟨x, H5, I5, r5, y5, st5, fr5⟩ => ?_)
    have I5' := I5.pinned (stat fr5) (T.obj _ _ st5)
    refine wpAny_passesOwn hp (thn (hg _ s5 σ3 H5 x u _ I5' r5 (step x H5 y5)) fun _ s6 ⟨σ6, H6, I6, q6⟩ => ?_)
    refine wpAny_passesOwn hp (thn (hb _ s6 σ6 H6 _ I6 q6) fun f s7 q7 => ?_)
    have again : ∀ {σ7 : St} {H7 : Hp}, Inv X (pins ++ pinsAt fp s5.heap) σ7 H7 s7 -> N σ7 H7 -> ∃ m, m < n /\ ∃ i σ' H', Inv X pins σ' H' s7 /\ tn i s7.heap /\ (∀ b ∈ fp, H' b = none) /\ W i m σ' H' := fun {σ7 H7} I7 n7 => by
      obtain ⟨m', hm, w7⟩ := hN σ7 H7 n7
      refine ⟨m', hm, i + 1, σ7, H7, I7.unpinned, T.keep _ _ _ st5 fun b hb o e => (I7.pin (b, o) (List.mem_append_right _ (List.mem_append_right _ (mem_pinsAt hb e)))).1, fun b hb => ?_, w7⟩
      obtain ⟨o, e, d⟩ := T.obj _ _ st5 b hb
      exact (I7.pin (b, o) (List.mem_append_right _ (List.mem_append_right _ (mem_pinsAt hb e)))).2.1
    cases f with
    | next => obtain ⟨σ7, H7, I7, n7⟩ := q7; exact again I7 n7
    | cont => obtain ⟨σ7, H7, I7, n7⟩ := q7; exact again I7 n7
    | brk => obtain ⟨σ7, H7, I7, q7⟩ := q7; exact ⟨σ7, H7, I7.unpinned, q7⟩
    | ret v => obtain ⟨x7, σ7, H7, I7, r7, q7⟩ := q7; exact ⟨x7, σ7, H7, I7.unpinned, r7, q7⟩
end
theorem for_list {K : PySem.W.Frag} {a : Addr} {xs : List V} {g : TG} {tb : TS} {D : Ends} {σ : St} {H : Hp} (Pv : Nat -> St -> Hp -> Prop) (h0 : Pv 0 σ H) (hl : ∀ i σ H, i <= xs.length -> Pv i σ H -> SqL K H a xs)
    (hs : ∀ i x σ H, xs[i]? = some x -> Pv i σ H -> g x σ H fun σ2 H2 => tb { D with nx := Pv (i + 1), ct := Pv (i + 1), bk := D.nx } σ2 H2) (hd : ∀ σ H, Pv xs.length σ H -> D.nx σ H) :
    ∃ W : Nat -> Nat -> St -> Hp -> Prop, (∃ m, W 0 m σ H) /\ ∀ i m σ H, W i m σ H ->
      ((Itl K a).stop i H /\ D.nx σ H) \/ ((Itl K a).go i H /\ ∃ N : St -> Hp -> Prop, (∀ σ' H', N σ' H' -> ∃ m', m' < m /\ W (i + 1) m' σ' H') /\ ∀ x H', (Itl K a).yld i H x H' -> g x σ H' fun σ2 H2 => tb { D with nx := N, ct := N, bk := D.nx } σ2 H2) := by
  refine ⟨fun i m σ H => m = xs.length - i /\ i <= xs.length /\ Pv i σ H, ⟨xs.length, by simp, Nat.zero_le _, h0⟩, ?_⟩
  rintro i m σ H ⟨rfl, hi, p⟩
  have q := hl i σ H hi p
  by_cases hlt : i < xs.length
  . refine .inr ⟨⟨xs, xs[i], q, by simp [hlt]⟩, Pv (i + 1), fun σ' H' p' => ⟨xs.length - (i + 1), by omega, rfl, hlt, p'⟩, fun x H' y => ?_⟩
    obtain ⟨e, y⟩ := y
    subst e
    exact hs i x σ _ (y xs q) p
  . have e : i = xs.length := by omega
    subst e
    exact .inl ⟨⟨xs, q, Nat.le_refl _⟩, hd σ H p⟩
theorem for_range {lo : Int} {n : Nat} {g : TG} {tb : TS} {D : Ends} {σ : St} {H : Hp} (Pv : Nat -> St -> Hp -> Prop) (h0 : Pv 0 σ H)
    (hs : ∀ i σ H, i < n -> Pv i σ H -> g (.int (lo + i)) σ H fun σ2 H2 => tb { D with nx := Pv (i + 1), ct := Pv (i + 1), bk := D.nx } σ2 H2) (hd : ∀ σ H, Pv n σ H -> D.nx σ H) :
    ∃ W : Nat -> Nat -> St -> Hp -> Prop, (∃ m, W 0 m σ H) /\ ∀ i m σ H, W i m σ H ->
      ((Itr lo n).stop i H /\ D.nx σ H) \/ ((Itr lo n).go i H /\ ∃ N : St -> Hp -> Prop, (∀ σ' H', N σ' H' -> ∃ m', m' < m /\ W (i + 1) m' σ' H') /\ ∀ x H', (Itr lo n).yld i H x H' -> g x σ H' fun σ2 H2 => tb { D with nx := N, ct := N, bk := D.nx } σ2 H2) := by
  refine ⟨fun i m σ H => m = n - i /\ i <= n /\ Pv i σ H, ⟨n, by simp, Nat.zero_le _, h0⟩, ?_⟩
  rintro i m σ H ⟨rfl, hi, p⟩
  by_cases hlt : i < n
  . refine .inr ⟨hlt, Pv (i + 1), fun σ' H' p' => ⟨n - (i + 1), by omega, rfl, hlt, p'⟩, fun x H' y => ?_⟩
    obtain ⟨e, y⟩ := y
    subst e y
    exact hs i σ _ hlt p
  . have e : i = n := by omega
    subst e
    exact .inl ⟨Nat.le_refl _, hd σ H p⟩
abbrev R2 := V -> V -> Hp -> VK -> Prop
def OpR (X : Cx) (f : Value -> Value -> Sem Value) (r : R2) : Prop :=
  ∀ (pins : List (Addr × Obj)) (s : Shared) (σ : St) (H : Hp) (x y : V) (v u : Value) (Q : VK), Inv X pins σ H s -> RelV x v -> RelV y u -> r x y H Q ->
    wpAny (model X.prog X.w) X.A (f v u) (EP X pins σ Q) X.xe s
def UnR (X : Cx) (f : Value -> Sem Value) (r : V -> Hp -> VK -> Prop) : Prop :=
  ∀ (pins : List (Addr × Obj)) (s : Shared) (σ : St) (H : Hp) (x : V) (v : Value) (Q : VK), Inv X pins σ H s -> RelV x v -> r x H Q ->
    wpAny (model X.prog X.w) X.A (f v) (EP X pins σ Q) X.xe s
def CallR (X : Cx) (f : Value) (r : List V -> Hp -> VK -> Prop) : Prop :=
  ∀ (pins : List (Addr × Obj)) (s : Shared) (σ : St) (H : Hp) (xs : List V) (us : List Value) (Q : VK), Inv X pins σ H s -> Vals xs us -> r xs H Q ->
    wpAny (model X.prog X.w) X.A (call f us) (EP X pins σ Q) X.xe s
def TruR (X : Cx) (r : V -> Hp -> (Bool -> Hp -> Prop) -> Prop) : Prop :=
  ∀ (pins : List (Addr × Obj)) (s : Shared) (σ : St) (H : Hp) (x : V) (v : Value) (Q : Bool -> Hp -> Prop), Inv X pins σ H s -> RelV x v -> r x H Q ->
    wpAny (model X.prog X.w) X.A (truthy v) (TP X pins σ Q) X.xe s
def tOp (r : R2) (ta tb : TE) : TE := fun σ H Q => ta σ H fun x H1 => tb σ H1 fun y H2 => r x y H2 Q
def tUn (r : V -> Hp -> VK -> Prop) (ta : TE) : TE := fun σ H Q => ta σ H fun x H1 => r x H1 Q
def rI (C : Int -> Int -> Prop) (g : Int -> Int -> V) : R2 := fun x y H Q => ∃ i j, x = .int i /\ y = .int j /\ C i j /\ Q (g i j) H
def rI0 (g : Int -> Int -> V) : R2 := fun x y H Q => ∃ i j, x = .int i /\ y = .int j /\ Q (g i j) H
def rU (g : Int -> V) : V -> Hp -> VK -> Prop := fun x H Q => ∃ i, x = .int i /\ Q (g i) H
section
variable {X : Cx} {a b c : Expr} {ta tb tc : TE} {pos : Pos}
theorem binT (ha : PE X a ta) (hb : PE X b tb) {pins : List (Addr × Obj)} {s : Shared} {σ : St} {H : Hp} {R : V -> V -> Hp -> Prop} (I : Inv X pins σ H s)
    (h : ta σ H fun x H1 => tb σ H1 fun y H2 => R x y H2) {Q : Value -> Shared -> Prop} {f : Value -> Value -> Sem Value}
    (hf : ∀ v u s2 x y H2, Inv X pins σ H2 s2 -> RelV x v -> RelV y u -> R x y H2 -> wpAny (model X.prog X.w) X.A (f v u) Q X.xe s2) :
    wpAny (model X.prog X.w) X.A (eval a X.env) (fun v s₁ => wpAny (model X.prog X.w) X.A (eval b X.env) (fun u s₂ => wpAny (model X.prog X.w) X.A (f v u) Q X.xe s₂) X.xe s₁) X.xe s := by
  refine thn (ha pins s σ H _ I h) fun v s1 ⟨x, H1, I1, r1, q1⟩ => ?_
  refine thn (hb pins s1 σ H1 _ I1 q1) fun u s2 ⟨y, H2, I2, r2, q2⟩ => ?_
  exact hf v u s2 x y H2 I2 r1 r2 q2
theorem pe_op {op : Operator} {r : R2} (ho : OpR X (binaryOp op) r) (ha : PE X a ta) (hb : PE X b tb) : PE X (.BinOp a op b pos) (tOp r ta tb) := by
  intro pins s σ H Q I h
  exact wpAny_BinOp (binT ha hb I h fun v u s2 x y H2 I2 rx ry q => ho pins s2 σ H2 x y v u Q I2 rx ry q)
theorem pe_un {op : UnaryOp} {r : V -> Hp -> VK -> Prop} (ho : UnR X (unaryOp op) r) (ha : PE X a ta) : PE X (.UnaryOp op a pos) (tUn r ta) := by
  intro pins s σ H Q I h
  exact UnaryOp_ (thn (ha pins s σ H _ I h) fun v s1 ⟨x, H1, I1, r1, q1⟩ => ho pins s1 σ H1 x v Q I1 r1 q1)
theorem opI {f : Value -> Value -> Sem Value} {C : Int -> Int -> Prop} {g : Int -> Int -> Int}
    (rule : ∀ (i j : Int) (t u : Tok) (s : Shared) (Q : Value -> Shared -> Prop) (E : Value -> Shared -> Prop), C i j -> Q (.int (g i j) s.toks) { s with toks := s.toks + 1 } -> wpAny (model X.prog X.w) X.A (f (.int i t) (.int j u)) Q E s) :
    OpR X f (rI C fun i j => .int (g i j)) := by
  intro pins s σ H x y v u Q I rx ry h
  obtain ⟨i, j, rfl, rfl, hc, q⟩ := h
  obtain ⟨t, rfl⟩ := rx
  obtain ⟨t', rfl⟩ := ry
  exact rule i j t t' s _ _ hc ⟨.int (g i j), H, I.tok _, ⟨_, rfl⟩, q⟩
theorem opI0 {f : Value -> Value -> Sem Value} {g : Int -> Int -> Int}
    (rule : ∀ (i j : Int) (t u : Tok) (s : Shared) (Q : Value -> Shared -> Prop) (E : Value -> Shared -> Prop), Q (.int (g i j) s.toks) { s with toks := s.toks + 1 } -> wpAny (model X.prog X.w) X.A (f (.int i t) (.int j u)) Q E s) :
    OpR X f (rI0 fun i j => .int (g i j)) := by
  intro pins s σ H x y v u Q I rx ry h
  obtain ⟨i, j, rfl, rfl, q⟩ := h
  obtain ⟨t, rfl⟩ := rx
  obtain ⟨t', rfl⟩ := ry
  exact rule i j t t' s _ _ ⟨.int (g i j), H, I.tok _, ⟨_, rfl⟩, q⟩
theorem opB0 {f : Value -> Value -> Sem Value} {g : Int -> Int -> Bool}
    (rule : ∀ (i j : Int) (t u : Tok) (s : Shared) (Q : Value -> Shared -> Prop) (E : Value -> Shared -> Prop), Q (.bool (g i j)) s -> wpAny (model X.prog X.w) X.A (f (.int i t) (.int j u)) Q E s) :
    OpR X f (rI0 fun i j => .bl (g i j)) := by
  intro pins s σ H x y v u Q I rx ry h
  obtain ⟨i, j, rfl, rfl, q⟩ := h
  obtain ⟨t, rfl⟩ := rx
  obtain ⟨t', rfl⟩ := ry
  exact rule i j t t' s _ _ ⟨.bl (g i j), H, I, rfl, q⟩
def CPow (i j : Int) : Prop := 0 <= j /\ j <= 1000000 /\ i.natAbs < 2 ^ 64
def CMul (i j : Int) : Prop := (-(2 ^ 64) < i /\ i < 2 ^ 64) \/ (-(2 ^ 64) < j /\ j < 2 ^ 64)
theorem op_add : OpR X (binaryOp .Add) (rI0 fun i j => .int (i + j)) := opI0 fun _ _ _ _ _ _ _ q => add_int q
theorem op_sub : OpR X (binaryOp .Sub) (rI0 fun i j => .int (i - j)) := opI0 fun _ _ _ _ _ _ _ q => sub_int q
theorem op_mod : OpR X (binaryOp .Mod) (rI (fun _ j => 0 < j) fun i j => .int (i % j)) := opI fun i j _ _ _ _ _ hc q => by
  have h1 : (0 : Int) < j := hc
  exact mod_int' (by omega) (by rw [Int.fmod_eq_emod_of_nonneg i (by omega)]; exact q)
theorem op_modN : OpR X (binaryOp .Mod) (rI (fun _ j => j ≠ 0) fun i j => .int (i.fmod j)) := opI fun _ _ _ _ _ _ _ hc q => mod_int' hc q
theorem op_pow : OpR X (binaryOp .Pow) (rI CPow fun i j => .int (i ^ j.toNat)) := opI fun _ _ _ _ _ _ _ hc q => pow_int_small hc.1 hc.2.1 hc.2.2 q
theorem unI {f : Value -> Sem Value} {g : Int -> Int}
    (rule : ∀ (i : Int) (t : Tok) (s : Shared) (Q : Value -> Shared -> Prop) (E : Value -> Shared -> Prop), Q (.int (g i) s.toks) { s with toks := s.toks + 1 } -> wpAny (model X.prog X.w) X.A (f (.int i t)) Q E s) :
    UnR X f (rU fun i => .int (g i)) := by
  intro pins s σ H x v Q I rx h
  obtain ⟨i, rfl, q⟩ := h
  obtain ⟨t, rfl⟩ := rx
  exact rule i t s _ _ ⟨.int (g i), H, I.tok _, ⟨_, rfl⟩, q⟩
theorem un_neg : UnR X (unaryOp .USub) (rU fun i => .int (-i)) := unI fun _ _ _ _ _ q => neg_int q
end
def scal : V -> V -> Bool
  | .non, .non => true | .non, .int _ => true | .int _, .non => true | .non, .bl _ => true | .bl _, .non => true | .non, .str _ => true | .str _, .non => true
  | .int _, .int _ => true | .bl _, .bl _ => true | .str _, .str _ => true | .byt _, .byt _ => true
  | .int _, .str _ => true | .str _, .int _ => true | .bl _, .str _ => true | .str _, .bl _ => true
  | _, _ => false
def rEq : R2 := fun x y H Q => scal x y = true /\ Q (.bl (decide (x = y))) H
def rNe : R2 := fun x y H Q => scal x y = true /\ Q (.bl (!decide (x = y))) H
theorem dec_int {i j : Int} : decide (V.int i = V.int j) = (i == j) := by
  rw [Bool.eq_iff_iff]
  simp
theorem dec_bl {i j : Bool} : decide (V.bl i = V.bl j) = (i == j) := by
  rw [Bool.eq_iff_iff]
  simp
theorem dec_str {i j : Str} : decide (V.str i = V.str j) = (i == j) := by
  rw [Bool.eq_iff_iff]
  simp
theorem dec_byt {i j : Array UInt8} : decide (V.byt i = V.byt j) = (i.toList == j.toList) := by
  rw [Bool.eq_iff_iff]
  cases i
  cases j
  simp
section
variable {X : Cx} {a b c : Expr} {ta tb tc : TE} {pos : Pos}
theorem fin_bl {pins : List (Addr × Obj)} {σ : St} {H : Hp} {s : Shared} {Q : VK} {k k' : Bool} (I : Inv X pins σ H s) (q : Q (.bl k) H) (e : k = k') : EP X pins σ Q (.bool k') s := by
  subst e
  exact ⟨.bl k, H, I, rfl, q⟩
theorem op_eq : OpR X (compareOp .Eq) rEq := by
  intro pins s σ H x y v u Q I rx ry h
  obtain ⟨hs, q⟩ := h
  cases x with
  | non =>
    cases rx
    cases y with
    | non => cases ry; exact PySem.EqNone.eq_none_none (fin_bl I q (by simp))
    | bl j => cases ry; exact PySem.EqNone.eq_none_bool (fin_bl I q (by simp))
    | int j => obtain ⟨t', rfl⟩ := ry; exact PySem.EqNone.eq_none_int (fin_bl I q (by simp))
    | str j => obtain ⟨t', rfl⟩ := ry; exact PySem.EqNone.eq_none_str (fin_bl I q (by simp))
    | _ => exact absurd (show false = true from hs) Bool.false_ne_true
  | bl i =>
    cases rx
    cases y with
    | non => cases ry; exact PySem.EqNone.eq_bool_none (fin_bl I q (by simp))
    | bl j => cases ry; exact eq_bool (fin_bl I q dec_bl)
    | str j => obtain ⟨t', rfl⟩ := ry; exact PySem.EqMixed.eq_bool_str (fin_bl I q (by simp))
    | _ => exact absurd (show false = true from hs) Bool.false_ne_true
  | int i =>
    obtain ⟨t, rfl⟩ := rx
    cases y with
    | non => cases ry; exact PySem.EqNone.eq_int_none (fin_bl I q (by simp))
    | int j => obtain ⟨t', rfl⟩ := ry; exact eq_int (fin_bl I q dec_int)
    | str j => obtain ⟨t', rfl⟩ := ry; exact PySem.EqMixed.eq_int_str (fin_bl I q (by simp))
    | _ => exact absurd (show false = true from hs) Bool.false_ne_true
  | str i =>
    obtain ⟨t, rfl⟩ := rx
    cases y with
    | non => cases ry; exact PySem.EqNone.eq_str_none (fin_bl I q (by simp))
    | bl j => cases ry; exact PySem.EqMixed.eq_str_bool (fin_bl I q (by simp))
    | int j => obtain ⟨t', rfl⟩ := ry; exact PySem.EqMixed.eq_str_int (fin_bl I q (by simp))
    | str j => obtain ⟨t', rfl⟩ := ry; exact eq_str (fin_bl I q dec_str)
    | _ => exact absurd (show false = true from hs) Bool.false_ne_true
  | byt i =>
    obtain ⟨t, rfl⟩ := rx
    cases y with
    | byt j => obtain ⟨t', rfl⟩ := ry; exact PySem.W.eq_bytes (fin_bl I q dec_byt)
    | _ => exact absurd (show false = true from hs) Bool.false_ne_true
  | _ => cases y <;> exact absurd (show false = true from hs) Bool.false_ne_true
theorem op_ne : OpR X (compareOp .NotEq) rNe := by
  intro pins s σ H x y v u Q I rx ry h
  obtain ⟨hs, q⟩ := h
  cases x with
  | non =>
    cases rx
    cases y with
    | non => cases ry; exact PySem.EqNone.ne_none_none (fin_bl I q (by simp))
    | bl j => cases ry; exact PySem.EqNone.ne_none_bool (fin_bl I q (by simp))
    | int j => obtain ⟨t', rfl⟩ := ry; exact PySem.EqNone.ne_none_int (fin_bl I q (by simp))
    | str j => obtain ⟨t', rfl⟩ := ry; exact PySem.EqNone.ne_none_str (fin_bl I q (by simp))
    | _ => exact absurd (show false = true from hs) Bool.false_ne_true
  | bl i =>
    cases rx
    cases y with
    | non => cases ry; exact PySem.EqNone.ne_bool_none (fin_bl I q (by simp))
    | bl j => cases ry; exact ne_bool (fin_bl I q (congrArg not dec_bl))
    | str j => obtain ⟨t', rfl⟩ := ry; exact PySem.EqMixed.ne_bool_str (fin_bl I q (by simp))
    | _ => exact absurd (show false = true from hs) Bool.false_ne_true
  | int i =>
    obtain ⟨t, rfl⟩ := rx
    cases y with
    | non => cases ry; exact PySem.EqNone.ne_int_none (fin_bl I q (by simp))
    | int j => obtain ⟨t', rfl⟩ := ry; exact ne_int (fin_bl I q (congrArg not dec_int))
    | str j => obtain ⟨t', rfl⟩ := ry; exact PySem.EqMixed.ne_int_str (fin_bl I q (by simp))
    | _ => exact absurd (show false = true from hs) Bool.false_ne_true
  | str i =>
    obtain ⟨t, rfl⟩ := rx
    cases y with
    | non => cases ry; exact PySem.EqNone.ne_str_none (fin_bl I q (by simp))
    | bl j => cases ry; exact PySem.EqMixed.ne_str_bool (fin_bl I q (by simp))
    | int j => obtain ⟨t', rfl⟩ := ry; exact PySem.EqMixed.ne_str_int (fin_bl I q (by simp))
    | str j => obtain ⟨t', rfl⟩ := ry; exact ne_str (fin_bl I q (congrArg not dec_str))
    | _ => exact absurd (show false = true from hs) Bool.false_ne_true
  | byt i =>
    obtain ⟨t, rfl⟩ := rx
    cases y with
    | byt j => obtain ⟨t', rfl⟩ := ry; exact PySem.W.ne_bytes (fin_bl I q (congrArg not dec_byt))
    | _ => exact absurd (show false = true from hs) Bool.false_ne_true
  | _ => cases y <;> exact absurd (show false = true from hs) Bool.false_ne_true
theorem op_lt : OpR X (compareOp .Lt) (rI0 fun i j => .bl (decide (i < j))) := opB0 fun _ _ _ _ _ _ _ q => lt_int q
theorem op_gt : OpR X (compareOp .Gt) (rI0 fun i j => .bl (decide (j < i))) := opB0 fun _ _ _ _ _ _ _ q => gt_int q
theorem op_ge : OpR X (compareOp .GtE) (rI0 fun i j => .bl (decide (j <= i))) := opB0 fun _ _ _ _ _ _ _ q => ge_int q
theorem op_isN : OpR X (compareOp .Is) (fun x y H Q => y = .non /\ Q (.bl (decide (x = .non))) H) := by
  intro pins s σ H x y v u Q I rx ry h
  obtain ⟨rfl, q⟩ := h
  cases ry
  refine is_none_gen (fin_bl I q ?_)
  cases x <;> first
    | (cases rx; rfl)
    | (obtain ⟨t, rfl⟩ := rx; rfl)
theorem op_notN : OpR X (compareOp .IsNot) (fun x y H Q => y = .non /\ Q (.bl (!decide (x = .non))) H) := by
  intro pins s σ H x y v u Q I rx ry h
  obtain ⟨rfl, q⟩ := h
  cases ry
  refine isnot_none_gen (fin_bl I q ?_)
  cases x <;> first
    | (cases rx; rfl)
    | (obtain ⟨t, rfl⟩ := rx; rfl)
theorem nomark (b : Expr) {op : CmpOp} (h : op ≠ .In := by decide) (h2 : op ≠ .NotIn := by decide) : behindInMarks op b = false := by
  have e1 : (op == CmpOp.In) = false := by cases op <;> first | rfl | exact absurd rfl h
  have e2 : (op == CmpOp.NotIn) = false := by cases op <;> first | rfl | exact absurd rfl h2
  cases b <;> simp [behindInMarks, e1, e2]
theorem pe_cmpR {op : CmpOp} {r : R2} (ho : OpR X (compareOp op) r) (ha : PE X a ta) (hb : PE X b tb) (hm : behindInMarks op b = false) : PE X (.Compare a [op] [b] pos) (tOp r ta tb) := by
  intro pins s σ H Q I h
  exact wpAny_Compare1 (binT ha hb I h fun v u s2 x y H2 I2 rx ry q => ho pins s2 σ H2 x y v u Q I2 rx ry q) hm
def tTest (t : TE) : TT := fun σ H Q => t σ H fun x H' => ∃ k, x = .bl k /\ Q k H'
theorem pt_cmpR {op : CmpOp} {r : R2} (ho : OpR X (compareOp op) r) (ha : PE X a ta) (hb : PE X b tb) (hm : behindInMarks op b = false) : PT X (.Compare a [op] [b] pos) (tTest (tOp r ta tb)) := by
  intro pins s σ H Q I h
  refine wpAny_isTrue_Compare1 (thn (ha pins s σ H _ I h) fun v s1 ⟨x, H1, I1, r1, q1⟩ => thn (hb pins s1 σ H1 _ I1 q1) fun u s2 ⟨y, H2, I2, r2, q2⟩ =>
    thn (ho pins s2 σ H2 x y v u _ I2 r1 r2 q2) fun c s3 ⟨z, H3, I3, r3, k, e, q3⟩ => ?_) hm
  subst e
  cases r3
  exact wpAny_truthy_bool ⟨H3, I3, q3⟩
def TruV (K : PySem.W.Frag) (x : V) (H : Hp) (k : Bool) : Prop :=
  match x with
  | .non => k = false
  | .bl b => k = b
  | .int i => k = (i != 0)
  | .str y => y.length <= sizeLine /\ k = ((y.length : Int) != 0)
  | .byt y => y.size <= sizeLine /\ k = ((y.size : Int) != 0)
  | .ref p => (∃ xs, SqL K H p xs /\ k = !xs.isEmpty) \/ (∃ xs, SqT K H p xs /\ k = !xs.isEmpty) \/ ∃ kvs, H p = some (.dK kvs) /\ k = !kvs.isEmpty
  | _ => False
theorem isEmpty_kv {κ : Type} {kvs : List (κ × V)} {vs : List (κ × Value)} (r : KV kvs vs) : (!vs.isEmpty) = !kvs.isEmpty := by
  cases r <;> rfl
theorem isEmpty_of {xs : List V} {its : List Value} (r : Vals xs its) : (!its.toArray.isEmpty) = !xs.isEmpty := by
  cases r <;> simp
theorem line63 : (sizeLine : Nat) < 2 ^ 63 := by rw [sizeLine_eq]; decide
theorem tru_ok : TruR X (fun x H Q => ∃ k, TruV X.K x H k /\ Q k H) := by
  intro pins s σ H x v Q I rx h
  obtain ⟨k, e, q⟩ := h
  have hl := line63
  have hs : sizeLine = 16777216 := sizeLine_eq
  cases x with
  | non =>
    cases rx
    have e' : k = false := e
    subst e'
    exact truthy_none ⟨H, I, q⟩
  | bl b =>
    cases rx
    have e' : k = b := e
    subst e'
    exact wpAny_truthy_bool ⟨H, I, q⟩
  | int i =>
    obtain ⟨t, rfl⟩ := rx
    have e' : k = (i != 0) := e
    subst e'
    exact PySem.P.truthy_int ⟨H, I, q⟩
  | str y =>
    obtain ⟨t, rfl⟩ := rx
    obtain ⟨hy, e'⟩ : y.length <= sizeLine /\ k = ((y.length : Int) != 0) := e
    subst e'
    exact PySem.P.truthy_str (by omega) ⟨H, I.tok _, q⟩
  | byt y =>
    obtain ⟨t, rfl⟩ := rx
    obtain ⟨hy, e'⟩ : y.size <= sizeLine /\ k = ((y.size : Int) != 0) := e
    subst e'
    exact PySem.W.truthy_bytes (by omega) ⟨H, I.tok _, q⟩
  | ref p =>
    cases rx
    have e' : (∃ xs, SqL X.K H p xs /\ k = !xs.isEmpty) \/ (∃ xs, SqT X.K H p xs /\ k = !xs.isEmpty) \/ ∃ kvs, H p = some (.dK kvs) /\ k = !kvs.isEmpty := e
    rcases e' with ⟨xs, hx, e'⟩ | ⟨xs, hx, e'⟩ | ⟨kvs, hx, e'⟩
    . subst e'
      obtain ⟨its, r, pl, hz⟩ := I.list hx
      have hlen := r.length
      exact wpAny_truthy_list pl.isList (by simp only [List.size_toArray]; omega) ⟨H, I.tok _, by rw [isEmpty_of r]; exact q⟩
    . subst e'
      obtain ⟨its, r, pl, hz⟩ := I.tuple hx
      have hlen := r.length
      exact truthy_tuple pl (by simp only [List.size_toArray]; omega) ⟨H, I.tok _, by rw [isEmpty_of r]; exact q⟩
    . subst e'
      obtain ⟨hz, hS, vs, r, m⟩ : kvs.length <= sizeLine /\ (p == sysModules) = false /\ ∃ vs, KV kvs vs /\ s.heap.DictOf (mixKind X.prog X.w) p vs := I.hok p _ hx
      have hlen : kvs.length = vs.length := Paired.length r
      exact wpAny_truthy_dict hS m (by omega) ⟨H, I.tok _, by rw [isEmpty_kv r]; exact q⟩
  | _ => exact (show False from e).elim
theorem pt_truth (ha : PE X a ta) (he : ∀ whole, isTrue a X.env whole = (do let v <- whole; standAt a.pos; holding [v] (truthy v))) :
    PT X a (fun σ H Q => ta σ H fun x H' => ∃ k, TruV X.K x H' k /\ Q k H') := by
  intro pins s σ H Q I h
  exact isTrue_plain (thn (ha pins s σ H _ I h) fun v s1 ⟨x, H1, I1, r1, q1⟩ => tru_ok pins s1 σ H1 x v Q I1 r1 q1) (he _)
theorem vals1 {x : V} {us : List Value} (r : Vals [x] us) : ∃ u, us = [u] /\ RelV x u := by
  cases r with
  | cons r1 r2 => cases r2; exact ⟨_, rfl, r1⟩
theorem vals2 {x y : V} {us : List Value} (r : Vals [x, y] us) : ∃ u w', us = [u, w'] /\ RelV x u /\ RelV y w' := by
  cases r with
  | cons r1 r2 =>
    cases r2 with
    | cons r3 r4 => cases r4; exact ⟨_, _, rfl, r1, r3⟩
theorem call_abs : CallR X (.builtin "abs") (fun xs H Q => ∃ i, xs = [.int i] /\ Q (.int (if i < 0 then -i else i)) H) := by
  intro pins s σ H xs us Q I r h
  obtain ⟨i, rfl, q⟩ := h
  obtain ⟨u, rfl, t, rfl⟩ := vals1 r
  exact call_abs_int fun u tk => ⟨.int (if i < 0 then -i else i), H, I.tok _, ⟨_, rfl⟩, q⟩
theorem call_max2 (hc : X.calm = true) : CallR X (.builtin "max") (fun xs H Q => ∃ i j, xs = [.int i, .int j] /\ Q (.int (if j > i then j else i)) H) := by
  intro pins s σ H xs us Q I r h
  obtain ⟨i, j, rfl, q⟩ := h
  obtain ⟨u, w', rfl, ⟨t, rfl⟩, ⟨t', rfl⟩⟩ := vals2 r
  refine max_two_ints (I.ok.hd hc) fun h' tk k => ⟨_, H, I.kept k, ?_, q⟩
  by_cases hj : j > i
  . rw [if_pos hj, if_pos hj]; exact ⟨_, rfl⟩
  . rw [if_neg hj, if_neg hj]; exact ⟨_, rfl⟩
theorem call_min2 (hc : X.calm = true) : CallR X (.builtin "min") (fun xs H Q => ∃ i j, xs = [.int i, .int j] /\ Q (.int (if j < i then j else i)) H) := by
  intro pins s σ H xs us Q I r h
  obtain ⟨i, j, rfl, q⟩ := h
  obtain ⟨u, w', rfl, ⟨t, rfl⟩, ⟨t', rfl⟩⟩ := vals2 r
  refine min_two_ints (I.ok.hd hc) fun h' tk k => ⟨_, H, I.kept k, ?_, q⟩
  by_cases hj : j < i
  . rw [if_pos hj, if_pos hj]; exact ⟨_, rfl⟩
  . rw [if_neg hj, if_neg hj]; exact ⟨_, rfl⟩
end
structure ObjM (h : Heap) (x dx C : Addr) (mA : Str -> Option Value) : Prop where
  obj : h.get? x = some (PySem.W.instObj C dx)
  ns : h.Ns1 dx mA
  ne : dx ≠ x
theorem lookIn_ns {h : Heap} {dx : Addr} {mA : Str -> Option Value} (n : h.Ns1 dx mA) : ∃ od, h.get? dx = some od /\ ∀ name, PySem.W.lookIn name od = some (mA name) := by
  obtain ⟨o, es, ep, ho, hd, hk, _, hm⟩ := n
  refine ⟨o, ho, fun name => ?_⟩
  have e := hm name
  unfold nsFind findBy at e
  rw [<- Array.find?_toList] at e
  unfold PySem.W.lookIn
  rw [hd]
  dsimp only
  split
  . rename_i y q
    rw [q] at e
    exact congrArg some e
  . rename_i q
    rw [q] at e
    have a : es.toList.any (·.refKey) = false := by
      rw [List.any_eq_false]
      intro y hy
      obtain ⟨z, t, hkey⟩ := hk y (Array.mem_toList_iff.mp hy)
      simp [DictEntry.refKey, hkey]
    have a' : ¬ es.toList.any (·.refKey) = true := by rw [a]; exact Bool.false_ne_true
    rw [if_neg a']
    exact congrArg some e
theorem ObjM.look {h : Heap} {x dx C : Addr} {mA : Str -> Option Value} (I : ObjM h x dx C mA) : ∃ od, PySem.W.InstAt h x (PySem.W.instObj C dx) C (some od) /\ ∀ name, PySem.W.lookIn name od = some (mA name) :=
  let ⟨od, ho, hl⟩ := lookIn_ns I.ns
  ⟨od, ⟨I.obj, rfl, rfl, ho⟩, hl⟩
section
variable {prog : Program} {w : World} {A : Around} {E : Value -> Shared -> Prop} {s : Shared} {K : PySem.W.Frag} {x dx C f : Addr} {mA : Str -> Option Value} {name : Str} {v : Value}
theorem get_meth {pl : Sem Bool} {Q : Value × List Value -> Shared -> Prop} (X : K.In s.heap) (I : ObjM s.heap x dx C mA) (hg : PySem.W.plainGet K C name = true)
    (hf : PySem.W.findIn K (.ref C) name = some (some (.ref f))) (ht : PySem.W.isFn K (.ref f) = true) (hv : mA name = none) (h : Q (.ref f, [.ref x]) s) :
    wpAny (model prog w) A (getMethod (.ref x) name pl) Q E s := by
  obtain ⟨od, J, hl⟩ := I.look
  exact PySem.W.method_fn X J (PySem.W.plainGet_of hg).1 (PySem.W.plainGet_of hg).2 hf (beq_iff_eq.mp ht) (by show (PySem.W.lookIn name od).map (·.isSome) = some false; rw [hl, hv]; rfl) h
theorem set_map {ns : List Str} {Q : Unit -> Shared -> Prop} (X : K.In s.heap) (I : ObjM s.heap x dx C mA)
    (hs : PySem.W.findIn K (.ref C) "__setattr__" = some (some (.builtin "object.__setattr__"))) (hp : PySem.W.plainOver K C = true) (ht : PySem.W.takerIn K C name = some none) (hh : PySem.W.hasDictIn K C = true)
    (hw : PySem.Within mA ns) (hsz : ns.length <= sizeLine)
    (h : ∀ h', ObjM h' x dx C (fun y => if y = name then some v else mA y) -> Heap.SameBut dx s.heap h' -> Q () { s with heap := h', toks := s.toks + 2 }) :
    wpAny (model prog w) A (setAttr (.ref x) name v) Q E s := by
  obtain ⟨od, J, hl⟩ := I.look
  refine PySem.W.set_plain X J hs (PySem.W.osa_open (s := { s with toks := s.toks + 1 }) (r := none) X J hp ht fun b => ?_)
  obtain ⟨cd, hc, hd'⟩ := PySem.W.any_some hh
  have hx : s.heap.get? x = some ⟨.ref C, some dx, .plain, #[]⟩ := I.obj
  refine wpAny_bind (wpAny_pure (wpAny_bind (wpAny_bind (wpAny_loadPart hx (wpAny_bind (PySem.W.Looks.here (s := { s with toks := s.toks + 1 }) (PySem.W.looks_clsIn X hc) ?_))))))
  rw [hd']
  refine wpAny_pure (a := some dx) (wpAny_bind (wpAny_pure (wpAny_bind ?_)))
  refine wpAny_nsSet1 (s := { s with toks := s.toks + 1 }) I.ns fun h' hn2 hs2 => ?_
  obtain ⟨oD, esD, epD, hoD, hdD, hcD⟩ := hn2.count (PySem.Within.cons name v hw)
  refine wpAny_bind (wpAny_lookBehind hoD (by rw [hdD]; exact pastItsLine_dict (Nat.le_trans hcD (by rw [List.length_cons]; omega))) ?_)
  exact wpAny_pure (h _ ⟨(hs2.2 _ (Ne.symm I.ne)).trans I.obj, hn2, I.ne⟩ hs2)
theorem make_map {R : Result -> Shared -> Prop} {vs : List Value} {kw : List (Str × Value)} (X : K.In s.heap) (hm : PySem.W.makesIn K C = true)
    (hi : PySem.W.findIn K (.ref C) "__init__" = some (some (.ref f))) (hf : PySem.W.typeIn K (.ref f) = some (.type "function"))
    (h : codeAny (model prog w) (A.under (.builtin "type.__call__" ⟨.ref C :: vs, kw⟩)) (.call (.ref f) ⟨.ref (s.heap.objs.size + 1) :: vs, kw⟩) (PySem.W.InitBack (s.heap.objs.size + 1) R)
      { s with heap := (s.heap.push PySem.W.emptyDict).push (PySem.W.instObj C s.heap.objs.size) }) :
    codeAny (model prog w) A (.call (.ref C) ⟨vs, kw⟩) R s := by
  obtain ⟨hh, g, d, t, os⟩ := s
  exact PySem.W.make_core (PySem.W.makes_of X hm) (PySem.W.looks_findIn X hi) (fun self => PySem.W.bind_fn X self hf) (.inl rfl) h
end
def putF (f : Str) (v : V) : List (Str × V) -> List (Str × V)
  | [] => [(f, v)]
  | (g, x) :: r => if g = f then (g, v) :: r else (g, x) :: putF f v r
theorem lookup_putF (f g : Str) (v : V) : ∀ fs : List (Str × V), (putF f v fs).lookup g = if g = f then some v else fs.lookup g
  | [] => by
    show List.lookup g [(f, v)] = _
    by_cases h : g = f
    . have hb : (g == f) = true := beq_iff_eq.mpr h
      simp only [List.lookup, hb, if_pos h]
    . have hb : (g == f) = false := beq_eq_false_iff_ne.mpr h
      simp only [List.lookup, hb, if_neg h]
  | (k, x) :: r => by
    have ih := lookup_putF f g v r
    rw [show putF f v ((k, x) :: r) = (if k = f then (k, v) :: r else (k, x) :: putF f v r) from rfl]
    by_cases hk : k = f
    . rw [if_pos hk]
      by_cases h : g = k
      . have hb : (g == k) = true := beq_iff_eq.mpr h
        simp only [List.lookup, hb, if_pos (h.trans hk)]
      . have hb : (g == k) = false := beq_eq_false_iff_ne.mpr h
        simp only [List.lookup, hb, if_neg (fun e : g = f => h (e.trans hk.symm))]
    . rw [if_neg hk]
      by_cases h : g = k
      . have hb : (g == k) = true := beq_iff_eq.mpr h
        simp only [List.lookup, hb, if_neg (fun e : g = f => hk (h.symm.trans e))]
      . have hb : (g == k) = false := beq_eq_false_iff_ne.mpr h
        simp only [List.lookup, hb]
        exact ih
theorem keys_putF (f : Str) (v : V) : ∀ fs : List (Str × V), f ∈ (putF f v fs).map (·.1) /\ ∀ g, g ∈ fs.map (·.1) -> g ∈ (putF f v fs).map (·.1)
  | [] => ⟨by simp [putF], fun g h => by simp at h⟩
  | (k, x) :: r => by
    obtain ⟨i1, i2⟩ := keys_putF f v r
    rw [show putF f v ((k, x) :: r) = (if k = f then (k, v) :: r else (k, x) :: putF f v r) from rfl]
    by_cases hk : k = f
    . rw [if_pos hk]
      subst hk
      exact ⟨by simp, fun g h => by simpa using h⟩
    . rw [if_neg hk]
      refine ⟨?_, fun g h => ?_⟩
      . rw [List.map_cons]
        exact List.mem_cons_of_mem _ i1
      . rw [List.map_cons] at h ⊢
        rcases List.mem_cons.mp h with e | e
        . exact List.mem_cons.mpr (.inl e)
        . exact List.mem_cons_of_mem _ (i2 g e)
theorem length_putF (f : Str) (v : V) : ∀ fs : List (Str × V), (putF f v fs).length <= fs.length + 1
  | [] => by simp [putF]
  | (k, x) :: r => by
    have ih := length_putF f v r
    rw [show putF f v ((k, x) :: r) = (if k = f then (k, v) :: r else (k, x) :: putF f v r) from rfl]
    by_cases hk : k = f
    . rw [if_pos hk, List.length_cons, List.length_cons]; omega
    . rw [if_neg hk, List.length_cons, List.length_cons]; omega
theorem RelO.none_of {o : Option Value} (r : RelO none o) : o = none := by
  cases o with
  | none => rfl
  | some u => exact (show False from r).elim
section
variable {P : Program} {w : World} {H H' : Hp} {h h' : Heap} {a C dx : Addr} {fs fs' : List (Str × V)}
theorem ins_get (hok : HOk P w H h) (e : H a = some (.ins C dx fs)) : ∃ mA, ObjM h a dx C mA /\ (∀ f, RelO (fs.lookup f) (mA f)) /\ PySem.Within mA (fs.map (·.1)) /\ fs.length <= 1000 /\ H dx = some (.own a) := by
  obtain ⟨d, z, ne, ob, mA, n, r, q⟩ := (show ObjOk P w H h a (.ins C dx fs) from hok a _ e)
  exact ⟨mA, ⟨ob, n, ne⟩, r, q, z, d⟩
end
structure Cls (K : PySem.W.Frag) (C : Addr) : Prop where
  pg : PySem.W.plainGet K C Str.empty = true
  hd : PySem.W.hasDictIn K C = true
  po : PySem.W.plainOver K C = true
  sa : PySem.W.findIn K (.ref C) "__setattr__" = some (some (.builtin "object.__setattr__"))
theorem Cls.get {K : PySem.W.Frag} {C : Addr} (c : Cls K C) (f : Str) : PySem.W.plainGet K C f = true := c.pg
def NoAttr (K : PySem.W.Frag) (C : Addr) (f : Str) : Prop := PySem.W.findIn K (.ref C) f = some none
theorem NoAttr.taker {K : PySem.W.Frag} {C : Addr} {f : Str} (n : NoAttr K C f) : PySem.W.takerIn K C f = some none := by
  unfold PySem.W.takerIn
  rw [show PySem.W.findIn K (.ref C) f = some none from n]
  rfl
structure Meth (K : PySem.W.Frag) (C : Addr) (m : Str) (f : Addr) : Prop where
  at_ : PySem.W.findIn K (.ref C) m = some (some (.ref f))
  fn : PySem.W.isFn K (.ref f) = true
  kp : PySem.W.keepIn K (.ref f) = true
section
variable {X : Cx} {pins : List (Addr × Obj)} {σ : St} {H : Hp} {s : Shared} {a C dx : Addr} {fs : List (Str × V)} {f : Str} {v : V} {A : Around} {E : Value -> Shared -> Prop}
theorem getmeth_ok {m : Str} {g : Addr} {pl : Sem Bool} {Q : Value × List Value -> Shared -> Prop} (I : Inv X pins σ H s) (e : H a = some (.ins C dx fs)) (c : Cls X.K C) (k : Meth X.K C m g) (l : fs.lookup m = none)
    (h : Q (.ref g, [.ref a]) s) : wpAny (model X.prog X.w) A (getMethod (.ref a) m pl) Q E s := by
  obtain ⟨mA, O, r, _, _, _⟩ := ins_get I.hok e
  have hn : mA m = none := RelO.none_of (by rw [<- l]; exact r m)
  exact get_meth I.kIn O (c.get m) k.at_ k.fn hn h
theorem setattr_ok {y : V} {u : Value} {Q : Unit -> Shared -> Prop} (I : Inv X pins σ H s) (e : H a = some (.ins C dx fs)) (c : Cls X.K C) (n : NoAttr X.K C f) (hl : fs.length < 1000) (ry : RelV y u)
    (h : ∀ s', Inv X pins σ (upd H a (.ins C dx (putF f y fs))) s' -> Q () s') : wpAny (model X.prog X.w) A (setAttr (.ref a) f u) Q E s := by
  obtain ⟨mA, O, r, wi, _, ho⟩ := ins_get I.hok e
  have hz : (fs.map (·.1)).length <= sizeLine := by rw [List.length_map, sizeLine_eq]; omega
  refine set_map I.kIn O c.sa c.po n.taker c.hd wi hz fun h' O' sb => h _ ?_
  have hd : ∃ o, h'.get? dx = some o := let ⟨o, _, _, e', _⟩ := O'.ns; ⟨o, e'⟩
  refine I.write (x := a) (e := dx) (by rw [e]; exact tT) (.inr ho) (fun b q hb z => (sb.2 b hb).trans z) hd ?_
  refine ⟨by rw [upd_ne O.ne]; exact ho, ?_, O.ne, O'.obj, _, O'.ns, fun g => ?_, fun g hg => ?_⟩
  . have := length_putF f y fs; omega
  . show RelO ((putF f y fs).lookup g) (if g = f then some u else mA g)
    rw [lookup_putF]
    by_cases q : g = f
    . rw [if_pos q, if_pos q]; exact ry
    . rw [if_neg q, if_neg q]; exact r g
  . by_cases q : g = f
    . rw [q]; exact (keys_putF f y fs).1
    . refine (keys_putF f y fs).2 g (wi g fun z => hg ?_)
      show (if g = f then some u else mA g) = none
      rw [if_neg q]; exact z
theorem Inv.made (I : Inv X pins σ H s) : Inv X pins σ (upd (upd H s.heap.objs.size (.own (s.heap.objs.size + 1))) (s.heap.objs.size + 1) (.ins C s.heap.objs.size []))
    { s with heap := (s.heap.push PySem.W.emptyDict).push (PySem.W.instObj C s.heap.objs.size) } := by
  have e1 : (s.heap.push PySem.W.emptyDict).get? s.heap.objs.size = some PySem.W.emptyDict := Heap.get?_push_size s.heap rfl
  have e2 : ((s.heap.push PySem.W.emptyDict).push (PySem.W.instObj C s.heap.objs.size)).get? (s.heap.objs.size + 1) = some (PySem.W.instObj C s.heap.objs.size) := by
    have := Heap.get?_push_size (s.heap.push PySem.W.emptyDict) (o := PySem.W.instObj C s.heap.objs.size) rfl
    rwa [Heap.size_push] at this
  have e3 : (s.heap.push PySem.W.emptyDict).Ns s.heap.objs.size (fun _ => none) := ⟨PySem.W.emptyDict, #[], _, e1, rfl, (fun e he => absurd he (by simp)), fun _ => rfl⟩
  have I1 := I.laid (a := s.heap.objs.size) (o := .own (s.heap.objs.size + 1)) (h' := s.heap.push PySem.W.emptyDict) (t' := s.toks) (fun b u q => Heap.get?_push_of_some _ q) (Nat.le_refl _) ⟨_, e1⟩
  refine I1.laid (a := s.heap.objs.size + 1) (o := .ins C s.heap.objs.size []) (t' := s.toks) (fun b u q => Heap.get?_push_of_some _ q) (Nat.le_of_eq (Heap.size_push _ _)) ?_
  have ne : s.heap.objs.size ≠ s.heap.objs.size + 1 := Nat.ne_of_lt (Nat.lt_succ_self _)
  refine ⟨by rw [upd_ne ne, upd_same], Nat.zero_le _, ne, e2, fun _ => none, (Heap.Ns1.of_empty e3).at fun o q => Heap.get?_push_of_some _ q, fun _ => tT, fun y hy => absurd rfl hy⟩
end
def sFld (K : PySem.W.Frag) (ta tv : TE) (f : Str) : TS := fun D σ H => tv σ H fun y H1 => ta σ H1 fun x H2 => ∃ a C dx fs, x = .ref a /\ H2 a = some (.ins C dx fs) /\ Cls K C /\ NoAttr K C f /\ fs.length < 1000 /\
  D.nx σ (upd H2 a (.ins C dx (putF f y fs)))
section
variable {X : Cx} {o e value : Expr} {f : Str} {pos pos' tpos : Pos} {ta tv : TE}
theorem ps_fld (ha : PE X o ta) (hv : PE X value tv) (hs : swapsWith value (some (.Attribute o f pos')) pos.line X.env = pure false) : PS X (.Assign [.Attribute o f pos'] value pos) (sFld X.K ta tv f) := by
  intro pins s σ H D I h
  refine plainObj_wpAny_Assign_Attribute (thn (hv pins s σ H _ I h) fun u s1 ⟨y, H1, I1, ry, q⟩ => thn (ha pins s1 σ H1 _ I1 q) fun ov s2 ⟨x, H2, I2, rx, a, C, dx, fs, ex, ea, c, n, l, q2⟩ => ?_) hs
  subst ex
  obtain rfl : ov = Value.ref a := rx
  exact setattr_ok I2 ea c n l ry fun s3 I3 => ⟨σ, _, I3, q2⟩
end
section
variable {X : Cx} {pins : List (Addr × Obj)} {σ : St} {H : Hp} {s : Shared} {A : Around} {E : Value -> Shared -> Prop} {Q : Value -> Shared -> Prop} {c : Value} {b : Bool}
inductive TyOf (K : PySem.W.Frag) (H : Hp) : V -> Value -> Prop where
  | non : TyOf K H .non (.type "NoneType")
  | bl (x : Bool) : TyOf K H (.bl x) (.type "bool")
  | int (i : Int) : TyOf K H (.int i) (.type "int")
  | str (x : Str) : TyOf K H (.str x) (.type "str")
  | flt (x : UInt64) : TyOf K H (.flt x) (.type "float")
  | lst {a : Addr} {xs : List V} (e : H a = some (.lst xs)) : TyOf K H (.ref a) (.type "list")
  | frz {a : Addr} {o : Obj} {xs : List V} (e : H a = some (.frz o (.lst xs))) : TyOf K H (.ref a) (.type "list")
  | tup {a : Addr} {xs : List V} (e : H a = some (.tup xs)) : TyOf K H (.ref a) (.type "tuple")
  | dK {a : Addr} {kvs : List (Key × V)} (e : H a = some (.dK kvs)) : TyOf K H (.ref a) (.type "dict")
  | dT {a : Addr} {kvs : List (List Key × V)} (e : H a = some (.dT kvs)) : TyOf K H (.ref a) (.type "dict")
  | ins {a C dx : Addr} {fs : List (Str × V)} (e : H a = some (.ins C dx fs)) (cl : Cls K C) (ha : PySem.W.findIn K (.ref C) "__class__" = some (some (.builtin "object.__class__")))
      (hn : PySem.W.specialIn K (.builtin "object.__class__") "__get__" = some (some (.builtin "getset_descriptor.__get__"))) (htk : PySem.W.takesIn K (.builtin "object.__class__") = some true)
      (hm : PySem.W.mroIn K C (.type "object") = some true) : TyOf K H (.ref a) (.ref C)
theorem isinst_ok {x : V} {u t : Value} (I : Inv X pins σ H s) (rx : RelV x u) (ty : TyOf X.K H x t) (e : PySem.W.kitOne X.K t c = some b) (h : ∀ tk, Q (.bool b) { s with toks := tk }) :
    wpAny (model X.prog X.w) A (call (.builtin "isinstance") [u, c]) Q E s := by
  cases ty with
  | non => cases (show u = Value.none from rx); exact PySem.W.kia_one PySem.W.kitx_none I.kIn tT e (fun z => nomatch z) h
  | bl y => cases (show u = Value.bool y from rx); exact PySem.W.kia_one PySem.W.kitx_bool I.kIn tT e (fun z => nomatch z) h
  | int i => obtain ⟨t, q⟩ := (show ∃ t, u = Value.int i t from rx); cases q; exact PySem.W.kia_one PySem.W.kitx_int I.kIn tT e (fun z => nomatch z) h
  | str y => obtain ⟨t, q⟩ := (show ∃ t, u = Value.str y t from rx); cases q; exact PySem.W.kia_one PySem.W.kitx_str I.kIn tT e (fun z => nomatch z) h
  | flt y => obtain ⟨t, q⟩ := (show ∃ t, u = Value.float y t from rx); cases q; exact PySem.W.kia_one PySem.W.kitx_float I.kIn tT e (fun z => nomatch z) h
  | @lst a xs ea =>
    cases (show u = Value.ref a from rx)
    obtain ⟨_, _, n, _, h1⟩ := (show ObjOk X.prog X.w H s.heap a (.lst xs) from I.hok a _ ea)
    exact PySem.W.kia_one PySem.W.kitx_list I.kIn ⟨_, h1, rfl⟩ e (fun z => nomatch z) h
  | @frz a ob xs ea =>
    cases (show u = Value.ref a from rx)
    obtain ⟨_, _, _, n, _, h1⟩ := (show ObjOk X.prog X.w H s.heap a (.frz ob (.lst xs)) from I.hok a _ ea)
    exact PySem.W.kia_one PySem.W.kitx_list I.kIn ⟨_, h1, rfl⟩ e (fun z => nomatch z) h
  | @tup a xs ea =>
    cases (show u = Value.ref a from rx)
    obtain ⟨_, _, _, p⟩ := (show ObjOk X.prog X.w H s.heap a (.tup xs) from I.hok a _ ea)
    obtain ⟨o, h1, h2, _⟩ := p
    exact PySem.W.kia_one PySem.W.kitx_tuple I.kIn ⟨o, h1, h2⟩ e (fun z => nomatch z) h
  | @dK a kvs ea =>
    cases (show u = Value.ref a from rx)
    obtain ⟨_, _, vs, _, p⟩ := (show ObjOk X.prog X.w H s.heap a (.dK kvs) from I.hok a _ ea)
    obtain ⟨o, es, ep, h1, h2, _⟩ := p
    exact PySem.W.kia_one PySem.W.kitx_dict I.kIn ⟨o, h1, h2.1⟩ e (fun z => nomatch z) h
  | @dT a kvs ea =>
    cases (show u = Value.ref a from rx)
    obtain ⟨_, _, xs, _, o, es, ep, h1, h2, _⟩ := (show ObjOk X.prog X.w H s.heap a (.dT kvs) from I.hok a _ ea)
    exact PySem.W.kia_one PySem.W.kitx_dict I.kIn ⟨o, h1, h2.1⟩ e (fun z => nomatch z) h
  | @ins a C dx fs ea cl ha hn htk hm =>
    cases (show u = Value.ref a from rx)
    obtain ⟨mA, O, _⟩ := ins_get I.hok ea
    obtain ⟨od, J, _⟩ := O.look
    exact PySem.W.kia_one (PySem.W.kitx_own (cl.get _) cl.hd ha hn htk hm) I.kIn J e (fun z => nomatch z) h
end
structure Room (k : Nat) (A : Around) : Prop where
  hd : A.handled = none
  dp : A.depth + 3 * k + 5 < recursionLimit
  un : A.units + 16 * k + 200 < cLine
theorem Room.mono {j k : Nat} {A : Around} (r : Room k A) (h : j <= k) : Room j A := ⟨r.hd, by have := r.dp; omega, by have := r.un; omega⟩
theorem Room.deeper {k : Nat} {A : Around} (r : Room (k + 1) A) (env : Env) : Room k (A.deeper env) :=
  ⟨r.hd, by have := r.dp; show A.depth + 1 + 3 * k + 5 < _; omega, by have := r.un; show A.units + 3 + 16 * k + 200 < _; omega⟩
theorem make_depth {A : Around} {C : Addr} {us : List Value} {kw : List (Str × Value)} : (A.under (.builtin "type.__call__" ⟨.ref C :: us, kw⟩)).depth = A.depth + 1 := by
  first | rfl | simp [Around.under, Code.weight, Code.isCreation, Code.isGuard, Code.isCaller, Code.frames, Code.isFrame, guardIds]
theorem make_units {A : Around} {C : Addr} {us : List Value} {kw : List (Str × Value)} : (A.under (.builtin "type.__call__" ⟨.ref C :: us, kw⟩)).units = A.units + 1 := by
  first | rfl | simp [Around.under, Code.cUnits, Code.frames, Code.isFrame]
theorem Room.make {k : Nat} {A : Around} (r : Room (k + 1) A) (C : Addr) (us : List Value) (kw : List (Str × Value)) : Room k (A.under (.builtin "type.__call__" ⟨.ref C :: us, kw⟩)) :=
  ⟨r.hd, by have := r.dp; rw [make_depth]; omega, by have := r.un; rw [make_units]; omega⟩
theorem Room.depth {k : Nat} {A : Around} (r : Room k A) : A.depth < recursionLimit := by have := r.dp; omega
theorem Room.units {k : Nat} {A : Around} (r : Room k A) : A.units + 64 < cLine := by have := r.un; omega
def tNil : TA := fun _ H Q => Q [] H
def tCons (ta : TE) (tr : TA) : TA := fun σ H Q => ta σ H fun x H1 => tr σ H1 fun xs H2 => Q (x :: xs) H2
section
variable {X : Cx} {e : Expr} {es : List Expr} {te : TE} {t : TA} {pos : Pos}
theorem pa_nil : PA X [] tNil := fun _ _ _ _ H Q I h => Calls.spliced_nil ⟨[], H, I, .nil, h⟩
theorem pa_cons (ha : PE X e te) (hr : PA X es t) (hs : starEach (e :: es) X.env = (false, eval e X.env) :: starEach es X.env := by rfl) : PA X (e :: es) (tCons te t) := by
  intro pos pins s σ H Q I h
  rw [hs]
  show wpAny _ _ (spliced ((false, eval e X.env) :: backTo pos (starEach es X.env))) _ _ s
  refine Calls.spliced_cons (thn (ha pins s σ H _ I h) fun u s1 ⟨x, H1, I1, r1, q1⟩ => ?_)
  exact thn (hr pos pins s1 σ H1 _ I1 q1) fun us s2 ⟨xs, H2, I2, r2, q2⟩ => ⟨x :: xs, H2, I2, .cons r1 r2, q2⟩
def tTup (t : TA) : TE := fun σ H Q => t σ H fun xs H1 => xs.length <= sizeLine /\ ∀ p, H1 p = none -> Q (.ref p) (upd H1 p (.tup xs))
def tLst (t : TA) : TE := fun σ H Q => t σ H fun xs H1 => xs.length <= sizeLine /\ ∀ p, H1 p = none -> Q (.ref p) (upd H1 p (.lst xs))
theorem pe_tup {x1} (h : PA X es t) : PE X (.Tuple es x1 pos) (tTup t) := by
  intro pins s σ H Q I hq
  refine wpAny_Tuple_spliced (thn (h pos pins s σ H _ I hq) fun us s1 ⟨xs, H1, I1, r, z, q⟩ => ⟨by rw [<- r.length]; exact z, ?_⟩)
  have hf : H1 s1.heap.objs.size = none := I1.hok.fresh (Nat.le_refl _)
  refine ⟨.ref s1.heap.objs.size, upd H1 s1.heap.objs.size (.tup xs), I1.laid (t' := s1.toks) (fun b u e => Heap.get?_push_of_some _ e) (Nat.le_refl _) ?_, rfl, q _ hf⟩
  exact ⟨z, us, r, ⟨_, Heap.get?_push_size _ rfl, rfl, _, rfl⟩⟩
theorem pe_lst (h : PA X es t) : PE X (.List es pos) (tLst t) := by
  intro pins s σ H Q I hq
  refine wpAny_List_spliced (thn (h pos pins s σ H _ I hq) fun us s1 ⟨xs, H1, I1, r, z, q⟩ => ⟨by rw [<- r.length]; exact z, ?_⟩)
  have hf : H1 s1.heap.objs.size = none := I1.hok.fresh (Nat.le_refl _)
  refine ⟨.ref s1.heap.objs.size, upd H1 s1.heap.objs.size (.lst xs), I1.laid (t' := s1.toks) (fun b u e => Heap.get?_push_of_some _ e) (Nat.le_refl _) ?_, rfl, q _ hf⟩
  exact ⟨z, us, 0, r, Heap.get?_push_size _ rfl⟩
end
abbrev Sp := List V -> Hp -> VK -> XK -> Prop
abbrev CXT := List Env -> Hp -> Shared -> XK -> Value -> Shared -> Prop
structure Env0 (P : Program) (w : World) (K : PySem.W.Frag) (mg : Str -> Option Value) (base : Heap) (A : Around) (outer : List Env) (s : Shared) (H : Hp) : Prop where
  frames : A.frames = some outer
  mod : Mod K mg base
  bs : ∀ b o, base.get? b = some o -> s.heap.get? b = some o /\ H b = none
  bsz : base.objs.size <= s.heap.objs.size
  funs : s.heap.FunFrames base outer
  frf : ∀ b ∈ frs outer, H b = none
  hok : HOk P w H s.heap
  bare : AllBare s.gens
def CE (outer : List Env) (P : Program) (w : World) (H : Hp) (s : Shared) (Q : VK) (u : Value) (s' : Shared) : Prop :=
  ∃ v H', s'.os = s.os /\ AllBare s'.gens /\ Un (frs outer) [] H H' s.heap s'.heap /\ HOk P w H' s'.heap /\ RelV v u /\ Q v H'
def CR (CX : CXT) (outer : List Env) (P : Program) (w : World) (H : Hp) (s : Shared) (Q : VK) (E : XK) (r : Result) (s' : Shared) : Prop :=
  match r with
  | .ok (.ret u) => CE outer P w H s Q u s'
  | .ok _ => False
  | .error e => CX outer H s E e s'
structure FnOk (P : Program) (w : World) (K : PySem.W.Frag) (mg : Str -> Option Value) (base : Heap) (CX : CXT) (k : Nat) (f : Addr) (fd : FuncData) (ps : List Str) (sp : Sp) : Prop where
  len : ∀ vs H Q E, sp vs H Q E -> vs.length = ps.length
  run : ∀ (A : Around) (outer : List Env) (s : Shared) (H : Hp) (args : Args) (us : List Value) (vs : List V) (Q : VK) (E : XK), Room k A -> Env0 P w K mg base A outer s H -> BindsTo s fd args (ps.zip us) -> Vals vs us -> sp vs H Q E ->
    codeAny (model P w) A (.call (.ref f) args) (CR CX outer P w H s Q E) s
theorem FnOk.mono {P : Program} {w : World} {K : PySem.W.Frag} {mg : Str -> Option Value} {base : Heap} {CX : CXT} {j k : Nat} {f : Addr} {fd : FuncData} {ps : List Str} {sp : Sp} (F : FnOk P w K mg base CX j f fd ps sp) (h : j <= k) :
    FnOk P w K mg base CX k f fd ps sp := ⟨F.len, fun A outer s H args us vs Q E hr => F.run A outer s H args us vs Q E (hr.mono h)⟩
theorem FnOk.imp {P : Program} {w : World} {K : PySem.W.Frag} {mg : Str -> Option Value} {base : Heap} {CX : CXT} {k : Nat} {f : Addr} {fd : FuncData} {ps : List Str} {sp sp' : Sp} (F : FnOk P w K mg base CX k f fd ps sp)
    (h : ∀ vs H Q E, sp' vs H Q E -> sp vs H Q E) : FnOk P w K mg base CX k f fd ps sp' :=
  ⟨fun vs H Q E q => F.len vs H Q E (h _ _ _ _ q), fun A outer s H args us vs Q E hr he hb hv hs => F.run A outer s H args us vs Q E hr he hb hv (h _ _ _ _ hs)⟩
theorem Env0.make {P : Program} {w : World} {K : PySem.W.Frag} {mg : Str -> Option Value} {base : Heap} {A : Around} {outer : List Env} {s : Shared} {H : Hp} (e : Env0 P w K mg base A outer s H) (C : Addr) (us : List Value) (kw : List (Str × Value)) :
    Env0 P w K mg base (A.under (.builtin "type.__call__" ⟨.ref C :: us, kw⟩)) outer s H := ⟨by first | exact e.frames | (simpa [Around.under, Code.envs, Code.isFrame, pushEnvs] using e.frames), e.mod, e.bs, e.bsz, e.funs, e.frf, e.hok, e.bare⟩
section
variable {X : Cx} {pins : List (Addr × Obj)} {σ : St} {H : Hp} {s s' : Shared}
theorem Inv.env0 (I : Inv X pins σ H s) : Env0 X.prog X.w X.K X.mg X.base X.A X.stack s H :=
  ⟨I.ok.frames, I.ok.mod, I.bs, Nat.le_trans I.ok.bsz I.sz, I.stack, I.stkFree, I.hok, I.bare⟩
theorem Inv.after {Q : VK} {u : Value} (I : Inv X pins σ H s) (h : CE X.stack X.prog X.w H s Q u s') : EP X pins σ Q u s' := by
  obtain ⟨v, H', os, bare, un, hok, r, q⟩ := h
  obtain ⟨hh, g, d, t, os'⟩ := s'
  obtain rfl : os' = s.os := os
  exact ⟨v, H', I.call (h' := hh) (g' := g) (d' := d) (t' := t) (ch := []) un hok bare (fun b z => absurd z (by simp)), r, q⟩
end
def tCall (sp : Sp) (dvs : List V) (E : XK) (t : TA) : TE := fun σ H Q => t σ H fun vs H1 => sp (vs ++ dvs) H1 Q E
def tMeth (C : Addr) (m : Str) (sp : Sp) (dvs : List V) (E : XK) (ta : TE) (t : TA) : TE := fun σ H Q => ta σ H fun x H1 => ∃ a dx fs, x = .ref a /\ H1 a = some (.ins C dx fs) /\ fs.lookup m = none /\
  t σ H1 fun vs H2 => sp (x :: (vs ++ dvs)) H2 Q E
def tMake (C : Addr) (sp : Sp) (dvs : List V) (E : XK) (t : TA) : TE := fun σ H Q => t σ H fun vs H1 => ∀ x dx, H1 x = none -> H1 dx = none -> dx ≠ x ->
  sp (.ref x :: (vs ++ dvs)) (upd (upd H1 dx (.own x)) x (.ins C dx [])) (fun v H2 => v = .non /\ Q (.ref x) H2) E
def Binds (K : PySem.W.Frag) (fd : FuncData) (ps : List Str) (ds : List Value) : Prop :=
  ∀ (s : Shared) (us : List Value), K.In s.heap -> (us ++ ds).length = ps.length -> BindsTo s fd ⟨us, []⟩ (ps.zip (us ++ ds))
theorem Binds.all {K : PySem.W.Frag} {fd : FuncData} {ps : List Str} (h : ∀ us : List Value, us.length = ps.length -> bindArgs fd ⟨us, []⟩ = pure (ps.zip us)) : Binds K fd ps [] := fun s us _ hl => by
  rw [List.append_nil] at hl ⊢
  exact .of_eq (h us hl)
def Passes (CX : CXT) (X : Cx) (E : XK) : Prop := ∀ (pins : List (Addr × Obj)) (σ : St) (H : Hp) (s : Shared) (e : Value) (s' : Shared), Inv X pins σ H s -> CX X.stack H s E e s' -> X.xe e s'
section
variable {X : Cx} {CX : CXT} {k : Nat} {f C : Addr} {fd : FuncData} {ps : List Str} {sp : Sp} {dvs : List V} {ds : List Value} {E : XK} {x m : Str} {p pos apos : Pos} {e o : Expr} {es : List Expr} {ta : TE} {t : TA}
theorem run_fn {pins : List (Addr × Obj)} {σ : St} {H : Hp} {s : Shared} {Q : VK} {us : List Value} {vs : List V} (F : FnOk X.prog X.w X.K X.mg X.base CX k f fd ps sp) (hr : Room k X.A) (hb : Binds X.K fd ps ds) (hd : Vals dvs ds) (hx : Passes CX X E)
    (I : Inv X pins σ H s) (r : Vals vs us) (h : sp (vs ++ dvs) H Q E) : wpAny (model X.prog X.w) X.A (call (.ref f) us) (EP X pins σ Q) X.xe s := by
  have r2 : Vals (vs ++ dvs) (us ++ ds) := r.append hd
  have hl : (us ++ ds).length = ps.length := by rw [<- r2.length]; exact F.len _ _ _ _ h
  refine wpAny_call (codeAny_mono (F.run X.A X.stack s H ⟨us, []⟩ (us ++ ds) (vs ++ dvs) Q E hr I.env0 (hb s us I.kIn hl) r2 h) fun r s' hq => ?_)
  cases r with
  | error e => exact hx pins σ H s e s' I hq
  | ok fl =>
    cases fl with
    | ret u => exact I.after hq
    | next => exact False.elim hq
    | brk => exact False.elim hq
    | cont => exact False.elim hq
theorem pe_call (F : FnOk X.prog X.w X.K X.mg X.base CX k f fd ps sp) (hr : Room k X.A) (hg : Gl X x) (hm : X.mg x = some (.ref f)) (hk : PySem.W.keepIn X.K (.ref f) = true) (hb : Binds X.K fd ps ds) (hd : Vals dvs ds) (hx : Passes CX X E)
    (ha : PA X (e :: es) t) (hdb : (x == ("__debug__" : Str)) = false := by decide) (he : starEach (e :: es) X.env = (false, eval e X.env) :: starEach es X.env := by rfl) (hpl : (backTo pos (starEach es X.env)).any (·.1) = false := by rfl) :
    PE X (.Call (.Name x p) (e :: es) [] pos) (tCall sp dvs E t) := by
  intro pins s σ H Q I h
  refine wpAny_Call_Name_kw (ld_glob I hg hm ?_ hdb)
  refine PySem.W.callWith_K (h₀ := X.base) I.ok.mod.kin hk (thn (ha pos pins s σ H _ I h) fun us s1 ⟨vs, H1, I1, r, q⟩ => ⟨I1.kIn, ?_⟩) he hpl
  exact run_fn F hr hb hd hx I1 r q
theorem pe_meth {pl : Sem Bool} (he : PE X o ta) (c : Cls X.K C) (hm : Meth X.K C m f) (F : FnOk X.prog X.w X.K X.mg X.base CX k f fd ps sp) (hr : Room k X.A) (hb : Binds X.K fd ps ds) (hd : Vals dvs ds) (hx : Passes CX X E) (ha : PA X (e :: es) t)
    (hst : starEach (e :: es) X.env = (false, eval e X.env) :: starEach es X.env := by rfl) (hpl : (backTo pos (starEach es X.env)).any (·.1) = false := by rfl)
    (ht : eval (.Call (.Attribute o m apos) (e :: es) [] pos) X.env = (do
      let ov <- eval o X.env
      standAt apos.atName
      let (f, first) <- holding [ov] (getMethod ov m pl)
      callWith pos f first (backTo pos (starEach (e :: es) X.env)) (backToKw pos (keywordEach [] X.env))) := by rfl) :
    PE X (.Call (.Attribute o m apos) (e :: es) [] pos) (tMeth C m sp dvs E ta t) := by
  intro pins s σ H Q I h
  refine PySem.W.methodCall_KW (pl := pl) (thn (he pins s σ H _ I h) fun u s1 ⟨x, H1, I1, rx, a, dx, fs, ex, ea, l, q⟩ => ?_) ht
  subst ex
  obtain rfl : u = Value.ref a := rx
  refine getmeth_ok I1 ea c hm l ?_
  refine PySem.W.callWith_K (first := [.ref a]) (h₀ := X.base) I.ok.mod.kin hm.kp (thn (ha pos pins s1 σ H1 _ I1 q) fun us s2 ⟨vs, H2, I2, r, q2⟩ => ⟨I2.kIn, ?_⟩) hst hpl
  exact run_fn (us := .ref a :: us) (vs := .ref a :: vs) F hr hb hd hx I2 (.cons rfl r) q2
structure Mk (K : PySem.W.Frag) (C f : Addr) : Prop where
  makes : PySem.W.makesIn K C = true
  init : PySem.W.findIn K (.ref C) "__init__" = some (some (.ref f))
  fn : PySem.W.isFn K (.ref f) = true
  kp : PySem.W.keepIn K (.ref C) = true
theorem run_make {pins : List (Addr × Obj)} {σ : St} {H : Hp} {s : Shared} {Q : VK} {us : List Value} {vs : List V} (M : Mk X.K C f) (F : FnOk X.prog X.w X.K X.mg X.base CX k f fd ps sp) (hr : Room (k + 1) X.A) (hb : Binds X.K fd ps ds) (hd : Vals dvs ds)
    (hx : Passes CX X E) (I : Inv X pins σ H s) (r : Vals vs us)
    (h : ∀ x dx, H x = none -> H dx = none -> dx ≠ x -> sp (.ref x :: (vs ++ dvs)) (upd (upd H dx (.own x)) x (.ins C dx [])) (fun v H2 => v = .non /\ Q (.ref x) H2) E) :
    wpAny (model X.prog X.w) X.A (call (.ref C) us) (EP X pins σ Q) X.xe s := by
  have hq := h (s.heap.objs.size + 1) s.heap.objs.size (I.hok.fresh (Nat.le_succ _)) (I.hok.fresh (Nat.le_refl _)) (Nat.ne_of_lt (Nat.lt_succ_self _))
  have I2 := Inv.made (C := C) I
  have r2 : Vals (V.ref (s.heap.objs.size + 1) :: (vs ++ dvs)) (Value.ref (s.heap.objs.size + 1) :: (us ++ ds)) := .cons rfl (r.append hd)
  have hl : (Value.ref (s.heap.objs.size + 1) :: us ++ ds).length = ps.length := by
    have e := r2.length
    rw [F.len _ _ _ _ hq] at e
    exact e.symm
  refine wpAny_call (make_map (f := f) I.kIn M.makes M.init (beq_iff_eq.mp M.fn) (codeAny_mono (F.run _ X.stack _ _ ⟨Value.ref (s.heap.objs.size + 1) :: us, []⟩ (Value.ref (s.heap.objs.size + 1) :: (us ++ ds)) _ _ E (hr.make C us [])
    (I2.env0.make C us []) (hb _ (Value.ref (s.heap.objs.size + 1) :: us) I2.kIn hl) r2 hq) fun r s' hq' => ?_))
  cases r with
  | error e => exact hx pins σ _ _ e s' I2 hq'
  | ok fl =>
    cases fl with
    | ret u =>
      obtain ⟨v, H', I3, rv, ev, q3⟩ := I2.after hq'
      subst ev
      exact ⟨rv, ⟨V.ref (s.heap.objs.size + 1), H', I3, rfl, q3⟩⟩
    | next => exact False.elim hq'
    | brk => exact False.elim hq'
    | cont => exact False.elim hq'
theorem pe_make0 (M : Mk X.K C f) (F : FnOk X.prog X.w X.K X.mg X.base CX k f fd ps sp) (hr : Room (k + 1) X.A) (hg : Gl X x) (hm : X.mg x = some (.ref C)) (hb : Binds X.K fd ps ds) (hd : Vals dvs ds) (hx : Passes CX X E)
    (hdb : (x == ("__debug__" : Str)) = false := by decide) : PE X (.Call (.Name x p) [] [] pos) (tMake C sp dvs E tNil) := by
  intro pins s σ H Q I h
  refine wpAny_Call_Name_kw (ld_glob I hg hm ?_ hdb)
  exact PySem.W.callWith_K0 I.kIn M.kp (run_make (us := []) M F hr hb hd hx I .nil h)
end
structure FnScope (N P : List Str) (sc : Scope) : Prop where
  kind : sc.kind = .function
  co : sc.isCoroutine = false
  gen : sc.isGenerator = false
  nd : N.Nodup
  pre : N.take P.length = P
  par : ∀ x ∈ P, sc.names.lookup x = some .local \/ sc.names.lookup x = some .cell
  nofree : ∀ y ∈ sc.names, y.2 ≠ .free
theorem bindL_out {kindOf : Str -> Option NameKind} {x : Str} : ∀ {binds : List (Str × Value)} {m : Str -> Option Value}, (∀ v, (x, v) ∉ binds) -> bindL kindOf binds m x = m x
  | [], _, _ => rfl
  | (n, v) :: r, m, h => by
    unfold bindL
    rw [bindL_out fun w hw => h w (List.mem_cons_of_mem _ hw)]
    split
    . have : x ≠ n := by rintro rfl; exact h v List.mem_cons_self
      simp [this]
    . rfl
theorem bindC_out {kindOf : Str -> Option NameKind} {x : Str} : ∀ {binds : List (Str × Value)} {m : Str -> Option Value}, (∀ v, (x, v) ∉ binds) -> bindC kindOf binds m x = m x
  | [], _, _ => rfl
  | (n, v) :: r, m, h => by
    unfold bindC
    rw [bindC_out fun w hw => h w (List.mem_cons_of_mem _ hw)]
    split
    . rfl
    . have : x ≠ n := by rintro rfl; exact h v List.mem_cons_self
      simp [this]
theorem bindL_get {kindOf : Str -> Option NameKind} {x : Str} {v : Value} : ∀ {P : List Str} {vs : List Value} {i : Nat} {m : Str -> Option Value}, P.Nodup -> P[i]? = some x -> vs[i]? = some v -> kindOf x = some .local ->
    bindL kindOf (P.zip vs) m x = some v
  | [], _, _, _, _, h, _, _ => by simp at h
  | _ :: _, [], _, _, _, _, h, _ => by simp at h
  | p :: P, w :: vs, 0, m, nd, h1, h2, hk => by
    simp at h1 h2; subst h1; subst h2
    show bindL kindOf ((p, w) :: P.zip vs) m p = _
    unfold bindL
    rw [bindL_out fun v hv => (List.nodup_cons.mp nd).1 (List.of_mem_zip hv).1, if_pos hk]
    simp
  | p :: P, w :: vs, i + 1, m, nd, h1, h2, hk => by
    show bindL kindOf ((p, w) :: P.zip vs) m x = _
    unfold bindL
    exact bindL_get (i := i) (List.nodup_cons.mp nd).2 (by simpa using h1) (by simpa using h2) hk
theorem bindC_get {kindOf : Str -> Option NameKind} {x : Str} {v : Value} : ∀ {P : List Str} {vs : List Value} {i : Nat} {m : Str -> Option Value}, P.Nodup -> P[i]? = some x -> vs[i]? = some v -> kindOf x ≠ some .local ->
    bindC kindOf (P.zip vs) m x = some v
  | [], _, _, _, _, h, _, _ => by simp at h
  | _ :: _, [], _, _, _, _, h, _ => by simp at h
  | p :: P, w :: vs, 0, m, nd, h1, h2, hk => by
    simp at h1 h2; subst h1; subst h2
    show bindC kindOf ((p, w) :: P.zip vs) m p = _
    unfold bindC
    rw [bindC_out fun v hv => (List.nodup_cons.mp nd).1 (List.of_mem_zip hv).1, if_neg hk]
    simp
  | p :: P, w :: vs, i + 1, m, nd, h1, h2, hk => by
    show bindC kindOf ((p, w) :: P.zip vs) m x = _
    unfold bindC
    exact bindC_get (i := i) (List.nodup_cons.mp nd).2 (by simpa using h1) (by simpa using h2) hk
def start (N : List Str) (vs : List V) : St := vs.map some ++ List.replicate (N.length - vs.length) none
def cxOf (CX : CXT) (P : Program) (w : World) (K : PySem.W.Frag) (mg : Str -> Option Value) (base : Heap) (N : List Str) (qual : Str) (scope : Scope) (f : Addr) (cd : Value) (A : Around) (outer : List Env) (s : Shared) (H : Hp) (E : XK) : Cx where
  prog := P
  w := w
  K := K
  mg := mg
  base := base
  A := A.deeper (envOfC qual scope s.heap.objs.size f cd)
  N := N
  s₀ := s
  H₀ := H
  env := envOfC qual scope s.heap.objs.size f cd
  outer := outer
  stack := envOfC qual scope s.heap.objs.size f cd :: outer
  ex := []
  calm := true
  fn := fun _ => true
  pn := []
  xe := fun e s' => wpAny (model P w) (A.deeper (envOfC qual scope s.heap.objs.size f cd)) (leaving (envOfC qual scope s.heap.objs.size f cd) e) (fun _ s'' => CX outer H s E e s'') (fun e' s'' => CX outer H s E e' s'') s'
theorem cell_has {sc : Scope} {n : Nat} {x : Str} (h : sc.names.lookup x = some .cell) : ∃ c, (cellsFrom n sc.names []).lookup x = some c := by
  have q := PySem.W.cellsFrom_some sc.names n [] (.inl h)
  exact Option.isSome_iff_exists.mp q
theorem inv_start {CX : CXT} {P : Program} {w : World} {K : PySem.W.Frag} {mg : Str -> Option Value} {base : Heap} {N ps : List Str} {qual : Str} {scope : Scope} {f : Addr} {cd : Value} {A : Around} {outer : List Env} {s s1 : Shared} {H : Hp} {E : XK} {us : List Value} {vs : List V}
    (S : FnScope N ps scope) (hd : A.handled = none) (e0 : Env0 P w K mg base A outer s H) (hl : vs.length = ps.length) (r : Vals vs us)
    (x : InCallC s s.heap.objs.size (bindL (envOfC qual scope s.heap.objs.size f cd).kindOf (ps.zip us) fun _ => none) (cellsFrom (s.heap.objs.size + 1) scope.names []) (bindC (envOfC qual scope s.heap.objs.size f cd).kindOf (ps.zip us) fun _ => none) s1) :
    Inv (cxOf CX P w K mg base N qual scope f cd A outer s H E) [] (start N vs) H s1 := by
  have hpl : ps.length <= N.length := by have := congrArg List.length S.pre; rw [List.length_take] at this; omega
  obtain ⟨h1, tk, rfl, hk⟩ := x.done
  have noA : ∀ b : Addr, b ∉ (cxOf CX P w K mg base N qual scope f cd A outer s H E).ex := fun b z => absurd (show b ∈ ([] : List Addr) from z) (by simp)
  refine ⟨⟨e0.mod, S.kind, rfl, rfl, Nat.le_refl _, fun y z c h1 h2 => ?_, fun y hy => ?_, fun y c _ h => ?_, fun _ => hd, Around.frames_deeper e0.frames, .inr ⟨rfl, rfl⟩, fun b z => absurd z (noA b), e0.bs, e0.bsz, fun b _ _ => noA b, fun b z => absurd z (noA b), e0.funs, e0.frf⟩,
    rfl, e0.bare, Un.kept hk, ⟨_, x.toInCall.ns, fun i y v h1 h2 h3 => ?_⟩, fun y c h => ⟨_, x.cell y c h⟩, e0.hok.fresh (Nat.le_refl _), fun y c h => ?_, fun p hp => absurd (show p ∈ ([] : List (Addr × Obj)) from hp) (by simp), e0.hok.kept hk, ?_⟩
  . exact name_of_addr x.apart (PySem.mem_of_lookup h1) (PySem.mem_of_lookup h2)
  . have hy : scope.names.lookup y = some .cell \/ scope.names.lookup y = some .free := hy
    rcases hy with hy | hy
    . exact cell_has hy
    . exact absurd rfl (S.nofree _ (PySem.mem_of_lookup hy))
  . exact Nat.le_of_lt (x.above y c (PySem.mem_of_lookup h))
  . have hi : i < vs.length := by
      unfold start at h2
      by_cases hi : i < vs.length
      . exact hi
      . rw [List.getElem?_append_right (by simpa using hi)] at h2
        rw [List.getElem?_replicate] at h2
        split at h2 <;> cases h2
    have ha : vs[i]? = some v := by
      unfold start at h2
      rw [List.getElem?_append_left (by simpa using hi), List.getElem?_map] at h2
      cases e : vs[i]? with
      | none => rw [e] at h2; cases h2
      | some a => rw [e] at h2; cases h2; rfl
    obtain ⟨u, hu, rv⟩ := r.get ha
    have hp : ps[i]? = some y := by
      rw [<- S.pre, List.getElem?_take_of_lt (by omega)]; exact h1
    have ndP : ps.Nodup := by rw [<- S.pre]; exact S.nd.sublist (List.take_sublist _ _)
    refine ⟨u, rv, ?_⟩
    rcases S.par y (List.mem_of_getElem? hp) with k | k
    . exact .inl ⟨k, bindL_get ndP hp hu k⟩
    . obtain ⟨c, e⟩ := cell_has (n := s.heap.objs.size + 1) k
      refine .inr ⟨.inl k, c, e, ?_⟩
      have q := x.cell y c e
      rw [bindC_get ndP hp hu (by show scope.names.lookup y ≠ _; rw [k]; decide)] at q
      exact q
  . exact e0.hok.fresh (Nat.le_of_lt (x.above y c (PySem.mem_of_lookup h)))
  . unfold start
    show _ = N.length
    rw [List.length_append, List.length_map, List.length_replicate]
    omega
theorem fn_of {CX : CXT} {P : Program} {w : World} {K : PySem.W.Frag} {mg : Str -> Option Value} {base : Heap} {k : Nat} {f : Addr} {name qual : Str} {params : Arguments} {body : List Stmt} {scope : Scope} {dV kV doc pm cdv ct oc : Value} {an od : Option Addr}
    {osl : Array (Option Value)} {N ps : List Str} {sp : Sp} (lk : K.lookup f = some ⟨oc, od, .func (PySem.W.fnOf name qual params body scope dV kV doc pm an cdv ct), osl⟩) (hcd : PySem.W.codeIn K cdv qual = true) (S : FnScope N ps scope)
    (len : ∀ vs H Q E, sp vs H Q E -> vs.length = ps.length)
    (hbody : ∀ (A : Around) (outer : List Env) (s : Shared) (H : Hp) (vs : List V) (Q : VK) (E : XK), Room k (A.deeper (envOfC qual scope s.heap.objs.size f cdv)) -> sp vs H Q E ->
      ∃ t, PSs (cxOf CX P w K mg base N qual scope f cdv A outer s H E) body t /\ t { nx := fun _ H' => Q .non H', rt := Q } (start N vs) H) :
    FnOk P w K mg base CX (k + 1) f (PySem.W.fnOf name qual params body scope dV kV doc pm an cdv ct) ps sp := by
  refine ⟨len, fun A outer s H args us vs Q E hr e0 hb r hsp => ?_⟩
  have hl := len _ _ _ _ hsp
  have KX : K.In s.heap := e0.mod.kin.keeps fun b o e => (e0.bs b o e).1
  have lim : s.heap.NoLimit := e0.mod.nolimit.keeps fun b o e => (e0.bs b o e).1
  have hkind : ∀ y ∈ ps.zip us, scope.names.lookup y.1 = some .local \/ (scope.names.lookup y.1 = some .cell /\ ((cellsFrom (s.heap.objs.size + 1) scope.names []).lookup y.1).isSome = true) := fun ⟨n, v⟩ hy => by
    rcases S.par n (List.of_mem_zip hy).1 with q | q
    . exact .inl q
    . exact .inr ⟨q, PySem.W.cellsFrom_some _ _ _ (.inl q)⟩
  refine codeAny_call_function hr.depth (KX _ _ lk) rfl S.co S.gen rfl (PySem.W.codeRec_of KX hcd) (hb _ _ _ _ ?_)
  refine wpAny_newFunctionEnv_cells S.kind hkind fun env he s1 x => ?_
  subst he
  refine ⟨lim.keeps x.toInCall.keep, codeAny_func ?_⟩
  obtain ⟨t, ht, hq⟩ := hbody A outer s H vs Q E (hr.deeper _) hsp
  have I : Inv (cxOf CX P w K mg base N qual scope f cdv A outer s H E) [] (start N vs) H s1 := inv_start S hr.hd e0 hl r x
  refine wpAny_mono (ht [] s1 (start N vs) H _ I hq) (fun fl s' hs => ?_) fun e s' hs => hs
  have fin : ∀ {σ' : St} {H' : Hp} {v : V} {u : Value}, Inv (cxOf CX P w K mg base N qual scope f cdv A outer s H E) [] σ' H' s' -> RelV v u -> Q v H' -> CE outer P w H s Q u s' :=
    fun {σ' H' v u} J rv q => ⟨v, H', J.os, J.bare, J.base, J.hok, rv, q⟩
  cases fl with
  | ret u =>
    obtain ⟨v, σ', H', J, rv, q⟩ := hs
    exact fin J rv q
  | next =>
    obtain ⟨σ', H', J, q⟩ := hs
    exact fin (v := V.non) (u := Value.none) J rfl q
  | brk =>
    obtain ⟨_, _, _, q⟩ := hs
    exact False.elim q
  | cont =>
    obtain ⟨_, _, _, q⟩ := hs
    exact False.elim q
section
variable {X : Cx} {x : Str} {p pos : Pos} {e : Expr} {es : List Expr} {t : TA} {id T : String} {r : List V -> Hp -> VK -> Prop}
def tCB (r : List V -> Hp -> VK -> Prop) (t : TA) : TE := fun σ H Q => t σ H fun vs H1 => r vs H1 Q
theorem pe_callB (hc : CallR X (.builtin id) r) (hg : Gl X x) (hm : X.mg x = none) (hv : bootBuiltins x = some (.builtin id)) (ha : PA X (e :: es) t) (hn : x ≠ "__name__" := by decide) (hdb : (x == ("__debug__" : Str)) = false := by decide)
    (he : starEach (e :: es) X.env = (false, eval e X.env) :: starEach es X.env := by rfl) (hpl : (backTo pos (starEach es X.env)).any (·.1) = false := by rfl) : PE X (.Call (.Name x p) (e :: es) [] pos) (tCB r t) := by
  intro pins s σ H Q I h
  refine wpAny_Call_Name_kw (ld_blt I hg hm hv ?_ hn hdb)
  exact PyProof.Rows.callWith_builtin1 (thn (ha pos pins s σ H _ I h) fun us s1 ⟨vs, H1, I1, r1, q1⟩ => hc pins s1 σ H1 vs us Q I1 r1 q1) he hpl
theorem pe_callTy (hc : CallR X (.type T) r) (hg : Gl X x) (hm : X.mg x = none) (hv : bootBuiltins x = some (.type T)) (ha : PA X (e :: es) t) (hn : x ≠ "__name__" := by decide) (hdb : (x == ("__debug__" : Str)) = false := by decide)
    (he : starEach (e :: es) X.env = (false, eval e X.env) :: starEach es X.env := by rfl) (hpl : (backTo pos (starEach es X.env)).any (·.1) = false := by rfl) : PE X (.Call (.Name x p) (e :: es) [] pos) (tCB r t) := by
  intro pins s σ H Q I h
  refine wpAny_Call_Name_kw (ld_blt I hg hm hv ?_ hn hdb)
  exact PyProof.Rows.callWith_type1 (thn (ha pos pins s σ H _ I h) fun us s1 ⟨vs, H1, I1, r1, q1⟩ => hc pins s1 σ H1 vs us Q I1 r1 q1) he hpl
end
end L2
namespace HT
open PySem PyProof.Rows
section
variable {prog : Program} {w : World} {A : Around} {E : Value -> Shared -> Prop} {s : Shared}
def sIx (n d : Nat) : Option Int -> Nat
  | none => d
  | some v => if v < 0 then (v + (n : Int)).toNat else min v.toNat n
end
end HT
namespace L2
open PySem PySem.Spec PyProof.Rows
abbrev TO := St -> Hp -> (Option Int -> Hp -> Prop) -> Prop
def PO (X : Cx) (e : Option Expr) (t : TO) : Prop :=
  ∀ (pins : List (Addr × Obj)) (s : Shared) (σ : St) (H : Hp) (Q : Option Int -> Hp -> Prop), Inv X pins σ H s -> t σ H Q ->
    wpAny (model X.prog X.w) X.A (evalPart e X.env) (fun u s' => ∃ o H', Inv X pins σ H' s' /\ IsPart u o /\ Q o H') X.xe s
def tNoPart : TO := fun _ H Q => Q none H
def tPart (t : TE) : TO := fun σ H Q => t σ H fun x H1 => ∃ i, x = .int i /\ Q (some i) H1
section
variable {X : Cx} {e : Expr} {te : TE} {lo hi : Option Expr} {tl th : TO} {pos p2 : Pos}
theorem po_none : PO X none tNoPart := by
  intro pins s σ H Q I h
  rw [evalPart_none]
  exact wpAny_pure ⟨none, H, I, .none, h⟩
theorem po_some (h : PE X e te) : PO X (some e) (tPart te) := by
  intro pins s σ H Q I hw
  rw [evalPart_some]
  refine thn (h pins s σ H _ I hw) fun u s1 ⟨x, H1, I1, r1, q1⟩ => ?_
  obtain ⟨i, rfl, q⟩ := q1
  obtain ⟨t, rfl⟩ := r1
  exact ⟨some i, H1, I1, .int i t, q⟩
def SlR (X : Cx) (r : V -> Option Int -> Option Int -> Hp -> VK -> Prop) : Prop :=
  ∀ (pins : List (Addr × Obj)) (s : Shared) (σ : St) (H : Hp) (x : V) (v vl vu : Value) (lo hi : Option Int) (sl : Addr) (Q : VK), Inv X pins σ H s -> RelV x v -> s.heap.IsSliceOf sl vl vu .none -> IsPart vl lo -> IsPart vu hi -> r x lo hi H Q ->
    ∃ T id, typeLookup (.type T) "__getitem__" = pure (some (.builtin id)) /\ s.TypeIs v T /\ wpAny (model X.prog X.w) X.A (getItem v (.ref sl)) (EP X pins σ Q) X.xe s
def tSl (r : V -> Option Int -> Option Int -> Hp -> VK -> Prop) (te : TE) (tl th : TO) : TE := fun σ H Q => te σ H fun x H1 => tl σ H1 fun l H2 => th σ H2 fun u H3 => r x l u H3 Q
theorem pe_slice {r : V -> Option Int -> Option Int -> Hp -> VK -> Prop} (hr : SlR X r) (he : PE X e te) (hl : PO X lo tl) (hu : PO X hi th) : PE X (.Subscript e (.Slice lo hi none p2) pos) (tSl r te tl th) := by
  intro pins s σ H Q I h
  refine Subscript_ (thn (he pins s σ H _ I h) fun v s1 ⟨x, H1, I1, r1, q1⟩ => ?_)
  refine wpAny_Slice (thn (hl pins s1 σ H1 _ I1 q1) fun vl s2 ⟨l, H2, I2, pl, q2⟩ => thn (hu pins s2 σ H2 _ I2 q2) fun vu s3 ⟨u, H3, I3, pu, q3⟩ => ?_)
  rw [evalPart_none]
  refine wpAny_pure ?_
  have I4 : Inv X pins σ H3 { s3 with heap := s3.heap.push { cls := .type "slice", data := .fields #[vl, vu, .none] } } := I3.kept (t' := s3.toks) fun b ob q => Heap.get?_push_of_some _ q
  obtain ⟨T, id, hT, ht, hg⟩ := hr pins { s3 with heap := s3.heap.push { cls := .type "slice", data := .fields #[vl, vu, .none] } } σ H3 x v vl vu l u s3.heap.objs.size Q I4 r1 (Heap.IsSliceOf.new ..) pl pu q3
  show wpAny (model X.prog X.w) X.A (subscriptTail e (.Slice lo hi none p2) v (.ref s3.heap.objs.size)) (EP X pins σ Q) X.xe { s3 with heap := s3.heap.push { cls := .type "slice", data := .fields #[vl, vu, .none] } }
  exact tail_any (ops := [.ref s3.heap.objs.size, v]) ht hT hg (by with_unfolding_all rfl)
def cutV (xs : List V) (lo hi : Option Int) : List V := (xs.drop (HT.sIx xs.length 0 lo)).take (HT.sIx xs.length xs.length hi - HT.sIx xs.length 0 lo)
theorem cutV_length (xs : List V) (lo hi : Option Int) : (cutV xs lo hi).length <= xs.length := by
  unfold cutV
  rw [List.length_take, List.length_drop]
  omega
end
def ixN (n : Nat) (i : Int) : Option Nat := if 0 <= i then (if i < n then some i.toNat else none) else if -(n : Int) <= i then some (i + n).toNat else none
def atI {α : Type} (xs : List α) (i : Int) : Option α := (ixN xs.length i).bind fun j => xs[j]?
theorem ixN_seq {n : Nat} {i : Int} {j : Nat} (h : ixN n i = some j) : seqIndex? i n = some j /\ j < n /\ -(n : Int) <= i /\ i < n := by
  unfold ixN at h
  by_cases h0 : 0 <= i
  . rw [if_pos h0] at h
    by_cases h1 : i < n
    . rw [if_pos h1] at h
      have e : i.toNat = j := Option.some.inj h
      exact ⟨by rw [seqIndex_of h0 h1, e], by omega, by omega, h1⟩
    . rw [if_neg h1] at h; cases h
  . rw [if_neg h0] at h
    by_cases h1 : -(n : Int) <= i
    . rw [if_pos h1] at h
      have e : (i + n).toNat = j := Option.some.inj h
      exact ⟨by rw [seqIndex_neg (by omega) h1, e], by omega, h1, by omega⟩
    . rw [if_neg h1] at h; cases h
theorem atI_get {α : Type} {xs : List α} {i : Int} {v : α} (h : atI xs i = some v) : ∃ j, seqIndex? i xs.length = some j /\ xs[j]? = some v /\ j < xs.length /\ -(xs.length : Int) <= i /\ i < xs.length := by
  unfold atI at h
  cases e : ixN xs.length i with
  | none => rw [e] at h; cases h
  | some j =>
    rw [e] at h
    obtain ⟨h1, h2, h3, h4⟩ := ixN_seq e
    exact ⟨j, h1, h, h2, h3, h4⟩
theorem atI_nat {α : Type} {xs : List α} {j : Nat} {v : α} (h : xs[j]? = some v) : atI xs (j : Int) = some v := by
  have hj : j < xs.length := (List.getElem?_eq_some_iff.mp h).1
  have e : ixN xs.length (j : Int) = some j := by
    unfold ixN
    rw [if_pos (by omega), if_pos (by omega)]; simp
  unfold atI; rw [e]; exact h
def PlainIx (b : Expr) : Prop := ∀ o i, subscripted b false o i = operate [o, i] (getItem o i)
def IxR (X : Cx) (r : R2) : Prop :=
  ∀ (value slice : Expr) (pins : List (Addr × Obj)) (s : Shared) (σ : St) (H : Hp) (x y : V) (v u : Value) (Q : VK), Inv X pins σ H s -> RelV x v -> RelV y u -> r x y H Q ->
    subscripted slice false v u = operate [v, u] (getItem v u) -> wpAny (model X.prog X.w) X.A (subscriptTail value slice v u) (EP X pins σ Q) X.xe s
def MtR (X : Cx) (id : String) (r : V -> List V -> Hp -> VK -> Prop) : Prop :=
  ∀ (pins : List (Addr × Obj)) (s : Shared) (σ : St) (H : Hp) (x : V) (xs : List V) (v : Value) (us : List Value) (Q : VK), Inv X pins σ H s -> RelV x v -> Vals xs us -> r x xs H Q ->
    wpAny (model X.prog X.w) X.A (call (.builtin id) (v :: us)) (EP X pins σ Q) X.xe s
section
variable {X : Cx} {a b : Expr} {ta tb : TE} {pos : Pos}
theorem IxR.or {r r' : R2} (h : IxR X r) (h' : IxR X r') : IxR X (fun x y H Q => r x y H Q \/ r' x y H Q) := by
  intro value slice pins s σ H x y v u Q I rx ry q hs
  rcases q with q | q
  . exact h value slice pins s σ H x y v u Q I rx ry q hs
  . exact h' value slice pins s σ H x y v u Q I rx ry q hs
theorem pe_ix {r : R2} (hr : IxR X r) (ha : PE X a ta) (hb : PE X b tb) (hs : PlainIx b) : PE X (.Subscript a b pos) (tOp r ta tb) := by
  intro pins s σ H Q I h
  exact Subscript_ (binT ha hb I h fun v u s2 x y H2 I2 rx ry q => hr a b pins s2 σ H2 x y v u Q I2 rx ry q (hs _ _))
def rIxL (K : PySem.W.Frag) : R2 := fun x y H Q => ∃ p xs i v, x = .ref p /\ y = .int i /\ SqL K H p xs /\ atI xs i = some v /\ Q v H
def rIxT (K : PySem.W.Frag) : R2 := fun x y H Q => ∃ p xs i v, x = .ref p /\ y = .int i /\ SqT K H p xs /\ atI xs i = some v /\ Q v H
def rIxS : R2 := fun x y H Q => ∃ z i c, x = .str z /\ y = .int i /\ z.length <= sizeLine /\ atI z.cps.toList i = some c /\ Q (.str ⟨#[c]⟩) H
theorem ix_list : IxR X (rIxL X.K) := by
  intro value slice pins s σ H x y v u Q I rx ry h hs
  obtain ⟨p, xs, i, z, rfl, rfl, hq, he, q⟩ := h
  cases rx
  obtain ⟨t, rfl⟩ := ry
  obtain ⟨its, r, pl, hz⟩ := I.list hq
  obtain ⟨j, h1, h2, h3, h4, h5⟩ := atI_get he
  obtain ⟨w, ew, rw'⟩ := r.get h2
  have hl := r.length
  have hn := line63
  have fin : EP X pins σ Q w s := ⟨z, H, I, rw', q⟩
  by_cases h0 : 0 <= i
  . have hj : i.toNat = j := by
      rw [seqIndex_of h0 h5] at h1
      exact Option.some.inj h1
    exact item_listR pl.isList h0 (by omega) (by rw [hj]; simpa using ew) fin hs
  . have hj : (i + (its.toArray.size : Int)).toNat = j := by
      rw [seqIndex_neg (by omega) h4] at h1
      rw [List.size_toArray, <- hl]
      exact Option.some.inj h1
    exact subscriptTail_builtinR (x := w) pl.isList.typeIs slot_list_getitem.lookup
      (wpAny_getItem_list_neg (Q := fun r s' => r = w /\ EP X pins σ Q r s') pl.isList (by omega) (by rw [List.size_toArray] <;> omega) (by omega) (by rw [hj]; simpa using ew) ⟨rfl, fin⟩) hs
theorem ix_tup : IxR X (rIxT X.K) := by
  intro value slice pins s σ H x y v u Q I rx ry h hs
  obtain ⟨p, xs, i, z, rfl, rfl, hq, he, q⟩ := h
  cases rx
  obtain ⟨t, rfl⟩ := ry
  obtain ⟨its, r, pl, hz⟩ := I.tuple hq
  obtain ⟨j, h1, h2, h3, h4, h5⟩ := atI_get he
  obtain ⟨w, ew, rw'⟩ := r.get h2
  have hl := r.length
  have hn := line63
  have fin : EP X pins σ Q w s := ⟨z, H, I, rw', q⟩
  exact subscriptTail_builtinR (x := w) pl.typeIs slot_tuple_getitem.lookup
    (getItem_tuple (j := j) (Q := fun r s' => r = w /\ EP X pins σ Q r s') pl (by omega) (by omega) (by rw [List.size_toArray, <- hl]; exact h1) (by simpa using ew) ⟨rfl, fin⟩) hs
theorem ix_str : IxR X rIxS := by
  intro value slice pins s σ H x y v u Q I rx ry h hs
  obtain ⟨z, i, c, rfl, rfl, hz, he, q⟩ := h
  obtain ⟨t, rfl⟩ := rx
  obtain ⟨t', rfl⟩ := ry
  obtain ⟨j, h1, h2, h3, h4, h5⟩ := atI_get he
  have hl : z.cps.toList.length = z.length := by simp [Str.length]
  rw [hl] at h1 h4 h5
  have hn := line63
  exact tail_any (typeIs_str s z t) slot_str_getitem.lookup (getItem_str (c := c) (by
    have e1 : decide (i < -(2 ^ 63 : Int)) = false := decide_eq_false (by omega)
    have e2 : decide (i ≥ 2 ^ 63) = false := decide_eq_false (by omega)
    rw [e1, e2, Bool.or_false]) (by rw [h1]; simpa using h2) ⟨.str ⟨#[c]⟩, H, I.tok _, ⟨_, rfl⟩, q⟩) hs
def rIx (K : PySem.W.Frag) : R2 := fun x y H Q => rIxL K x y H Q \/ rIxT K x y H Q \/ rIxS x y H Q
theorem ix_seq : IxR X (rIx X.K) := ix_list.or (ix_tup.or ix_str)
theorem mapSeq_set (its : List Value) (n j : Nat) (u : Value) : Obj.mapSeq (·.setIfInBounds j u) { cls := .type "list", data := .seq its.toArray n } = { cls := .type "list", data := .seq (its.set j u).toArray n } := by
  simp [Obj.mapSeq]
theorem Inv.lst {pins : List (Addr × Obj)} {σ : St} {H : Hp} {s : Shared} {p : Addr} {xs : List V} (I : Inv X pins σ H s) (h : H p = some (.lst xs)) :
    ∃ (its : List Value) (n : Nat), Vals xs its /\ s.heap.get? p = some { cls := .type "list", data := .seq its.toArray n } /\ xs.length <= sizeLine := by
  obtain ⟨z, its, n, r, e⟩ := I.hok p _ h
  exact ⟨its, n, r, e, z⟩
theorem Inv.lstUpd {pins : List (Addr × Obj)} {σ : St} {H : Hp} {s : Shared} {p : Addr} {xs ys : List V} {its its' : List Value} {n n' : Nat} {f : Obj -> Obj} (I : Inv X pins σ H s) (h : H p = some (.lst xs))
    (ho : s.heap.get? p = some { cls := .type "list", data := .seq its.toArray n }) (hf : f { cls := .type "list", data := .seq its.toArray n } = { cls := .type "list", data := .seq its'.toArray n' }) (r : Vals ys its') (hz : ys.length <= sizeLine) (t : Nat) :
    Inv X pins σ (upd H p (.lst ys)) { s with heap := s.heap.update p f, toks := t } := by
  have e : (s.heap.update p f).get? p = some { cls := .type "list", data := .seq its'.toArray n' } := by
    rw [Heap.get?_update_self f ho (by rw [hf] <;> rfl), hf]
  refine I.write (x := p) (e := p) (by rw [h]; trivial) (.inl rfl) (fun b u hb q => (Heap.get?_update_other _ _ (Ne.symm hb)).trans q) ⟨_, e⟩ ?_
  exact ⟨hz, its', n', r, e⟩
def rSetL : V -> V -> V -> Hp -> (Hp -> Prop) -> Prop := fun o i v H Q => ∃ p xs k j, o = .ref p /\ i = .int k /\ H p = some (.lst xs) /\ ixN xs.length k = some j /\ Q (upd H p (.lst (xs.set j v)))
theorem set_list : PSet X rSetL := by
  intro pins s σ H o i v ov iv u Q I ro ri rv h
  obtain ⟨p, xs, k, j, rfl, rfl, hp, hj, q⟩ := h
  cases ro
  obtain ⟨t, rfl⟩ := ri
  obtain ⟨its, n, r, ho, hz⟩ := I.lst hp
  obtain ⟨h1, h2, h3, h4⟩ := ixN_seq hj
  have hl := r.length
  have hn := line63
  have I' : Inv X pins σ (upd H p (.lst (xs.set j v))) { s with heap := s.heap.update p (Obj.mapSeq (·.setIfInBounds j u)) } :=
    I.lstUpd hp ho (mapSeq_set its n j u) (r.set rv j) (by rw [List.length_set]; exact hz) s.toks
  by_cases h0 : 0 <= k
  . have hk : k.toNat = j := by
      rw [seqIndex_of h0 h4] at h1
      exact Option.some.inj h1
    exact PySem.W.ki_setAt ho h0 (by omega) (by rw [List.size_toArray, <- hl]; exact h4) (by rw [hk]; exact ⟨_, I', q⟩)
  . have hk : (k + (its.toArray.size : Int)).toNat = j := by
      rw [seqIndex_neg (by omega) h3] at h1
      rw [List.size_toArray, <- hl]
      exact Option.some.inj h1
    exact PySem.W.ki_setBack ho (by omega) (by rw [List.size_toArray, <- hl]; exact h3) (by omega) (by rw [hk]; exact ⟨_, I', q⟩)
theorem slice_bounds (lo hi : Option Int) (n : Nat) : (sliceBounds lo hi none n).1 = ((HT.sIx n 0 lo : Nat) : Int) /\ (sliceBounds lo hi none n).2.1 = ((HT.sIx n n hi : Nat) : Int) /\ (sliceBounds lo hi none n).2.2 = 1 := by
  refine ⟨?_, ?_, rfl⟩
  . cases lo with
    | none => simp [sliceBounds, HT.sIx]
    | some i =>
      simp only [sliceBounds, HT.sIx, Option.getD_none, show (1 : Int) > 0 by decide, if_true]
      by_cases h : i < 0
      . simp only [h, if_true] <;> omega
      . simp only [h, if_false] <;> omega
  . cases hi with
    | none => simp [sliceBounds, HT.sIx]
    | some i =>
      simp only [sliceBounds, HT.sIx, Option.getD_none, show (1 : Int) > 0 by decide, if_true]
      by_cases h : i < 0
      . simp only [h, if_true] <;> omega
      . simp only [h, if_false] <;> omega
theorem slicePick_cut (its : List Value) (lo hi : Option Int) : slicePick its.toArray lo hi none = ((its.drop (HT.sIx its.length 0 lo)).take (HT.sIx its.length its.length hi - HT.sIx its.length 0 lo)).toArray := by
  obtain ⟨h1, h2, h3⟩ := slice_bounds lo hi its.toArray.size
  unfold slicePick
  rw [h1, h2, h3]
  simp only [sliceRange_one, pick_run, List.size_toArray] <;> rfl
def rSlL (K : PySem.W.Frag) : V -> Option Int -> Option Int -> Hp -> VK -> Prop := fun x lo hi H Q => ∃ a xs, x = .ref a /\ SqL K H a xs /\ ∀ p, H p = none -> Q (.ref p) (upd H p (.lst (cutV xs lo hi)))
theorem sl_list : SlR X (rSlL X.K) := by
  intro pins s σ H x v vl vu lo hi sl Q I rx hs pl pu h
  obtain ⟨a, xs, rfl, hx, q⟩ := h
  cases rx
  obtain ⟨its, r, ht, hz⟩ := I.list hx
  have hlen := r.length
  refine ⟨"list", _, slot_list_getitem.lookup, ht.isList.typeIs, ?_⟩
  refine wpAny_getItem_list_slice ht.isList hs pl pu .none (by simp) ?_ (by rw [List.size_toArray] <;> omega)
  rw [slicePick_cut, <- hlen]
  refine ⟨.ref s.heap.objs.size, _, I.laid (t' := s.toks) (o := .lst (cutV xs lo hi)) (fun b ob q => Heap.get?_push_of_some _ q) (Nat.le_refl _) ?_, rfl, q _ (I.hok.fresh (Nat.le_refl _))⟩
  exact ⟨Nat.le_trans (cutV_length xs lo hi) hz, _, 0, (r.drop (HT.sIx xs.length 0 lo)).take (HT.sIx xs.length xs.length hi - HT.sIx xs.length 0 lo), Heap.get?_push_size _ rfl⟩
theorem call_len_seq : CallR X (.builtin "len") (fun xs H Q => ∃ p ys, xs = [.ref p] /\ (SqL X.K H p ys \/ SqT X.K H p ys) /\ Q (.int ys.length) H) := by
  intro pins s σ H xs us Q I r h
  obtain ⟨p, ys, rfl, hq, q⟩ := h
  obtain ⟨u, rfl, rx⟩ := vals1 r
  cases rx
  have hn := line63
  rcases hq with hq | hq
  . obtain ⟨its, r', pl, hz⟩ := I.list hq
    have hlen := r'.length
    exact Calls.call_len_list pl.isList (by simp only [List.size_toArray] <;> omega) ⟨.int ys.length, H, I.tok _, ⟨s.toks + 1, by rw [List.size_toArray, hlen]⟩, q⟩
  . obtain ⟨its, r', pl, hz⟩ := I.tuple hq
    have hlen := r'.length
    exact len_tuple pl (by simp only [List.size_toArray] <;> omega) ⟨.int ys.length, H, I.tok _, ⟨s.toks + 1, by rw [List.size_toArray, hlen]⟩, q⟩
theorem call_list_of : CallR X (.type "list") (fun xs H Q => ∃ p ys, xs = [.ref p] /\ (SqL X.K H p ys \/ SqT X.K H p ys) /\ ∀ l, H l = none -> Q (.ref l) (upd H l (.lst ys))) := by
  intro pins s σ H xs us Q I r h
  obtain ⟨p, ys, rfl, hq, q⟩ := h
  obtain ⟨u, rfl, rx⟩ := vals1 r
  cases rx
  have fin : ∀ (its : List Value), Vals ys its -> ys.length <= sizeLine -> ∀ (h' : Heap) (c' : Nat), (∀ b o', s.heap.get? b = some o' -> h'.get? b = some o') ->
      h'.get? s.heap.objs.size = some { cls := .type "list", dict := none, data := .seq its.toArray c', slots := #[] } -> EP X pins σ Q (.ref s.heap.objs.size) { s with heap := h' } := fun its r' hz h' c' kp e =>
    ⟨.ref s.heap.objs.size, _, I.laid (t' := s.toks) kp (Nat.le_refl _) (show ObjOk X.prog X.w _ h' _ (.lst ys) from ⟨hz, its, c', r', e⟩), rfl, q _ (I.hok.fresh (Nat.le_refl _))⟩
  rcases hq with hq | hq
  . obtain ⟨its, r', pl, hz⟩ := I.list hq
    have hlen := r'.length
    obtain ⟨o, ho, hc, n, hd⟩ := pl.isList
    exact call_list_seq p (.inl rfl) ho hc hd (fun h' c' kp e => fin its r' hz h' c' kp e) (by simp only [List.size_toArray] <;> omega)
  . obtain ⟨its, r', pl, hz⟩ := I.tuple hq
    have hlen := r'.length
    obtain ⟨o, ho, hc, n, hd⟩ := pl
    exact call_list_seq p (.inr rfl) ho hc hd (fun h' c' kp e => fin its r' hz h' c' kp e) (by simp only [List.size_toArray] <;> omega)
def tyV (K : PySem.W.Frag) (T : String) (x : V) (H : Hp) : Prop := match x with
  | .str _ => T = "str"
  | .int _ => T = "int"
  | .ref p => (T = "list" /\ ∃ xs, SqL K H p xs) \/ (T = "tuple" /\ ∃ o, K.lookup p = some o /\ o.cls = .type "tuple" /\ o.dict = none) \/
      (T = "dict" /\ ((∃ kvs, H p = some (.dK kvs)) \/ ∃ kvs, H p = some (.dT kvs))) \/ (T = "set" /\ ∃ S n, H p = some (.set S n))
  | _ => False
theorem tyV_is {pins : List (Addr × Obj)} {σ : St} {H : Hp} {s : Shared} {T : String} {x : V} {v : Value} (I : Inv X pins σ H s) (r : RelV x v) (ty : tyV X.K T x H) :
    s.TypeIs v T /\ ∀ a, v = .ref a -> ∃ ob, s.heap.get? a = some ob /\ ob.dict = none := by
  cases x with
  | str z =>
    obtain ⟨t, rfl⟩ := r
    cases (show T = "str" from ty)
    exact ⟨typeIs_str s z t, fun _ e => nomatch e⟩
  | int i =>
    obtain ⟨t, rfl⟩ := r
    cases (show T = "int" from ty)
    exact ⟨typeIs_int s i t, fun _ e => nomatch e⟩
  | ref p =>
    cases r
    rcases ty with ⟨rfl, xs, hq⟩ | ⟨rfl, o, hk, hc, hd⟩ | ⟨rfl, hk⟩ | ⟨rfl, S, n, hk⟩
    . obtain ⟨its, _, pl, _⟩ := I.list hq
      refine ⟨pl.isList.typeIs, fun a e => ?_⟩
      cases e
      obtain ⟨o, n, e, c, hd, _⟩ := pl
      exact ⟨o, e, hd⟩
    . refine ⟨⟨o, I.kIn p o hk, hc⟩, fun a e => ?_⟩
      cases e
      exact ⟨o, I.kIn _ o hk, hd⟩
    . have z : ∃ o, s.heap.get? p = some o /\ o.ExactDict := by
        rcases hk with ⟨kvs, hk⟩ | ⟨kvs, hk⟩
        . obtain ⟨_, _, _, _, o, _, _, e, ex, _⟩ := I.hok p _ hk
          exact ⟨o, e, ex⟩
        . obtain ⟨_, _, _, _, o, _, _, e, ex, _⟩ := I.hok p _ hk
          exact ⟨o, e, ex⟩
      obtain ⟨o, e, ex⟩ := z
      refine ⟨⟨o, e, ex.1⟩, fun a e2 => ?_⟩
      cases e2
      exact ⟨o, e, ex.2.1⟩
    . obtain ⟨o, _, _, _, e, ex, _⟩ := I.hok p _ hk
      refine ⟨⟨o, e, ex.1⟩, fun a e2 => ?_⟩
      cases e2
      exact ⟨o, e, ex.2.1⟩
  | _ => exact False.elim ty
def tBM0 (K : PySem.W.Frag) (T : String) (r : V -> List V -> Hp -> VK -> Prop) (to : TE) : TE := fun σ H Q => to σ H fun x H1 => tyV K T x H1 /\ r x [] H1 Q
def tBM (K : PySem.W.Frag) (T : String) (r : V -> List V -> Hp -> VK -> Prop) (to : TE) (t : TA) : TE := fun σ H Q => to σ H fun x H1 => tyV K T x H1 /\ t σ H1 fun xs H2 => r x xs H2 Q
variable {o e : Expr} {es : List Expr} {to : TE} {t : TA} {name : Str} {apos cpos : Pos} {T id : String} {r : V -> List V -> Hp -> VK -> Prop}
theorem pe_bm0 (pa : PlainAttrs T) (slot : Slot T name id) (hty : typeOf (.builtin id) = pure (.type "method_descriptor")) (hm : MtR X id r) (ho : PE X o to)
    (hbase : attributeBase o name X.env (eval o X.env) = eval o X.env := by rfl) (hline : (apos.endLine == cpos.line) = true := by rfl) : PE X (.Call (.Attribute o name apos) [] [] cpos) (tBM0 X.K T r to) := by
  intro pins s σ H Q I h
  refine wpAny_Call_method0_late hbase hline (thn (ho pins s σ H _ I h) fun v s1 ⟨x, H1, I1, r1, ty, q1⟩ => ?_)
  obtain ⟨h1, h2⟩ := tyV_is I1 r1 ty
  exact ⟨T, id, pa, slot, hty, h1, h2, Calls.callWith_builtin rfl (PySem.evalArgs_none (hm pins s1 σ H1 x [] v [] Q I1 r1 .nil q1))⟩
theorem pe_bm (pa : PlainAttrs T) (slot : Slot T name id) (hty : typeOf (.builtin id) = pure (.type "method_descriptor")) (hm : MtR X id r) (ho : PE X o to) (ha : PA X (e :: es) t)
    (hbase : attributeBase o name X.env (eval o X.env) = eval o X.env := by rfl)
    (hfew : ((backTo cpos (starEach (e :: es) X.env)).all (fun x => !x.1) && (backToKw cpos (keywordEach [] X.env)).all (fun x => x.1.isSome)
      && decide ((e :: es).length + ([] : List Keyword).length + (if ([] : List Keyword).isEmpty then 0 else 1) < 30)) = true := by rfl)
    (hline : (apos.endLine == cpos.line) = true := by rfl) (hs : starEach (e :: es) X.env = (false, eval e X.env) :: starEach es X.env := by rfl) (hplain : (backTo cpos (starEach es X.env)).any (·.1) = false := by rfl) :
    PE X (.Call (.Attribute o name apos) (e :: es) [] cpos) (tBM X.K T r to t) := by
  intro pins s σ H Q I h
  refine wpAny_Call_method_late hbase hfew hline rfl (thn (ho pins s σ H _ I h) fun v s1 ⟨x, H1, I1, r1, ty, q1⟩ => ?_)
  obtain ⟨h1, h2⟩ := tyV_is I1 r1 ty
  refine ⟨T, id, pa, slot, hty, h1, h2, ?_⟩
  have hA := ha cpos pins s1 σ H1 _ I1 q1
  rw [hs] at hA ⊢
  refine Calls.callWith_builtin (by show (false || (backTo cpos (starEach es X.env)).any (·.1)) = false; rw [hplain] <;> rfl) (Calls.evalArgs_plain ?_)
  exact thn hA fun us s2 ⟨vs, H2, I2, r2, q2⟩ => hm pins s2 σ H2 x vs v us Q I2 r1 r2 q2
/- xs.append(e), list.index on a module's tuple .. are MtR facts of 06m -/
end
def MtM (X : Cx) (id : String) (r : V -> List V -> Hp -> VK -> Prop) : Prop :=
  ∀ (pins : List (Addr × Obj)) (s : Shared) (σ : St) (H : Hp) (x : V) (xs : List V) (v : Value) (us : List Value) (Q : VK), Inv X pins σ H s -> RelV x v -> Vals xs us -> r x xs H Q ->
    wpAny (model X.prog X.w) X.A (call (.builtin id) (v :: us)) (EP X pins σ Q) X.xe s
theorem Vals.one : ∀ {x : V} {us : List Value}, Vals [x] us -> ∃ u, us = [u] /\ RelV x u
  | _, _, .cons r .nil => ⟨_, rfl, r⟩
theorem Vals.zero : ∀ {us : List Value}, Vals [] us -> us = []
  | _, .nil => rfl
theorem Vals.dropLast {xs : List V} {us : List Value} (h : Vals xs us) : Vals xs.dropLast us.dropLast := by
  induction h with
  | nil => exact .nil
  | cons r t ih =>
    cases t with
    | nil => exact .nil
    | cons q t' => exact .cons r ih
theorem Vals.rep {xs : List V} {us : List Value} (h : Vals xs us) : ∀ k : Nat, Vals (List.replicate k xs).flatten (List.replicate k us).flatten
  | 0 => .nil
  | k + 1 => by
    rw [List.replicate_succ, List.replicate_succ, List.flatten_cons, List.flatten_cons]
    exact Vals.append h (Vals.rep h k)
theorem erase_last {α : Type} (l : List α) : l.eraseIdx (l.length - 1) = l.dropLast := by
  induction l with
  | nil => rfl
  | cons a r ih =>
    cases r with
    | nil => rfl
    | cons b r =>
      have e : (a :: b :: r).length - 1 = ((b :: r).length - 1) + 1 := by
        have h1 : (a :: b :: r).length = r.length + 2 := rfl
        have h2 : (b :: r).length = r.length + 1 := rfl
        omega
      rw [e, List.eraseIdx_cons_succ, ih]
      all_goals rfl
theorem foldl_rep (its : List Value) : ∀ (k : Nat) (acc : List Value),
    List.foldl (fun x1 x2 => x1 ++ x2) acc.toArray (List.replicate k its.toArray) = (acc ++ (List.replicate k its).flatten).toArray
  | 0, acc => by simp
  | k + 1, acc => by
    have e : acc.toArray ++ its.toArray = (acc ++ its).toArray := by simp
    have e2 : (acc ++ its) ++ (List.replicate k its).flatten = acc ++ (List.replicate (k + 1) its).flatten := by
      rw [List.replicate_succ, List.flatten_cons, List.append_assoc]
    rw [<- e2, <- foldl_rep its k (acc ++ its), <- e, List.replicate_succ, List.foldl_cons]
section
variable {X : Cx} {pins : List (Addr × Obj)} {σ : St} {H : Hp} {s : Shared} {l b : Addr} {xs ys zs : List V}
theorem Inv.lset {its its' : List Value} {n : Nat} {f : Array Value -> Array Value} {t' : Nat} (I : Inv X pins σ H s) (hH : H l = some (.lst xs))
    (e : s.heap.get? l = some { cls := .type "list", data := .seq its.toArray n }) (hf : f its.toArray = its'.toArray) (hv : Vals ys its') (hz : ys.length <= sizeLine) :
    Inv X pins σ (upd H l (.lst ys)) { s with heap := s.heap.update l (Obj.mapSeq f), toks := t' } := by
  have q := PySem.IsL.update e f
  rw [hf] at q
  refine I.write (x := l) (e := l) (by rw [hH]; exact trivial) (.inl rfl) (fun b' u hb hu => (Heap.get?_update_other s.heap (Obj.mapSeq f) (Ne.symm hb)).trans hu) ⟨_, q⟩ ?_
  exact ⟨hz, its', _, hv, q⟩
theorem Inv.lnew {its : List Value} {t' : Nat} (I : Inv X pins σ H s) (hv : Vals ys its) (hz : ys.length <= sizeLine) :
    Inv X pins σ (upd H s.heap.objs.size (.lst ys)) { s with heap := s.heap.push { cls := .type "list", data := .seq its.toArray }, toks := t' } :=
  I.laid (fun _ _ q => Heap.get?_push_of_some _ q) (Nat.le_refl _) ⟨hz, its, 0, hv, Heap.get?_push_size _ rfl⟩
theorem Inv.fresh (I : Inv X pins σ H s) : H s.heap.objs.size = none := I.hok.fresh (Nat.le_refl _)
theorem Inv.lstM (I : Inv X pins σ H s) (hH : H l = some (.lst xs)) : xs.length <= sizeLine /\ ∃ (its : List Value) (n : Nat), Vals xs its /\ xs.length = its.length /\ s.heap.get? l = some { cls := .type "list", data := .seq its.toArray n } := by
  obtain ⟨z, its, n, r, e⟩ := I.hok l _ hH
  exact ⟨z, its, n, r, r.length, e⟩
theorem notLongL {n : Nat} (h : n <= sizeLine) : Builtin.List.listTooLong n = false := by
  unfold Builtin.List.listTooLong
  exact decide_eq_false (by omega)
end
section
variable {X : Cx}
def rAppend : V -> List V -> Hp -> VK -> Prop := fun x vs H Q => ∃ l xs y, x = .ref l /\ vs = [y] /\ H l = some (.lst xs) /\ xs.length < sizeLine /\ Q .non (upd H l (.lst (xs ++ [y])))
theorem mt_append : MtM X "list.append" rAppend := by
  intro pins s σ H x vs v us Q I rx rv h
  obtain ⟨l, xs, y, rfl, rfl, hH, hz, q⟩ := h
  cases rx
  obtain ⟨u, rfl, ru⟩ := rv.one
  obtain ⟨z, its, n, r, hl, e⟩ := I.lstM hH
  refine call_meets F.slot_list_append ⟨_, e, rfl⟩ F.entry_list_append (F.args_list_append_2 _ _) (PySem.list_append l its.toArray n u (by rw [List.size_toArray]; omega)) ⟨e, ?_⟩
  refine ⟨.non, _, I.lset (its' := its ++ [u]) hH e (by simp) (r.append (.cons ru .nil)) ?_, rfl, q⟩
  rw [List.length_append, List.length_singleton]
  omega
def rPop : V -> List V -> Hp -> VK -> Prop := fun x vs H Q => ∃ l xs y, x = .ref l /\ vs = [] /\ H l = some (.lst xs) /\ xs[xs.length - 1]? = some y /\ Q y (upd H l (.lst xs.dropLast))
theorem mt_pop : MtM X "list.pop" rPop := by
  intro pins s σ H x vs v us Q I rx rv h
  obtain ⟨l, xs, y, rfl, rfl, hH, hy, q⟩ := h
  cases rx
  have hus := rv.zero
  subst hus
  obtain ⟨z, its, n, r, hl, e⟩ := I.lstM hH
  obtain ⟨u, hu, ru⟩ := r.get hy
  have hy' : its.toArray[its.toArray.size - 1]? = some u := by
    show its.toArray[its.length - 1]? = some u
    rw [<- Array.getElem?_toList, <- hl]
    exact hu
  refine call_meets F.slot_list_pop ⟨_, e, rfl⟩ F.entry_list_pop (F.args_list_pop_1 _) (MeetsSeq.list_pop_last l its.toArray n u hy' (by rw [List.size_toArray]; omega)) ⟨e, ?_⟩
  refine ⟨y, _, I.lset (its' := its.dropLast) hH e ?_ r.dropLast ?_, ru, q⟩
  . show its.toArray.eraseIdxIfInBounds (its.toArray.size - 1) = its.dropLast.toArray
    rw [List.size_toArray, List.eraseIdxIfInBounds_toArray, erase_last]
  . rw [List.length_dropLast]
    omega
def rRep : R2 := fun x y H Q => ∃ l k xs, x = .ref l /\ y = .int k /\ H l = some (.lst xs) /\ -(2 ^ 63) <= k /\ k < 2 ^ 63 /\ xs.length * k.toNat <= sizeLine /\
  ∀ p, H p = none -> Q (.ref p) (upd H p (.lst (List.replicate k.toNat xs).flatten))
theorem len_rep {α : Type} (xs : List α) (k : Nat) : (List.replicate k xs).flatten.length = k * xs.length := by
  induction k with
  | zero => simp
  | succ k ih => rw [List.replicate_succ, List.flatten_cons, List.length_append, ih, Nat.succ_mul, Nat.add_comm]
theorem op_rep : OpR X (binaryOp .Mult) rRep := by
  intro pins s σ H x y v u Q I rx ry h
  obtain ⟨l, k, xs, rfl, rfl, hH, h1, h2, hz, q⟩ := h
  cases rx
  obtain ⟨t, rfl⟩ := ry
  obtain ⟨z, its, n, r, hl, e⟩ := I.lstM hH
  have hlen : its.toArray.size * k.toNat <= sizeLine := by rw [List.size_toArray, <- hl]; exact hz
  have hcap : ¬ its.toArray.size * k.toNat > (2 ^ 63 - 1) / 8 := by
    have : (sizeLine : Nat) <= (2 ^ 63 - 1) / 8 := by decide
    omega
  have hfit : ¬ (!Builtin.List.listFitsIndex k) = true := by
    rw [fitsIndex_both h1 h2]
    exact Bool.false_ne_true
  have hlong : ¬ Builtin.List.listTooLong (its.toArray.size * k.toNat) = true := by
    rw [notLongL hlen]
    exact Bool.false_ne_true
  have hnew : List.foldl (fun x1 x2 => x1 ++ x2) #[] (List.replicate (if its.toArray.isEmpty = true then 0 else k.toNat) its.toArray) = (List.replicate k.toNat its).flatten.toArray := by
    have f0 : ∀ m : Nat, List.foldl (fun x1 x2 => x1 ++ x2) #[] (List.replicate m its.toArray) = (List.replicate m its).flatten.toArray := fun m => by
      have := foldl_rep its m []
      rw [List.nil_append] at this
      exact this
    rw [f0]
    cases its with
    | nil => simp
    | cons a r' => rw [if_neg (by simp)]
  refine wpAny_binaryOp_repeat_ref (T := "list") (U := "int") (by decide) ⟨_, e, rfl⟩ (fun s' => typeIs_int s' k t) noFill_list_mul F.fills_int_mul F.slot_int_rmul repeat_list F.slot_int_index.lookup
    (call_meets F.slot_int_rmul (typeIs_int s k t) F.entry_int_rmul (F.args_int_rmul_2 _ _) (int___rmul___int_list k t l its.toArray n)
      ⟨e, rfl, ⟨_, e, rfl⟩, call_meets F.slot_list_mul ⟨_, e, rfl⟩ F.entry_list_mul (F.args_list_mul_2 _ _) (AutoListH.list___mul___list_int_3 l its.toArray n k t hfit hcap hlong) ⟨e, ?_⟩⟩)
  rw [hnew]
  exact ⟨.ref _, _, I.lnew (t' := s.toks) (r.rep k.toNat) (by rw [len_rep, Nat.mul_comm]; exact hz), rfl, q _ I.fresh⟩
end
end L2
namespace Att
open PySem PySem.W PySem.Calls PyProof.Rows
theorem ints_of_wellAll {P : Params} {h : Heap} : ∀ (ns : List Int) (vs : List Value), WellAll P h vs (ns.map WData.int) -> IntsAre vs ns := by
  intro ns
  induction ns with
  | nil =>
    intro vs w
    rw [List.map_nil] at w
    cases w
    exact .nil
  | cons n ns ih =>
    intro vs w
    rw [List.map_cons] at w
    cases w with
    | cons a b =>
      cases a
      exact .cons _ _ (ih _ b)
theorem script_of {l : OpenLaw} {n : Nat} (hn : l.most = some n) {P : Params} {h : Heap} {args : List WData} {vals : List Value}
    (hpre : l.row.toRowW.claim.pre args = true) (hwl : WellAll P h vals args) :
    ∃ a vs ns, vals = [Value.ref a] /\ args = [WData.list (ns.map WData.int)] /\ h.get? a = some { cls := .type "list", data := .seq vs.toArray } /\ IntsAre vs ns /\ ns.length <= n := by
  have hsh : WShape.hasAll [] args [.list .int] = true := (pre_splitW hpre).1
  have hc : l.pre.holds [] { args := args } = true := (pre_splitW hpre).2
  obtain ⟨d, r, rfl, h1, h2⟩ := hasAllW_cons hsh
  obtain rfl := hasAllW_nil h2
  obtain ⟨xs, rfl, h3⟩ := hasW_list h1
  obtain ⟨ns, rfl⟩ := items_int h3
  have hlen : ns.length <= n := by
    unfold OpenLaw.pre at hc
    have h4 : (WTm.not (.lt (.lit (.int (n : Int))) (.len (.arg 0)))).holds [] { args := [.list (ns.map .int)] } = true := by
      have h4 := (holds_andW hc).1
      rw [hn] at h4
      exact h4
    have h5 := condW_of h4 (w_not (w_lt w_lit (w_len_list (w_arg rfl))))
    rw [List.length_map] at h5
    refine Nat.le_of_not_lt fun q => ?_
    have q' : (n : Int) < ((ns.length : Nat) : Int) := by omega
    first
      | (rw [decide_eq_true q'] at h5; exact absurd h5 (by decide))
      | (simp at h5; omega)
  cases hwl with
  | cons w1 w2 =>
    cases w2
    cases w1 with
    | list ho hall => exact ⟨_, _, ns, rfl, rfl, ho, ints_of_wellAll ns _ hall, hlen⟩
theorem post_true (l : OpenLaw) (args : List WData) : l.row.toRowW.claim.post args (.bool true) args = true :=
  postW_of (r := l.row.toRowW) (X := (true == true))
    (show WShape.has [] (.bool true) .bool = true by first | rfl | decide | simp [WShape.has, WShape.arms, WShape.armsAll])
    (show (WTm.eq .res (.lit (.bool true))).value [] { args := args, res := some (.bool true), after := args } = some (.bool (true == true)) from w_eq_bool (w_res rfl) w_lit) rfl
section
variable {prog : Program} {w : World} {A : Around} {E : Value -> Shared -> Prop} {s : Shared} {K : Frag}
def ledger (h : Heap) (L d : Addr) : List (Addr × Obj) := (List.range h.objs.size).filterMap fun a => if a = L \/ a = d then none else (h.get? a).map fun o => (a, o)
end
end Att
namespace L2
open PySem PySem.Spec PyProof.Rows
theorem vals_ints : ∀ {vs : List Value} {ns : List Int}, IntsAre vs ns -> Vals (ns.map V.int) vs
  | _, _, .nil => .nil
  | _, _, .cons n t h => .cons ⟨t, rfl⟩ (vals_ints h)
def Only (H : Hp) : Prop := ∀ b, H b = none \/ ∃ o xs, H b = some (.frz o (.lst xs))
theorem law_call {P : Program} {w : World} {K : PySem.W.Frag} {mg mb : Str -> Option Value} {CX : CXT} {k : Nat} {fa a : Addr} {fd : FuncData} {x : Str} {sp : Sp} {s₁ : Shared} {vs : List Value} {ns : List Int}
    (KX : K.In s₁.heap) (hns : s₁.heap.Ns mainGlobals mg) (hb : s₁.heap.Ns builtinsNs mb) (hbb : ∀ x : Str, x ≠ "__name__" -> mb x = bootBuiltins x) (hlim : s₁.heap.NoLimit) (hg : s₁.gens = #[])
    (ha : s₁.heap.get? a = some { cls := .type "list", data := .seq vs.toArray }) (hi : IntsAre vs ns) (hl : ns.length <= sizeLine) (hr : Room k callerA)
    (F : ∀ base : Heap, K.In base -> base.Ns mainGlobals mg -> FnOk P w K mg base CX k fa fd [x] sp) (hbind : ∀ (s : Shared) (u : Value), BindsTo s fd ⟨[u], []⟩ [(x, u)])
    (hsp : ∀ H : Hp, Only H -> SqL K H a (ns.map V.int) -> sp [.ref a] H (fun v _ => v = .bl true) fun _ _ _ => False)
    (hCX : ∀ H e s', CX [] H s₁ (fun _ _ _ => False) e s' -> False) :
    codeAny (model P w) callerA (.call (.ref fa) ⟨[.ref a], []⟩) (fun r s' => r = .ok (.ret (.bool true)) /\ OldK s₁.heap s'.heap /\ s'.os = s₁.os /\ AllBare s'.gens) s₁ := by
  have rv := vals_ints hi
  have lenV := hi.length
  have core : ∀ H : Hp, Only H -> SqL K H a (ns.map V.int) -> HOk P w H s₁.heap -> (∀ b, H b ≠ none -> b = a) -> (H a ≠ none -> K.lookup a = none) ->
      codeAny (model P w) callerA (.call (.ref fa) ⟨[.ref a], []⟩) (fun r s' => r = .ok (.ret (.bool true)) /\ OldK s₁.heap s'.heap /\ s'.os = s₁.os /\ AllBare s'.gens) s₁ := by
    intro H hO hS hok hA hK
    have base_of : ∀ {b : Addr} {o : Obj}, s₁.heap.get? b = some o -> H b = none -> (hidT s₁.heap H).get? b = some o := fun e n => hidT_get e n
    have noA : ∀ {b : Addr} {o : Obj} {es : Array DictEntry} {ep : Nat}, s₁.heap.get? b = some o -> o.data = .dict es ep -> H b = none := fun {b o es ep} e d => by
      cases q : H b with
      | none => rfl
      | some u =>
        have e' : b = a := hA b (by rw [q]; simp)
        subst e'
        rw [ha] at e; cases e
        have d' : Data.seq vs.toArray _ = Data.dict es ep := d
        cases d'
    have nsK : ∀ {b : Addr} {m : Str -> Option Value}, s₁.heap.Ns b m -> (hidT s₁.heap H).Ns b m := fun {b m} ⟨o, es, ep, e, d, r⟩ => ⟨o, es, ep, base_of e (noA e d), d, r⟩
    have hKb : K.In (hidT s₁.heap H) := fun b o e => base_of (KX b o e) (by
      cases q : H b with
      | none => rfl
      | some u =>
        have e' : b = a := hA b (by rw [q]; simp)
        subst e'
        rw [hK (by rw [q]; simp)] at e; cases e)
    have hM : Mod K mg (hidT s₁.heap H) := ⟨hKb, nsK hns, ⟨mb, nsK hb, hbb⟩, let ⟨mc, h1, h2⟩ := hlim; ⟨mc, nsK h1, h2⟩⟩
    have e0 : Env0 P w K mg (hidT s₁.heap H) callerA [] s₁ H := ⟨rfl, hM, fun b o e => of_hidT e, Nat.le_of_eq (hidT_size _ _), trivial, fun b hb => absurd (show b ∈ ([] : List Addr) from hb) (by simp), hok, .of_eq hg⟩
    refine codeAny_mono ((F _ hKb (nsK hns)).run callerA [] s₁ H ⟨[.ref a], []⟩ [.ref a] [.ref a] _ _ hr e0 (hbind s₁ (.ref a)) (.cons rfl .nil) (hsp H hO hS)) fun r s' h => ?_
    cases r with
    | error e => exact (hCX H e s' h).elim
    | ok fl =>
      cases fl with
      | next => exact False.elim h
      | brk => exact False.elim h
      | cont => exact False.elim h
      | ret u =>
        obtain ⟨v, H', os, bare, un, hok', r', q⟩ := h
        have q' : v = .bl true := q
        subst q'
        obtain rfl : u = Value.bool true := r'
        refine ⟨rfl, OldK.of_keep fun b o e => ?_, os, bare⟩
        cases q : H b with
        | none => exact un.keep b o e q (by intro z; exact absurd (show b ∈ ([] : List Addr) from z) (by simp)) (by simp)
        | some u =>
          rcases hO b with z | ⟨ob, xs, z⟩
          . rw [q] at z; cases z
          . have z2 := un.frzs b ob _ z
            obtain ⟨e1, _⟩ := hok b _ z
            obtain ⟨e2, _⟩ := hok' b _ z2
            rw [e] at e1; cases e1
            exact e2
  cases hk : K.lookup a with
  | some o =>
    have e := KX a o hk
    rw [ha] at e
    cases e
    refine core (fun _ => none) (fun _ => .inl rfl) (.inr ⟨_, vs.toArray, _, hk, rfl, rfl, rfl, by rw [List.size_toArray, lenV]; exact hl, by simpa using rv⟩) (fun b u z => by have z' : (none : Option HO) = some u := z; cases z') (fun b z => absurd rfl z) fun z => absurd rfl z
  | none =>
    refine core (fun b => if b = a then some (.frz { cls := .type "list", data := .seq vs.toArray } (.lst (ns.map V.int))) else none) (fun b => ?_) (.inl (.inr ⟨{ cls := .type "list", data := .seq vs.toArray }, if_pos rfl⟩)) (fun b u z => ?_) (fun b z => ?_) fun _ => hk
    . by_cases hb : b = a
      . exact .inr ⟨_, _, if_pos hb⟩
      . exact .inl (if_neg hb)
    . by_cases hb : b = a
      . have z' := (if_pos hb).symm.trans z
        cases z'
        subst hb
        exact ⟨ha, by rw [List.length_map]; exact hl, vs, _, rv, ha⟩
      . have z' := (if_neg hb).symm.trans z
        cases z'
    . by_cases hb : b = a
      . exact hb
      . exact absurd (if_neg hb) z
abbrev KOf {K : PySem.W.Frag} {h : Heap} (_ : K.In h) : PySem.W.Frag := K
end L2
/- THE LAST THEOREM (shape; LID, My.* are yours):
   My.Adr: a structure of the addresses that your layer names (classes, functions); My.Txt K t: a structure (Prop) of the equations over K;
   My.txt_mk : {K} {implicit addresses ..} (e1 : nsIn K mainGlobals "law" = some (some (.ref f))) (e2 : K.lookup f = some ⟨oc, od, .func (fnOf "law" "law" params body scope dV kV doc pm an cdv ct), sl⟩) (e3 : codeIn K cdv "law" = true) .. : ∃ t, My.Txt K t
set_option maxRecDepth 100000 in
set_option maxHeartbeats 0 in
theorem PySem.Challenge.cw_LID_holds : PySem.Challenge.rw_LID.Holds := by
  w_on; o_law; k_head; (case hw => w_witness2)
  k_fill
  refine L2.walk_of (l := PySem.Challenge.rw_LID) (n := 63) (k := 40) (x := "script") (CX := fun w => ..) (sp := fun _ => My.sp_law) rfl (by decide) rfl ⟨rfl, by decide, by decide⟩ (fun w h Y => PySem.W.kIn_of Y) ?F ?S ?C
  case F =>
    intro w mg fa h KX G hmg
    have T : ∃ t, My.Txt (L2.KOf KX) t := by
      dsimp only [L2.KOf]                          -- K must stand as «<heap const> w.params» for k_is
      refine' My.txt_mk ?e1 ?e2 ?e3 ..
      (case e1 => PySem.W.k_is)                    -- in the order: a name -> its address -> its object -> its parts
      (case e2 => PySem.W.k_is)
      ..
    obtain ⟨t, T⟩ := T
    have e0 := hmg.symm.trans (PySem.W.mg_of KX G T.law)
    cases e0                                       -- fa is the law's own address
    exact ⟨_, fun s u => .of_eq rfl, fun base kb nb => My.law_fn T kb nb⟩     -- if «.of_eq rfl» comes too early: refine' ⟨_, ?b, fun base kb nb => My.law_fn T kb nb⟩; exact fun s u => .of_eq rfl
  case S => exact fun w H a ns hl hO hS => ..
  case C => exact ..
(the tactic k_is has no namespace: write k_is) -/
namespace L2
open PySem PySem.Spec PyProof.Rows
def inClass (s : Stmt) (j : Nat) : Stmt := match s with
  | .ClassDef _ _ _ body _ _ _ _ _ _ _ => body.getD j (.Pass ⟨0, 0, 0, 0⟩)
  | _ => .Pass ⟨0, 0, 0, 0⟩
def defArgs (s : Stmt) : Arguments := match s with
  | .FunctionDef _ a _ _ _ _ _ _ _ _ => a
  | _ => { posonlyargs := [], args := [], vararg := none, kwonlyargs := [], kw_defaults := [], kwarg := none, defaults := [] }
def defBody (s : Stmt) : List Stmt := match s with
  | .FunctionDef _ _ b _ _ _ _ _ _ _ => b
  | _ => []
def defScope (s : Stmt) : Scope := match s with
  | .FunctionDef _ _ _ _ _ _ sc _ _ _ => sc
  | _ => { kind := .function, names := [], isGenerator := false, isCoroutine := false }
abbrev CX0 : CXT := fun _ _ _ _ _ _ => False
abbrev E0 : XK := fun _ _ _ => False
theorem pass0 {X : Cx} : Passes CX0 X E0 := fun _ _ _ _ _ _ _ h => h.elim
structure Fun (K : PySem.W.Frag) (x qual : Str) (st : Stmt) (f : Addr) (fd : FuncData) : Prop where
  ex : ∃ (oc : Value) (od : Option Addr) (kV doc pm : Value) (an : Option Addr) (cdv ct : Value) (osl : Array (Option Value)),
    fd = PySem.W.fnOf x qual (defArgs st) (defBody st) (defScope st) .none kV doc pm an cdv ct /\ K.lookup f = some ⟨oc, od, .func fd, osl⟩ /\ PySem.W.codeIn K cdv qual = true
  kp : PySem.W.keepIn K (.ref f) = true
section
variable {P : Program} {w : World} {K : PySem.W.Frag} {mg : Str -> Option Value} {base : Heap}
theorem Fun.ok {x qual : Str} {st : Stmt} {f : Addr} {fd : FuncData} {N ps : List Str} {k : Nat} {sp : Sp} (F : Fun K x qual st f fd) (S : FnScope N ps (defScope st)) (len : ∀ vs H Q E, sp vs H Q E -> vs.length = ps.length)
    (hbody : ∀ (cdv : Value) (A : Around) (outer : List Env) (s : Shared) (H : Hp) (vs : List V) (Q : VK) (E : XK), Room k (A.deeper (envOfC qual (defScope st) s.heap.objs.size f cdv)) -> sp vs H Q E ->
      ∃ t, PSs (cxOf CX0 P w K mg base N qual (defScope st) f cdv A outer s H E).nox (defBody st) t /\ t { nx := fun _ H' => Q .non H', rt := Q } (start N vs) H) : FnOk P w K mg base CX0 (k + 1) f fd ps sp := by
  obtain ⟨oc, od, kV, doc, pm, an, cdv, ct, osl, rfl, lk, hcd⟩ := F.ex
  refine fn_of lk hcd S len fun A outer s H vs Q E hr hsp => ?_
  obtain ⟨t, h, q⟩ := hbody cdv A outer s H vs Q E hr hsp
  exact ⟨t, h.nox, q⟩
theorem Fun.binds {x qual : Str} {st : Stmt} {f : Addr} {fd : FuncData} {ps : List Str} (F : Fun K x qual st f fd)
    (h : ∀ (kV doc pm : Value) (an : Option Addr) (cdv ct : Value) (us : List Value), us.length = ps.length -> bindArgs (PySem.W.fnOf x qual (defArgs st) (defBody st) (defScope st) .none kV doc pm an cdv ct) ⟨us, []⟩ = pure (ps.zip us)) : Binds K fd ps [] := by
  obtain ⟨oc, od, kV, doc, pm, an, cdv, ct, osl, rfl, lk, hcd⟩ := F.ex
  exact .all (h kV doc pm an cdv ct)
theorem fun_mk {x qual : Str} {st : Stmt} {f : Addr} {oc : Value} {od an : Option Addr} {osl : Array (Option Value)} {kV doc pm cdv ct : Value} (l : K.lookup f = some ⟨oc, od, .func (PySem.W.fnOf x qual (defArgs st) (defBody st) (defScope st) .none kV doc pm an cdv ct), osl⟩)
    (c : PySem.W.codeIn K cdv qual = true) (k : PySem.W.keepIn K (.ref f) = true) : Fun K x qual st f (PySem.W.fnOf x qual (defArgs st) (defBody st) (defScope st) .none kV doc pm an cdv ct) := ⟨⟨oc, od, kV, doc, pm, an, cdv, ct, osl, rfl, l, c⟩, k⟩
end
theorem small1000 {n : Nat} (h : n <= 1000) : n < sizeLine := Nat.lt_of_le_of_lt h (by decide)
section
variable {X : Cx}
theorem pv (i : Nat) {x : Str} {pos : Pos} (hN : X.N[i]? = some x := by rfl) (hv : Vis X.env.scope x := by first | exact Or.inl rfl | exact Or.inr (Or.inl rfl) | exact Or.inr (Or.inr rfl)) (hd : (x == ("__debug__" : Str)) = false := by decide)
    (hcd : (x == ("__classdict__" : Str)) = false := by decide) : PE X (.Name x pos) (tVar i) := pe_var hN hv hd hcd
end
theorem iteF {A B : Prop} (h : B) : if false = true then A else B := by
  rw [if_neg Bool.false_ne_true]
  exact h
theorem iteT {A B : Prop} (h : A) : if true = true then A else B := by
  rw [if_pos rfl]
  exact h
def Same (H H' : Hp) : Prop := ∀ b o, H b = some o -> H' b = some o
theorem Same.refl (H : Hp) : Same H H := fun _ _ h => h
theorem Same.trans {H H1 H2 : Hp} (a : Same H H1) (b : Same H1 H2) : Same H H2 := fun c o h => b c o (a c o h)
theorem Same.free {H H' : Hp} (e : Same H H') {l : Addr} (h : H' l = Option.none) : H l = Option.none := by
  cases q : H l with
  | none => rfl
  | some o =>
    rw [e l o q] at h
    cases h
theorem Same.seq {K : PySem.W.Frag} {H H' : Hp} {a : Addr} {xs : List V} (e : Same H H') (h : SqL K H a xs) : SqL K H' a xs := by
  rcases h with (h | ⟨o, h⟩) | h
  . exact .inl (.inl (e _ _ h))
  . exact .inl (.inr ⟨o, e _ _ h⟩)
  . exact .inr h
def gI (σ : St) (i : Nat) : Int := match σ[i]? with
  | some (some (.int n)) => n
  | _ => 0
def hI (σ : St) (i : Nat) : Prop := σ[i]? = some (some (.int (gI σ i)))
def tN (C : St -> Hp -> Prop) (g : St -> Int) : TE := fun σ H Q => C σ H /\ Q (.int (g σ)) H
def tP (C : St -> Hp -> Prop) (p : St -> Prop) [∀ σ, Decidable (p σ)] : TT := fun σ H Q => C σ H /\ Q (decide (p σ)) H
section
variable {X : Cx} {a b : Expr} {pos : Pos} {Ca Cb : St -> Hp -> Prop} {ga gb : St -> Int}
theorem pn_var (i : Nat) {x : Str} (hN : X.N[i]? = some x := by rfl) (hv : Vis X.env.scope x := by first | exact Or.inl rfl | exact Or.inr (Or.inl rfl) | exact Or.inr (Or.inr rfl))
    (hd : (x == ("__debug__" : Str)) = false := by decide) (hcd : (x == ("__classdict__" : Str)) = false := by decide) : PE X (.Name x pos) (tN (fun σ _ => hI σ i) (fun σ => gI σ i)) :=
  fun pins s σ H Q I h => pe_var hN hv hd hcd pins s σ H Q I ⟨_, h.1, h.2⟩
theorem pn_int {i : Int} {j : Nat} : PE X (.Constant (.int i) j pos) (tN (fun _ _ => True) (fun _ => i)) := fun pins s σ H Q I h => pe_int pins s σ H Q I h.2
theorem op_mulB : OpR X (binaryOp .Mult) (rI IntMulOk fun i j => .int (i * j)) := opI fun _ _ _ _ _ _ _ hc q => mul_int q hc
def CDivB (_ j : Int) : Prop := 0 < j /\ j.natAbs.log2 < 9000
theorem op_fdivB : OpR X (binaryOp .FloorDiv) (rI CDivB fun i j => .int (i / j)) := opI fun i j _ _ _ _ _ hc q => by
  have h1 : (0 : Int) < j := hc.1
  exact floordiv_int (by omega) (by rw [Int.fdiv_eq_ediv_of_nonneg i (by omega)]; exact q) (.inl (PyProof.noPylong_of_log2 hc.2))
theorem pn_neg (ha : PE X a (tN Ca ga)) : PE X (.UnaryOp .USub a pos) (tN Ca (fun σ => -ga σ)) :=
  fun pins s σ H Q I h => pe_un un_neg ha pins s σ H Q I ⟨h.1, _, rfl, h.2⟩
theorem pt_cmpN {op : CmpOp} {p : Int -> Int -> Prop} [∀ i j, Decidable (p i j)] (ho : OpR X (compareOp op) (rI0 fun i j => .bl (decide (p i j)))) (hm : behindInMarks op b = false) (ha : PE X a (tN Ca ga)) (hb : PE X b (tN Cb gb)) :
    PT X (.Compare a [op] [b] pos) (tP (fun σ H => Ca σ H /\ Cb σ H) (fun σ => p (ga σ) (gb σ))) :=
  fun pins s σ H Q I h => pt_cmpR ho ha hb hm pins s σ H Q I ⟨h.1.1, h.1.2, _, _, rfl, rfl, _, rfl, h.2⟩
theorem op_eqI : OpR X (compareOp .Eq) (rI0 fun i j => .bl (decide (i = j))) := fun pins s σ H x y v u Q I rx ry h => by
  obtain ⟨i, j, rfl, rfl, q⟩ := h
  have q : Q (.bl (decide (i = j))) H := q
  refine op_eq pins s σ H _ _ v u Q I rx ry ⟨rfl, ?_⟩
  rw [dec_int, Bool.beq_eq_decide_eq]
  exact q
theorem op_neI : OpR X (compareOp .NotEq) (rI0 fun i j => .bl (decide (¬ i = j))) := fun pins s σ H x y v u Q I rx ry h => by
  obtain ⟨i, j, rfl, rfl, q⟩ := h
  have q : Q (.bl (decide (¬ i = j))) H := q
  rw [decide_not] at q
  refine op_ne pins s σ H _ _ v u Q I rx ry ⟨rfl, ?_⟩
  rw [dec_int, Bool.beq_eq_decide_eq]
  exact q
theorem ptn_lt (ha : PE X a (tN Ca ga)) (hb : PE X b (tN Cb gb)) : PT X (.Compare a [.Lt] [b] pos) (tP (fun σ H => Ca σ H /\ Cb σ H) (fun σ => ga σ < gb σ)) := pt_cmpN op_lt (nomark _) ha hb
variable {pa pb : St -> Prop} [∀ σ, Decidable (pa σ)] [∀ σ, Decidable (pb σ)] {rest : List Expr}
def tIfP (C : St -> Hp -> Prop) (p : St -> Prop) (t u : TS) : TS := fun D σ H => C σ H /\ (p σ -> t D σ H) /\ (¬ p σ -> u D σ H)
theorem ps_ifP {c : Expr} {x y : List Stmt} {t u : TS} (hc : PT X c (tP Ca pa)) (hx : PSs X x t) (hy : PSs X y u) : PS X (.If c x y pos) (tIfP Ca pa t u) :=
  fun pins s σ H D I h => ps_if hc hx hy pins s σ H D I ⟨h.1, by
    by_cases c : pa σ
    . rw [decide_eq_true c]; refine iteT ?_; exact h.2.1 c
    . rw [decide_eq_false c]; refine iteF ?_; exact h.2.2 c⟩
end
section
variable {X : Cx} {b : Expr} {es : List Expr} {pos p1 : Pos} {Cb C : St -> Hp -> Prop} {gb : St -> Int}
theorem atI_int {ns : List Int} {i : Int} (h0 : 0 <= i) (h1 : i < (ns.length : Int)) : atI (ns.map V.int) i = some (V.int (ns.getD i.toNat 0)) := by
  have e : i = ((i.toNat : Nat) : Int) := by omega
  have l : i.toNat < ns.length := by omega
  have q : atI (ns.map V.int) ((i.toNat : Nat) : Int) = some (V.int (ns.getD i.toNat 0)) := atI_nat (by rw [List.getElem?_map, List.getElem?_eq_getElem l, gQ, List.getElem?_eq_getElem l]; rfl)
  rw [<- e] at q
  exact q
def tItem (K : PySem.W.Frag) (j : Nat) (C : St -> Hp -> Prop) (g : St -> Int) : TE := fun σ H Q => C σ H /\ ∃ (a : Addr) (ns : List Int) (n : Int), σ[j]? = some (some (.ref a)) /\ SqL K H a (ns.map V.int) /\ atI (ns.map V.int) (g σ) = some (.int n) /\ Q (.int n) H
theorem pe_item (j : Nat) {x : Str} {px : Pos} (hb : PE X b (tN C gb)) (hs : PlainIx b) (hN : X.N[j]? = some x := by rfl) (hv : Vis X.env.scope x := by first | exact Or.inl rfl | exact Or.inr (Or.inl rfl) | exact Or.inr (Or.inr rfl))
    (hd : (x == ("__debug__" : Str)) = false := by decide) (hcd : (x == ("__classdict__" : Str)) = false := by decide) : PE X (.Subscript (.Name x px) b pos) (tItem X.K j C gb) := by
  intro pins s σ H Q I h
  obtain ⟨c, a, ns, n, e1, e2, e3, q⟩ := h
  exact pe_ix ix_list (pe_var hN hv hd hcd) hb hs pins s σ H Q I ⟨_, e1, c, a, _, _, _, rfl, rfl, e2, e3, q⟩
theorem pn_item (j : Nat) (a : Addr) (ns : List Int) {x : Str} {px : Pos} (hb : PE X b (tN C gb)) (hs : PlainIx b) (hN : X.N[j]? = some x := by rfl) (hv : Vis X.env.scope x := by first | exact Or.inl rfl | exact Or.inr (Or.inl rfl) | exact Or.inr (Or.inr rfl))
    (hd : (x == ("__debug__" : Str)) = false := by decide) (hcd : (x == ("__classdict__" : Str)) = false := by decide) :
    PE X (.Subscript (.Name x px) b pos) (tN (fun σ H => C σ H /\ σ[j]? = some (some (.ref a)) /\ SqL X.K H a (ns.map V.int) /\ -(ns.length : Int) <= gb σ /\ gb σ < (ns.length : Int)) (fun σ => ns.getD (if 0 <= gb σ then gb σ else gb σ + ns.length).toNat 0)) := by
  intro pins s σ H Q I h
  obtain ⟨⟨c, e1, e2, b1, b2⟩, q⟩ := h
  refine pe_ix ix_list (pe_var hN hv hd hcd) hb hs pins s σ H Q I ⟨_, e1, c, a, _, _, _, rfl, rfl, e2, ?_, q⟩
  show atI (ns.map V.int) (gb σ) = some (V.int (ns.getD (if 0 <= gb σ then gb σ else gb σ + ns.length).toNat 0))
  by_cases c0 : 0 <= gb σ
  . rw [if_pos c0]; exact atI_int c0 b2
  . rw [if_neg c0]
    have q2 := atI_int (ns := ns) (i := gb σ + ns.length) (by omega) (by omega)
    unfold atI ixN at q2 ⊢
    rw [List.length_map] at q2 ⊢
    rw [if_pos (show 0 <= gb σ + (ns.length : Int) by omega), if_pos (show gb σ + (ns.length : Int) < (ns.length : Int) by omega)] at q2
    rw [if_neg c0, if_pos b1]
    exact q2
theorem pn_len (j : Nat) (a : Addr) (xs : List V) {x : Str} {px p : Pos} (hm : X.mg "len" = none) (hN : X.N[j]? = some x := by rfl) (hg : Gl X "len" := by rfl) (hv : Vis X.env.scope x := by first | exact Or.inl rfl | exact Or.inr (Or.inl rfl) | exact Or.inr (Or.inr rfl))
    (hd : (x == ("__debug__" : Str)) = false := by decide) (hcd : (x == ("__classdict__" : Str)) = false := by decide) (he : starEach [.Name x px] X.env = [(false, eval (.Name x px) X.env)] := by rfl) :
    PE X (.Call (.Name "len" p) [.Name x px] [] pos) (tN (fun σ H => σ[j]? = some (some (.ref a)) /\ SqL X.K H a xs) (fun _ => (xs.length : Int))) := by
  intro pins s σ H Q I h
  exact pe_callB call_len_seq hg hm PySem.boot_len (pa_cons (pe_var hN hv hd hcd) pa_nil he) (by decide) (by decide) he rfl pins s σ H Q I ⟨_, h.1.1, a, _, rfl, .inl h.1.2, h.2⟩
end
structure Ok (P : Program) (w : World) (K : PySem.W.Frag) (mg : Str -> Option Value) (base : Heap) (k : Nat) (x : Str) (ps : List Str) (sp : Sp) : Prop where
  ex : ∃ f fd, FnOk P w K mg base CX0 k f fd ps sp /\ Binds K fd ps [] /\ PySem.W.keepIn K (.ref f) = true /\ mg x = some (.ref f)
theorem Ok.imp {P : Program} {w : World} {K : PySem.W.Frag} {mg : Str -> Option Value} {base : Heap} {k : Nat} {x : Str} {ps : List Str} {sp sp' : Sp} (o : Ok P w K mg base k x ps sp) (h : ∀ vs H Q E, sp' vs H Q E -> sp vs H Q E) : Ok P w K mg base k x ps sp' := by
  obtain ⟨f, fd, a, b⟩ := o.ex
  exact ⟨f, fd, a.imp h, b⟩
section
variable {X : Cx} {e : Expr} {es : List Expr} {pos p : Pos} {j k : Nat} {x : Str} {ps : List Str} {sp : Sp} {t : TA}
theorem pe_callO (o : Ok X.prog X.w X.K X.mg X.base j x ps sp) (hr : Room k X.A) (ha : PA X (e :: es) t) (hj : j <= k := by decide) (hg : Gl X x := by rfl) (hdb : (x == ("__debug__" : Str)) = false := by decide)
    (he : starEach (e :: es) X.env = (false, eval e X.env) :: starEach es X.env := by rfl) (hpl : (backTo pos (starEach es X.env)).any (·.1) = false := by rfl) : PE X (.Call (.Name x p) (e :: es) [] pos) (tCall sp [] E0 t) := by
  obtain ⟨f, fd, F, b, kp, m⟩ := o.ex
  exact pe_call (F.mono hj) hr hg m kp b .nil pass0 ha hdb he hpl
variable {C : St -> Hp -> Prop} {g : St -> List Int} {n : Nat} {pre : List Int -> Prop}
end
structure Def (K : PySem.W.Frag) (mg : Str -> Option Value) (x : Str) (st : Stmt) (ps : List Str) : Prop where
  ex : ∃ f fd, Fun K x x st f fd /\ Binds K fd ps [] /\ mg x = some (.ref f)
section
variable {P : Program} {w : World} {K : PySem.W.Frag} {mg : Str -> Option Value} {base : Heap}
theorem Def.ok {x : Str} {st : Stmt} {N ps : List Str} {k : Nat} {sp : Sp} (d : Def K mg x st ps) (S : FnScope N ps (defScope st)) (len : ∀ vs H Q E, sp vs H Q E -> vs.length = ps.length)
    (hbody : ∀ (f : Addr) (cdv : Value) (A : Around) (outer : List Env) (s : Shared) (H : Hp) (vs : List V) (Q : VK) (E : XK), Room k (A.deeper (envOfC x (defScope st) s.heap.objs.size f cdv)) -> sp vs H Q E ->
      ∃ t, PSs (cxOf CX0 P w K mg base N x (defScope st) f cdv A outer s H E).nox (defBody st) t /\ t { nx := fun _ H' => Q .non H', rt := Q } (start N vs) H) : Ok P w K mg base (k + 1) x ps sp := by
  obtain ⟨f, fd, F, b, m⟩ := d.ex
  exact ⟨f, fd, F.ok S len fun cdv A outer s H vs Q E hr h => hbody f cdv A outer s H vs Q E hr h, b, F.kp, m⟩
theorem Def.mk' {x : Str} {st : Stmt} {ps : List Str} {f : Addr} {fd : FuncData} (F : Fun K x x st f fd) (b : Binds K fd ps []) (m : mg x = some (.ref f)) : Def K mg x st ps := ⟨f, fd, F, b, m⟩
end
theorem bt_int : bootBuiltins "int" = some (.type "int") := by decide +kernel
theorem bt_bool : bootBuiltins "bool" = some (.type "bool") := by decide +kernel
theorem bt_list : bootBuiltins "list" = some (.type "list") := by decide +kernel
theorem bt_len : bootBuiltins "len" = some (.builtin "len") := by decide +kernel
theorem bt_isinstance : bootBuiltins "isinstance" = some (.builtin "isinstance") := by decide +kernel
theorem bt_abs : bootBuiltins "abs" = some (.builtin "abs") := by decide +kernel
theorem bt_min : bootBuiltins "min" = some (.builtin "min") := by decide +kernel
theorem bt_max : bootBuiltins "max" = some (.builtin "max") := by decide +kernel
def clsV : V -> Option Value
  | .ty n => some (.type n)
  | .ref a => some (.ref a)
  | _ => none
theorem clsV_rel {c : V} {u cv : Value} (h : clsV c = some cv) (r : RelV c u) : u = cv := by
  cases c with
  | ty n => cases h; exact r
  | ref a => cases h; exact r
  | non => cases h
  | bl _ => cases h
  | int _ => cases h
  | str _ => cases h
  | byt _ => cases h
  | flt _ => cases h
section
variable {X : Cx}
theorem call_isinst : CallR X (.builtin "isinstance") (fun xs H Q => ∃ x c t cv b, xs = [x, c] /\ clsV c = some cv /\ TyOf X.K H x t /\ PySem.W.kitOne X.K t cv = some b /\ Q (.bl b) H) := by
  intro pins s σ H xs us Q I r h
  obtain ⟨x, c, t, cv, b, rfl, hc, ty, e, q⟩ := h
  obtain ⟨u, w', rfl, r1, r2⟩ := vals2 r
  obtain rfl := clsV_rel hc r2
  exact isinst_ok I r1 ty e fun tk => ⟨.bl b, H, I.tok tk, rfl, q⟩
end
theorem len1 {ns : List Int} (h : ns.length = 1) : ∃ a, ns = [a] := match ns, h with | [a], _ => ⟨a, rfl⟩
theorem same_new {H : Hp} {p : Addr} (h : H p = none) (o : HO) : Same H (upd H p o) := fun b u q => by rw [upd_ne (ne_of_none q h)]; exact q
theorem bits_le {k : Int} {n : Nat} (h : k.natAbs < 2 ^ n) : Builtin.Int.intBits k <= n := by
  unfold Builtin.Int.intBits
  split
  . exact Nat.zero_le _
  . have hk : k.natAbs ≠ 0 := by
      rename_i c
      intro z
      apply c
      first | exact z | (have : k = 0 := by omega
                         simp [this]) | omega
    have := (Nat.log2_lt hk).mpr h
    omega
theorem mul_ok {a b : Int} {n m : Nat} (ha : a.natAbs < 2 ^ n) (hb : b.natAbs < 2 ^ m) (hn : n <= 1048576 := by decide) (hm : m <= 1048576 := by decide) : IntMulOk a b :=
  .of_bits (Nat.le_trans (bits_le ha) (Nat.le_trans hn (by decide))) (Nat.le_trans (bits_le hb) (Nat.le_trans hm (by decide)))
theorem mul_okR {a b : Int} (h : -(2 ^ 64) < b /\ b < 2 ^ 64) : IntMulOk a b := .of_right (intBits_le_64 h.1 h.2)
theorem mul_okL {a b : Int} (h : -(2 ^ 64) < a /\ a < 2 ^ 64) : IntMulOk a b := .of_left (intBits_le_64 h.1 h.2)
abbrev NoX : Value -> Shared -> Prop := fun _ _ => False
def testsTree (cs : List Expr) (ev : Env) : Sem Bool := forIn cs true fun c r => if r = true then do let ok <- isTrue c ev (eval c ev); pure (ForInStep.yield ok) else pure (ForInStep.yield r)
section
variable {P : Program} {w : World} {A : Around} {R : Result -> Shared -> Prop} {s : Shared}
theorem comp_loop {el tg src : Expr} {cs : List Expr} {sc : Scope} {at' : Pos} {it acc : Value} {ev : Env} (I : Nat -> Shared -> Prop)
    (turn : ∀ n s, I n s -> wpAny (model P w) A (pyNext it) (fun r s1 => (r = none /\ R (.ok .next) s1) \/ ∃ v, r = some v /\
      wpAny (model P w) A (letOwnedTupleGo tg it v) (fun _ s2 => wpAny (model P w) A (assign tg ev v) (fun _ s3 => wpAny (model P w) A (testsTree cs ev) (fun ok s4 =>
        if ok = true then wpAny (model P w) A (eval el ev) (fun x s5 => wpAny (model P w) A (call (.builtin "list.append") [acc, x]) (fun _ s6 => ∃ m, m < n /\ I m s6) NoX s5) NoX s4
        else ∃ m, m < n /\ I m s4) NoX s3) NoX s2) NoX s1) NoX s)
    (n : Nat) (h : I n s) : codeAny (model P w) A (.compLoop (.ListComp el [⟨tg, src, cs, 0⟩] sc at') 0 it acc ev) R s := by
  refine codeAny_loop rfl I (fun n s hI => ?_) n h
  show wpAny _ A ((compTurn (.ListComp el [⟨tg, src, cs, 0⟩] sc at') 0 it acc ev).onRaise (fun z => do noteFrame z ev; theTreesLotGoes z)) _ _ s
  refine wpAny_noted (wpAny_noRaise ?_)
  rw [compTurn_list]
  refine wpAny_bind (wpAny_standAt (wpAny_bind (thn (turn n s hI) fun r s1 h1 => ?_)))
  rcases h1 with ⟨rfl, h1⟩ | ⟨v, rfl, h1⟩
  . exact wpAny_pure h1
  . refine wpAny_bind (thn h1 fun _ s2 h2 => wpAny_bind (thn h2 fun _ s3 h3 => wpAny_bind (thn h3 fun ok s4 h4 => ?_)))
    cases ok with
    | false => exact wpAny_pure ⟨rfl, h4⟩
    | true => exact wpAny_bind (wpAny_bind (thn h4 fun x s5 h5 => wpAny_bind (thn h5 fun _ s6 h6 => wpAny_pure (wpAny_pure ⟨rfl, h6⟩))))
end
def CapOk (X : Cx) (sc : Scope) (cl : List (Str × Addr)) : List Str -> List (Option Nat) -> Prop
  | [], [] => True
  | _ :: xs, none :: cs => CapOk X sc cl xs cs
  | x :: xs, some i :: cs => (X.N[i]? = some x /\ Vis X.env.scope x /\ X.env.kindOf x ≠ some .local /\ ((relabel sc X.env).names.lookup x = some .cell \/ (relabel sc X.env).names.lookup x = some .free) /\ ∃ c, cl.lookup x = some c /\ X.env.cells.lookup x = some c) /\ CapOk X sc cl xs cs
  | _, _ => False
def SubC (ev : Env) : List (Str × Addr) -> Prop
  | [] => True
  | (x, c) :: r => ev.cells.lookup x = some c /\ SubC ev r
theorem SubC.look {ev : Env} : ∀ {cl : List (Str × Addr)}, SubC ev cl -> ∀ {x : Str} {c : Addr}, cl.lookup x = some c -> ev.cells.lookup x = some c
  | [], _, x, c, h => by simp at h
  | (y, d) :: r, q, x, c, h => by
    rw [List.lookup_cons] at h
    cases e : x == y with
    | true =>
      rw [e] at h
      have e' : x = y := by simpa using e
      subst e'
      cases h
      exact q.1
    | false => rw [e] at h; exact SubC.look q.2 h
def capS (cap : List (Option Nat)) (σ : St) : St := cap.map fun o => match o with
  | some i => (σ[i]?).join
  | none => none
def cxComp (X : Cx) (N' : List Str) (sc : Scope) (cl : List (Str × Addr)) (s : Shared) (H : Hp) (fp : List Addr) : Cx :=
  { X with N := N', s₀ := s, H₀ := H, env := compEnvC sc cl s.heap.objs.size X.env, outer := X.stack, ex := fp, fn := fun _ => false, pn := [], xe := NoX }
section
variable {X : Cx} {pins : List (Addr × Obj)} {σ : St} {H : Hp} {s : Shared} {N' : List Str} {sc : Scope} {cl : List (Str × Addr)} {cap : List (Option Nat)} {fp : List Addr}
theorem CapOk.length {X : Cx} {sc : Scope} {cl : List (Str × Addr)} : ∀ {N' : List Str} {cap : List (Option Nat)}, CapOk X sc cl N' cap -> cap.length = N'.length
  | [], [], _ => rfl
  | _ :: xs, none :: cs, h => by
    have := CapOk.length (X := X) (sc := sc) (cl := cl) (N' := xs) (cap := cs) h
    simp [this]
  | _ :: xs, some i :: cs, h => by
    have := CapOk.length (X := X) (sc := sc) (cl := cl) (N' := xs) (cap := cs) h.2
    simp [this]
  | [], _ :: _, h => h.elim
  | _ :: _, [], h => h.elim
theorem CapOk.at {X : Cx} {sc : Scope} {cl : List (Str × Addr)} {i : Nat} {x : Str} : ∀ {N' : List Str} {cap : List (Option Nat)} {j : Nat}, CapOk X sc cl N' cap -> N'[j]? = some x -> cap[j]? = some (some i) ->
    X.N[i]? = some x /\ Vis X.env.scope x /\ X.env.kindOf x ≠ some .local /\ ((relabel sc X.env).names.lookup x = some .cell \/ (relabel sc X.env).names.lookup x = some .free) /\ ∃ c, cl.lookup x = some c /\ X.env.cells.lookup x = some c
  | [], [], j, _, h, _ => by simp at h
  | _ :: xs, none :: cs, 0, _, _, h => by simp at h
  | _ :: xs, none :: cs, j + 1, q, h1, h2 => CapOk.at (N' := xs) (cap := cs) (j := j) q (by simpa using h1) (by simpa using h2)
  | y :: xs, some k :: cs, 0, q, h1, h2 => by
    have e1 : y = x := by simpa using h1
    have e2 : k = i := by simpa using h2
    subst e1 e2
    exact q.1
  | _ :: xs, some _ :: cs, j + 1, q, h1, h2 => CapOk.at (N' := xs) (cap := cs) (j := j) q.2 (by simpa using h1) (by simpa using h2)
  | [], _ :: _, _, h, _, _ => h.elim
  | _ :: _, [], _, h, _, _ => h.elim
theorem Inv.block (I : Inv X pins σ H s) (hk : sc.kind = .function) (hcap : CapOk X sc cl N' cap) (sub : SubC X.env cl)
    (has : ∀ x, ((relabel sc X.env).names.lookup x = some .cell \/ (relabel sc X.env).names.lookup x = some .free) -> ∃ c, cl.lookup x = some c)
    (hf : ∀ b ∈ fp, FpOk X pins H b) (hfo : ∀ b ∈ fp, ∃ o, s.heap.get? b = some o) {h' : Heap} {m : Str -> Option Value} {o : Obj} {tk : Nat} (hns : h'.Ns s.heap.objs.size m) (hsb : Heap.SameBut s.heap.objs.size (s.heap.push o) h') :
    Inv (cxComp X N' sc cl s H fp) [] (capS cap σ) H { s with heap := h', toks := tk } := by
  have keep : ∀ b u, s.heap.get? b = some u -> h'.get? b = some u := fun b u e =>
    (hsb.2 b (Nat.ne_of_lt (Heap.lt_size e))).trans (Heap.get?_push_of_some _ e)
  refine ⟨⟨I.ok.mod, hk, I.ok.glob, I.ok.blt, Nat.le_refl _, fun x y c h1 h2 => I.ok.inj x y c (sub.look h1) (sub.look h2), has, (fun x c h _ => nomatch h), I.ok.hd, I.ok.frames, .inl rfl,
    fun b hb => ⟨?_, fun x c e => (hf b hb).2.2.2.2.1 x c (sub.look e)⟩, I.bs, Nat.le_trans I.ok.bsz I.sz, fun b u e hb => ?_, fun b hb hb' => ?_, I.stack, I.stkFree⟩,
    rfl, I.bare, Un.kept keep, ⟨m, hns, fun j x v h1 h2 h3 => ?_⟩, fun x c e => ?_, I.hok.fresh (Nat.le_refl _), fun x c e => I.freeC x c (sub.look e), fun p hp => absurd (show p ∈ ([] : List (Addr × Obj)) from hp) (by simp), I.hok.kept keep, ?_⟩
  . obtain ⟨u, e⟩ := hfo b hb
    exact Nat.ne_of_lt (Heap.lt_size e)
  . rcases (hf b hb).2.2.2.1 with z | z
    . exact I.ok.noex b u e z
    . exact absurd (Nat.lt_of_lt_of_le (Heap.lt_size e) (Nat.le_trans I.ok.bsz z)) (Nat.lt_irrefl _)
  . rcases List.mem_cons.mp (I.stkSub b hb') with z | z
    . exact (hf b hb).2.1 z
    . exact (hf b hb).2.2.1 z
  . obtain ⟨m0, hn0, hl0⟩ := I.loc
    have h2' : ((cap.map fun o => match o with | some i => (σ[i]?).join | none => none) : St)[j]? = some (some v) := h2
    rw [List.getElem?_map] at h2'
    cases e : cap[j]? with
    | none => rw [e] at h2'; cases h2'
    | some oi =>
      rw [e] at h2'
      cases oi with
      | none => cases h2'
      | some i =>
        have h4 : (σ[i]?).join = some v := Option.some.inj h2'
        have h5 : σ[i]? = some (some v) := by
          cases z : σ[i]? with
          | none => rw [z] at h4; cases h4
          | some y => rw [z] at h4; cases h4; rfl
        obtain ⟨a1, a2, a3, a4, c, a5, a6⟩ := hcap.at h1 e
        obtain ⟨u, r, l⟩ := hl0 i x v a1 h5 a2
        refine ⟨u, r, .inr ⟨a4, c, a5, ?_⟩⟩
        rcases l with ⟨k, _⟩ | ⟨_, c', e', ic⟩
        . exact absurd k a3
        . rw [a6] at e'
          cases e'
          obtain ⟨oc, h7, h8⟩ := ic
          exact ⟨oc, keep _ _ h7, h8⟩
  . obtain ⟨v, oc, h7, h8⟩ := I.cell x c (sub.look e)
    exact ⟨v, oc, keep _ _ h7, h8⟩
  . show (capS cap σ).length = N'.length
    unfold capS
    rw [List.length_map]
    exact hcap.length
theorem Inv.unblock {σ' : St} {H' : Hp} {s' : Shared} {pins' : List (Addr × Obj)} (I : Inv X pins σ H s) (hf : ∀ b ∈ fp, FpOk X pins H b) (J : Inv (cxComp X N' sc cl s H fp) pins' σ' H' s') : Inv X pins σ H' s' :=
  I.call' (ch := fp) J.os J.base J.hok J.bare fun b hb => ⟨(hf b hb).2.2.2.1, (hf b hb).2.1, (hf b hb).2.2.2.2.1, (hf b hb).2.2.2.2.2⟩
end
def ExtS : St -> St -> Prop
  | [], [] => True
  | none :: a, _ :: b => ExtS a b
  | some v :: a, y :: b => y = some v /\ ExtS a b
  | _, _ => False
theorem ExtS.at : ∀ {a b : St}, ExtS a b -> ∀ (i : Nat) (v : V), a[i]? = some (some v) -> b[i]? = some (some v)
  | [], [], _, i, v, h => by simp at h
  | none :: a, _ :: b, q, 0, v, h => by simp at h
  | none :: a, _ :: b, q, i + 1, v, h => by
    have := ExtS.at (a := a) (b := b) q i v (by simpa using h)
    simpa using this
  | some u :: a, y :: b, q, 0, v, h => by
    have e : u = v := by simpa using h
    rw [q.1, e]
    rfl
  | some u :: a, y :: b, q, i + 1, v, h => by
    have := ExtS.at (a := a) (b := b) q.2 i v (by simpa using h)
    simpa using this
  | [], _ :: _, q, _, _, _ => q.elim
  | none :: _, [], q, _, _, _ => q.elim
  | some _ :: _, [], q, _, _, _ => q.elim
def PTs (X : Cx) (cs : List Expr) (t : TT) : Prop :=
  ∀ (pins : List (Addr × Obj)) (s : Shared) (σ : St) (H : Hp) (Q : Bool -> Hp -> Prop), Inv X pins σ H s -> t σ H Q -> wpAny (model X.prog X.w) X.A (testsTree cs X.env) (TP X pins σ Q) X.xe s
theorem pts_nil {X : Cx} : PTs X [] (fun _ H Q => Q true H) := fun _ _ _ H _ I h => wpAny_tests_nil ⟨H, I, h⟩
theorem pts_one {X : Cx} {c : Expr} {t : TT} (h : PT X c t) : PTs X [c] t := fun pins s σ H Q I q => wpAny_tests_one (h pins s σ H Q I q)
def lcW (D : Addr) (J : It) (σ : St) (g : TG) (tt : TT) (te : TE) (Q : VK) (W : Nat -> Nat -> List V -> Hp -> Prop) : Prop :=
  ∀ i m ys H, W i m ys H -> H D = some (.lst ys) /\ ys.length < sizeLine /\
    ((J.stop i H /\ Q (.ref D) H) \/ (J.go i H /\ ∀ x H', J.yld i H x H' -> g x σ H' fun σ2 H2 => ExtS σ σ2 /\ tt σ2 H2 fun ok H3 =>
      if ok = true then te σ2 H3 fun y H4 => H4 D = some (.lst ys) /\ ∃ m', m' < m /\ W (i + 1) m' (ys ++ [y]) (upd H4 D (.lst (ys ++ [y])))
      else ∃ m', m' < m /\ W (i + 1) m' ys H3))
def tLC (cap : List (Option Nat)) (wi : TI) (g : TG) (tt : TT) (te : TE) : TE := fun σ H Q => wi σ H fun J H1 => ∀ D, H1 D = none -> ∃ W : Nat -> Nat -> List V -> Hp -> Prop, (∃ m, W 0 m [] (upd H1 D (.lst []))) /\ lcW D J (capS cap σ) g tt te Q W
section
variable {X : Cx} {pins : List (Addr × Obj)} {σ : St} {H : Hp} {s : Shared} {N' : List Str} {sc : Scope} {cl : List (Str × Addr)} {cap : List (Option Nat)} {fp : List Addr}
  {el tg src : Expr} {cs : List Expr} {at' : Pos} {g : TG} {tt : TT} {te : TE} {J : It} {it : Addr} {tn : Nat -> Heap -> Prop} {Q : VK}
structure LcOk (X : Cx) (N' : List Str) (sc : Scope) (cl : List (Str × Addr)) (cap : List (Option Nat)) : Prop where
  kind : sc.kind = .function
  clos : closureFor sc X.env = pure cl
  nocell : ∀ y ∈ sc.names, y.2 ≠ .cell
  names : ∀ y ∈ sc.names, y.2 = .local -> sc.names.lookup y.1 = some .local
  cap : CapOk X sc cl N' cap
  sub : SubC X.env cl
  has : ∀ x, ((relabel sc X.env).names.lookup x = some .cell \/ (relabel sc X.env).names.lookup x = some .free) -> ∃ c, cl.lookup x = some c
theorem lc_ok (kind : sc.kind = .function) (clos : closureFor sc X.env = pure cl) (h1 : (sc.names.all fun y => y.2 != .cell) = true) (h2 : (sc.names.all fun y => y.2 != .local || sc.names.lookup y.1 == some .local) = true)
    (hcap : CapOk X sc cl N' cap) (sub : SubC X.env cl) (h3 : ((relabel sc X.env).names.all fun y => (y.2 != .cell && y.2 != .free) || (cl.lookup y.1).isSome) = true) : LcOk X N' sc cl cap := by
  refine ⟨kind, clos, fun y hy e => ?_, fun y hy e => ?_, hcap, sub, fun x hx => ?_⟩
  . have q := List.all_eq_true.mp h1 y hy
    rw [e] at q
    exact absurd q (by decide)
  . have q := List.all_eq_true.mp h2 y hy
    rw [e] at q
    simpa using q
  . have key : ∀ k, (k = NameKind.cell \/ k = NameKind.free) -> (relabel sc X.env).names.lookup x = some k -> ∃ c, cl.lookup x = some c := fun k hk e => by
      have q := List.all_eq_true.mp h3 _ (PySem.mem_of_lookup e)
      rcases hk with rfl | rfl
      . exact Option.isSome_iff_exists.mp (by simpa using q)
      . exact Option.isSome_iff_exists.mp (by simpa using q)
    rcases hx with e | e
    . exact key _ (.inl rfl) e
    . exact key _ (.inr rfl) e
theorem comp_main (L : LcOk X N' sc cl cap) (hc : X.calm = true) (I : Inv X pins σ H s) (T : Turn X.prog X.w X.K tg J fp it tn) (st : tn 0 s.heap) (hf : ∀ b ∈ fp, FpOk X pins H b)
    (hg : ∀ s H fp, PG (cxComp X N' sc cl s H fp) tg g) (ht : ∀ s H fp, PTs (cxComp X N' sc cl s H fp) cs tt) (he : ∀ s H fp, PE (cxComp X N' sc cl s H fp) el te)
    (rd : ∀ D, H D = none -> ∃ W : Nat -> Nat -> List V -> Hp -> Prop, (∃ m, W 0 m [] (upd H D (.lst []))) /\ lcW D J (capS cap σ) g tt te Q W)
    {Ex : Value -> Shared -> Prop} {RR : Value -> Addr -> Result -> Shared -> Prop} (hR : ∀ D C m H' s', Inv X pins σ H' s' -> s'.heap.Ns C m -> FpOk X pins H' C -> Q (.ref D) H' -> RR (.ref D) C (.ok .next) s') :
    wpAny (model X.prog X.w) X.A (newList []) (fun acc s3 => wpAny (model X.prog X.w) X.A (newFunctionEnv sc X.env.globals cl [] X.env.qual none .none (some X.env)) (fun cv s4 =>
      codeAny (model X.prog X.w) X.A (.compStart (.ListComp el [⟨tg, src, cs, 0⟩] sc at') 0 (.ref it) acc { cv with scope := relabel sc X.env }) (RR acc cv.locals) s4) Ex s3) Ex s := by
  obtain ⟨W, ⟨m0, w0⟩, step⟩ := rd _ I.fresh
  refine wpAny_newObj_type (wpAny_newFunctionEnv L.nocell (by intro y hy; simp at hy) (fun h1 hns hsb => ?_) L.kind)
  have I3 : Inv X pins σ (upd H s.heap.objs.size (.lst [])) { s with heap := s.heap.push { cls := .type "list", dict := none, data := .seq ([] : List Value).toArray } } := I.lnew (its := []) (t' := s.toks) .nil (by show 0 <= sizeLine; decide)
  have hfo : ∀ b ∈ fp, ∃ o, s.heap.get? b = some o := fun b hb => let ⟨o, e, _⟩ := T.obj 0 s.heap st b hb; ⟨o, e⟩
  have hf3 : ∀ b ∈ fp, FpOk X pins (upd H s.heap.objs.size (.lst [])) b := fun b hb => by
    obtain ⟨o, e⟩ := hfo b hb
    exact ⟨by rw [upd_ne (Nat.ne_of_lt (Heap.lt_size e))]; exact (hf b hb).1, (hf b hb).2⟩
  dsimp only at hns hsb ⊢
  generalize hs3 : ({ s with heap := s.heap.push { cls := .type "list", dict := none, data := .seq ([] : List Value).toArray } } : Shared) = s3 at I3 hns hsb ⊢
  have hh3 : s3.heap = s.heap.push { cls := .type "list", dict := none, data := .seq ([] : List Value).toArray } := by rw [<- hs3]
  have hns : h1.Ns s3.heap.objs.size (fun x => List.lookup x ([] : List (Str × Value)).reverse) := by rw [hh3]; exact hns
  have hsb : Heap.SameBut s3.heap.objs.size (s3.heap.push { cls := .type (if (some X.env).isSome = true then "dict" else "frame"), data := .dict #[] }) h1 := by rw [hh3]; exact hsb
  have hk3 : ∀ b o, s.heap.get? b = some o -> s3.heap.get? b = some o := fun b o e => by rw [hh3]; exact Heap.get?_push_of_some _ e
  have J0 := I3.block (N' := N') (cap := cap) (fp := fp) (tk := s3.toks + ([] : List (Str × Value)).length) L.kind L.cap L.sub L.has hf3 (fun b hb => let ⟨o, e⟩ := hfo b hb; ⟨o, hk3 b o e⟩) hns hsb
  have st1 : tn 0 h1 := T.keep 0 s.heap h1 st fun b hb o e => (hsb.2 b (Nat.ne_of_lt (Heap.lt_size (hk3 b o e)))).trans (Heap.get?_push_of_some _ (hk3 b o e))
  have fpx : ∀ {H' : Hp}, (∀ b ∈ fp, H' b = none) -> ∀ b ∈ fp, FpOk (cxComp X N' sc cl s3 (upd H s.heap.objs.size (.lst [])) fp) [] H' b := fun hn b hb => by
    obtain ⟨o, e⟩ := hfo b hb
    refine ⟨hn b hb, Nat.ne_of_lt (Heap.lt_size (hk3 b o e)), fun hb' => ?_, .inl hb, fun x c q => (hf b hb).2.2.2.2.1 x c (L.sub.look q), fun p hp => absurd (show p ∈ ([] : List (Addr × Obj)) from hp) (by simp)⟩
    rcases List.mem_cons.mp (I.stkSub b hb') with z | z
    . exact (hf b hb).2.1 z
    . exact (hf b hb).2.2.1 z
  have loop : ∀ s4 : Shared, s4 = { s3 with heap := h1, toks := s3.toks + ([] : List (Str × Value)).length } ->
      codeAny (model X.prog X.w) X.A (.compLoop (.ListComp el [⟨tg, src, cs, 0⟩] sc at') 0 (.ref it) (.ref s.heap.objs.size) (compEnvC sc cl s3.heap.objs.size X.env)) (RR (.ref s.heap.objs.size) s3.heap.objs.size) s4 := by
    rintro s4 rfl
    refine comp_loop (fun n s' => ∃ i ys H', Inv (cxComp X N' sc cl s3 (upd H s.heap.objs.size (.lst [])) fp) [] (capS cap σ) H' s' /\ tn i s'.heap /\ (∀ b ∈ fp, H' b = none) /\ W i n ys H') ?_ m0 ⟨0, [], _, J0, st1, fun b hb => (hf3 b hb).1, w0⟩
    rintro n s' ⟨i, ys, H', Ji, sti, fri, wi⟩
    obtain ⟨hD, hlen, hgo⟩ := step i n ys H' wi
    rcases hgo with ⟨hstop, hq⟩ | ⟨hgo, hbody⟩
    . refine thn (T.done (cxComp X N' sc cl s3 (upd H s.heap.objs.size (.lst [])) fp) rfl rfl rfl hc i [] s' _ H' NoX Ji (fpx fri) sti hstop) fun r s1 ⟨hr, J1⟩ => .inl ⟨hr, ?_⟩
      obtain ⟨m1, hm1, _⟩ := J1.loc
      exact hR _ _ m1 H' s1 (I3.unblock hf3 J1) hm1 (I3.fpOk (Nat.le_refl _) J1.free) hq
    . refine thn (T.item (cxComp X N' sc cl s3 (upd H s.heap.objs.size (.lst [])) fp) rfl rfl rfl hc i [] s' _ H' NoX Ji (fpx fri) sti hgo) fun r s1 ⟨u, hr, h4⟩ => .inr ⟨u, hr, thn h4 fun _ s5 ⟨x, H5, J5, r5, y5, st5, fr5⟩ => ?_⟩
      have J5' := J5.pinned (fpx fr5) (T.obj _ _ st5)
      refine thn (hg _ _ _ _ s5 _ H5 x u _ J5' r5 (hbody x H5 y5)) fun _ s6 ⟨σ6, H6, J6, ext, q6⟩ => ?_
      have endT : ∀ {ys' : List V} {H7 : Hp} {s7 : Shared} {m' : Nat}, Inv (cxComp X N' sc cl s3 (upd H s.heap.objs.size (.lst [])) fp) ([] ++ pinsAt fp s5.heap) σ6 H7 s7 -> m' < n -> W (i + 1) m' ys' H7 ->
          ∃ m, m < n /\ ∃ i ys H', Inv (cxComp X N' sc cl s3 (upd H s.heap.objs.size (.lst [])) fp) [] (capS cap σ) H' s7 /\ tn i s7.heap /\ (∀ b ∈ fp, H' b = none) /\ W i m ys H' := fun {ys' H7 s7 m'} J7 hm w7 => by
        refine ⟨m', hm, i + 1, ys', H7, (J7.unpinned).weak ?_ fun j v z => ext.at j v z, T.keep _ _ _ st5 fun b hb o e => (J7.pin (b, o) (List.mem_append_right _ (List.mem_append_right _ (mem_pinsAt hb e)))).1, fun b hb => ?_, w7⟩
        . rw [J7.len, Ji.len]
        . obtain ⟨o, e, _⟩ := T.obj _ _ st5 b hb
          exact (J7.pin (b, o) (List.mem_append_right _ (List.mem_append_right _ (mem_pinsAt hb e)))).2.1
      refine thn (ht _ _ _ _ s6 _ H6 _ J6 q6) fun ok s7 ⟨H7, J7, q7⟩ => ?_
      cases ok with
      | false =>
        obtain ⟨m', hm, w7⟩ := q7
        exact endT J7 hm w7
      | true =>
        refine thn (he _ _ _ _ s7 _ H7 _ J7 q7) fun y s8 ⟨yv, H8, J8, r8, hD8, m', hm, w8⟩ => ?_
        exact thn (mt_append _ s8 _ H8 (.ref s.heap.objs.size) [yv] (.ref s.heap.objs.size) [y] (fun v H9 => H9 = upd H8 s.heap.objs.size (.lst (ys ++ [yv]))) J8 rfl (.cons r8 .nil) ⟨_, ys, yv, rfl, rfl, hD8, hlen, rfl⟩) fun _ s9 ⟨_, H9, J9, _, e9⟩ => by
          subst e9
          exact endT J9 hm w8
  subst hs3
  exact codeAny_compStart_list (loop _ rfl) (T.self _ 0 _ _ _ st1 (loop _ rfl))
theorem pe_lc {wi : TI} (L : LcOk X N' sc cl cap) (hc : X.calm = true) (hi : PI X tg src wi) (hg : ∀ s H fp, PG (cxComp X N' sc cl s H fp) tg g) (ht : ∀ s H fp, PTs (cxComp X N' sc cl s H fp) cs tt) (he : ∀ s H fp, PE (cxComp X N' sc cl s H fp) el te)
    (hs : ∀ x, foldedSetIterable src X.env x = pure x := by intro _; rfl) : PE X (.ListComp el [⟨tg, src, cs, 0⟩] sc at') (tLC cap wi g tt te) := by
  intro pins s σ H Q I h
  rw [eval_ListComp]
  refine wpAny_comprehension_free (use := none) rfl hs L.clos L.kind L.names (thn (hi pins s σ H _ I h) fun v s1 h1 => thn h1 fun itv s2 h2 => ?_)
  obtain ⟨it, fp, tn, J, H2, rfl, I2, T, st2, f2, rd⟩ := h2
  refine comp_main L hc I2 T st2 f2 hg ht he rd (RR := fun acc C => compPost (model X.prog X.w) X.A X.xe none (EP X pins σ Q) acc C) fun D C m H' s' J' hn fC q => ?_
  refine ⟨m, hn, fun h' sb => ⟨.ref D, H', J'.turned (t' := s'.toks) (fun b o hb e => (sb.2 b hb).trans e) fC.1 fC.2.1 fC.2.2.2.1 fC.2.2.2.2.1 fC.2.2.2.2.2, rfl, q⟩⟩
theorem ps_lc {wi : TI} {i : Nat} {x : Str} {px spos : Pos} (hN : X.N.Nodup) (hi' : X.N[i]? = some x) (hx : X.env.scope.names.lookup x = some .local) (L : LcOk X N' sc cl cap) (hc : X.calm = true) (hi : PI X tg src wi) (hg : ∀ s H fp, PG (cxComp X N' sc cl s H fp) tg g)
    (ht : ∀ s H fp, PTs (cxComp X N' sc cl s H fp) cs tt) (he : ∀ s H fp, PE (cxComp X N' sc cl s H fp) el te) (hsw : swapsWith (.ListComp el [⟨tg, src, cs, 0⟩] sc at') (some (.Name x px)) spos.line X.env = pure true)
    (hs : ∀ x, foldedSetIterable src X.env x = pure x := by intro _; rfl) : PS X (.Assign [.Name x px] (.ListComp el [⟨tg, src, cs, 0⟩] sc at') spos) (tAsg (tLC cap wi g tt te) (gName i)) := by
  intro pins s σ H D I h
  rw [exec_Assign_Name_used _ _ _ _ hsw]
  refine wpAny_bind (wpAny_standAt (wpAny_bind ?_))
  show wpAny _ X.A (do let _ <- comprehension (.ListComp el [⟨tg, src, cs, 0⟩] sc at') sc X.env _ (newList []) false (eval src X.env) (some (assign (.Name x px) X.env))) _ _ s
  refine wpAny_bind (thn (wpAny_comprehension_free (use := some (assign (.Name x px) X.env)) (Q := fun _ s' => SP X pins D .next s') rfl hs L.clos L.kind L.names (thn (hi pins s σ H _ I h) fun v s1 h1 => thn h1 fun itv s2 h2 => ?_)) fun _ s' q => wpAny_pure (wpAny_pure q))
  obtain ⟨it, fp, tn, J, H2, rfl, I2, T, st2, f2, rd⟩ := h2
  refine comp_main L hc I2 T st2 f2 hg ht he rd (RR := fun acc C => compPost (model X.prog X.w) X.A X.xe (some (assign (.Name x px) X.env)) (fun _ s' => SP X pins D .next s') acc C) fun D' C m H' s' J' hn fC q => ?_
  obtain ⟨oC, es, ep, hoC, hdC, hr⟩ := hn
  have Jp : Inv X (pins ++ [(C, oC)]) σ H' s' := J'.pins_of fun p hp => by
    rcases List.mem_append.mp hp with z | z
    . exact J'.pin p (List.mem_append_right _ z)
    . have e : p = (C, oC) := by simpa using z
      subst e
      exact ⟨hoC, fC.1, fC.2.1, fC.2.2.1, fun v z => by rw [hdC] at z; cases z⟩
  show wpAny _ X.A (assign (.Name x px) X.env (.ref D')) _ _ s'
  refine thn (pg_name (i := i) hN hi' (.inl hx) (.inr hx) _ s' σ H' (.ref D') (.ref D') (fun σ' H'' => D.nx σ' H'') Jp rfl q) fun _ s'' ⟨σ', H'', J2, q2⟩ => ?_
  obtain ⟨p1, p2, p3, p4, p5⟩ := J2.pin (C, oC) (List.mem_append_right _ (List.mem_append_right _ (by simp)))
  refine ⟨m, ⟨oC, es, ep, p1, hdC, hr⟩, fun h' sb => ⟨σ', H'', (J2.pins_of (pins' := pins) fun p hp => J2.pin p (List.mem_append_right _ (List.mem_append_left _ hp))).turned (t' := s''.toks) (fun b o hb e => (sb.2 b hb).trans e) p2 fC.2.1 fC.2.2.2.1 fC.2.2.2.2.1 fC.2.2.2.2.2, q2⟩⟩
end
abbrev bmV : List Value := [.type "ValueError", .type "Exception", .type "BaseException", .type "object"]
abbrev ExcC (K : PySem.W.Frag) (C : Addr) : Prop := PySem.W.excIn K C bmV "ValueError.__new__" = true
structure ClsFn (K : PySem.W.Frag) (C : Addr) (m : Str) (f : Addr) : Prop where
  ga : PySem.W.specialIn K (.ref C) "__getattribute__" = some (some (.builtin "type.__getattribute__"))
  rd : PySem.W.readsIn K C (.type "type") = true
  fc : PySem.W.findCls K (.ref C) (.type "type") m = some (.val (.ref f))
  kp : PySem.W.keepIn K (.ref f) = true
section
variable {X : Cx} {CX : CXT} {k : Nat} {f C : Addr} {fd : FuncData} {ps : List Str} {sp : Sp} {dvs : List V} {ds : List Value} {E : XK} {x m : Str} {p pos apos : Pos} {e o : Expr} {es : List Expr} {ta : TE} {t : TA}
theorem pe_clsM {pl : Sem Bool} (hg : Gl X x) (hm : X.mg x = some (.ref C)) (c : ClsFn X.K C m f) (F : FnOk X.prog X.w X.K X.mg X.base CX k f fd ps sp) (hr : Room k X.A) (hb : Binds X.K fd ps ds) (hd : Vals dvs ds) (hx : Passes CX X E) (ha : PA X (e :: es) t)
    (hdb : (x == ("__debug__" : Str)) = false := by decide) (hst : starEach (e :: es) X.env = (false, eval e X.env) :: starEach es X.env := by rfl) (hpl : (backTo pos (starEach es X.env)).any (·.1) = false := by rfl)
    (ht : eval (.Call (.Attribute (.Name x p) m apos) (e :: es) [] pos) X.env = (do
      let ov <- eval (.Name x p) X.env
      standAt apos.atName
      let (f, first) <- holding [ov] (getMethod ov m pl)
      callWith pos f first (backTo pos (starEach (e :: es) X.env)) (backToKw pos (keywordEach [] X.env))) := by rfl) : PE X (.Call (.Attribute (.Name x p) m apos) (e :: es) [] pos) (tCall sp dvs E t) := by
  intro pins s σ H Q I h
  refine PySem.W.methodCall_KW (pl := pl) (ld_glob I hg hm ?_ hdb) ht
  refine PySem.W.method_cls I.kIn c.ga (PySem.W.cls_value I.kIn c.rd c.fc rfl ?_)
  have I' := I.tok (s.toks + 1)
  refine PySem.W.callWith_K (first := []) (h₀ := X.base) I.ok.mod.kin c.kp (thn (ha pos pins _ σ H _ I' h) fun us s1 ⟨vs, H1, I1, r, q⟩ => ⟨I1.kIn, ?_⟩) hst hpl
  exact run_fn F hr hb hd hx I1 r q
end
structure OkM (P : Program) (w : World) (K : PySem.W.Frag) (mg : Str -> Option Value) (base : Heap) (CX : CXT) (k : Nat) (C : Addr) (m : Str) (ps : List Str) (sp : Sp) : Prop where
  ex : ∃ f fd, FnOk P w K mg base CX k f fd ps sp /\ Binds K fd ps [] /\ Meth K C m f /\ Cls K C
def spKM (KA : Hp -> Addr -> Int -> Prop) (a : Addr) (z : Int) (n : Nat) (pre : Int -> List Int -> Prop) (F : Int -> List Int -> Int) : Sp := fun vs H Q _ => ∃ ns : List Int, ns.length = n /\ vs = .ref a :: ns.map V.int /\ KA H a z /\ pre z ns /\ Q (.int (F z ns)) H
structure KM (P : Program) (w : World) (K : PySem.W.Frag) (mg : Str -> Option Value) (base : Heap) (k : Nat) (KA : Hp -> Addr -> Int -> Prop) (m : Str) (n : Nat) (pre : Int -> List Int -> Prop) (F : Int -> List Int -> Int) : Prop where
  ex : ∀ H a z, KA H a z -> ∃ C dx fs ps, H a = some (.ins C dx fs) /\ fs.lookup m = none /\ OkM P w K mg base CX0 k C m ps (spKM KA a z n pre F)
structure OkC (P : Program) (w : World) (K : PySem.W.Frag) (mg : Str -> Option Value) (base : Heap) (CX : CXT) (k : Nat) (x : Str) (C : Addr) (m : Str) (ps : List Str) (sp : Sp) : Prop where
  ex : ∃ f fd, FnOk P w K mg base CX k f fd ps sp /\ Binds K fd ps [] /\ ClsFn K C m f /\ mg x = some (.ref C)
structure OkI (P : Program) (w : World) (K : PySem.W.Frag) (mg : Str -> Option Value) (base : Heap) (CX : CXT) (k : Nat) (x : Str) (C : Addr) (ps : List Str) (sp : Sp) : Prop where
  ex : ∃ f fd, FnOk P w K mg base CX k f fd ps sp /\ Binds K fd ps [] /\ Mk K C f /\ mg x = some (.ref C)
section
variable {X : Cx} {CX : CXT} {j k : Nat} {C : Addr} {ps : List Str} {sp : Sp} {E : XK} {x m : Str} {p pos apos : Pos} {e : Expr} {es : List Expr} {t : TA}
theorem pe_clsO {pl : Sem Bool} (o : OkC X.prog X.w X.K X.mg X.base CX j x C m ps sp) (hr : Room k X.A) (hx : Passes CX X E) (ha : PA X (e :: es) t) (hj : j <= k := by decide) (hg : Gl X x := by rfl)
    (hdb : (x == ("__debug__" : Str)) = false := by decide) (hst : starEach (e :: es) X.env = (false, eval e X.env) :: starEach es X.env := by rfl) (hpl : (backTo pos (starEach es X.env)).any (·.1) = false := by rfl)
    (ht : eval (.Call (.Attribute (.Name x p) m apos) (e :: es) [] pos) X.env = (do
      let ov <- eval (.Name x p) X.env
      standAt apos.atName
      let (f, first) <- holding [ov] (getMethod ov m pl)
      callWith pos f first (backTo pos (starEach (e :: es) X.env)) (backToKw pos (keywordEach [] X.env))) := by rfl) : PE X (.Call (.Attribute (.Name x p) m apos) (e :: es) [] pos) (tCall sp [] E t) := by
  obtain ⟨f, fd, F, b, c, mm⟩ := o.ex
  exact pe_clsM hg mm c (F.mono hj) hr b .nil hx ha hdb hst hpl ht
theorem pe_makeO0 (o : OkI X.prog X.w X.K X.mg X.base CX j x C ps sp) (hr : Room k X.A) (hx : Passes CX X E) (hj : j + 1 <= k := by decide) (hg : Gl X x := by rfl) (hdb : (x == ("__debug__" : Str)) = false := by decide) : PE X (.Call (.Name x p) [] [] pos) (tMake C sp [] E tNil) := by
  obtain ⟨f, fd, F, b, c, mm⟩ := o.ex
  exact pe_make0 c F (hr.mono hj) hg mm b .nil hx hdb
end
def spS (K : PySem.W.Frag) (n : Nat) (pre : List Int -> List Int -> Prop) (F : List Int -> List Int -> Int) : Sp := fun vs H Q _ => ∃ (a : Addr) (xs is : List Int), is.length = n /\ vs = .ref a :: is.map V.int /\ SqL K H a (xs.map V.int) /\ pre xs is /\ Q (.int (F xs is)) H
def kMeths : List Str := ["plain", "plus", "less", "times", "over"]
def KAt (cW cR cP : Addr) (H : Hp) (a : Addr) (z : Int) : Prop := ∃ C dx fs, H a = some (.ins C dx fs) /\ ((C = cW /\ z = 0) \/ ((C = cR \/ C = cP) /\ 0 < z)) /\ fs.lookup ("size" : Str) = some (.int z) /\ ∀ m ∈ kMeths, fs.lookup m = none
def pl (z n : Int) : Int := if z = 0 then n else n % z
theorem pl_zero (n : Int) : pl 0 n = n := rfl
section
variable {X : Cx} {pins : List (Addr × Obj)} {σ : St} {H : Hp} {s : Shared} {h' : Heap}
theorem Inv.turnedL {ch : List Addr} {t' : Nat} (I : Inv X pins σ H s) (hf : ∀ b ∈ ch, FpOk X pins H b) (k : ∀ b o, b ∉ ch -> s.heap.get? b = some o -> h'.get? b = some o) : Inv X pins σ H { s with heap := h', toks := t' } := by
  have nit : ∀ b u, H b = some u -> b ∉ ch := fun b u e z => by rw [(hf b z).1] at e; cases e
  refine I.step (g' := s.gens) (d' := s.drawn) (ch := ch) (fun b hb => ⟨(hf b hb).2.2.2.1, (hf b hb).2.1, (hf b hb).2.2.2.2.1, (hf b hb).2.2.2.2.2⟩) (fun b o _ _ hc e _ => k b o hc e) (fun b o _ _ hc e _ => ⟨o.slots, k b o hc e⟩) (fun _ _ _ _ n => n)
    (fun b o hc e => ⟨o, k b o hc e⟩) (fun _ _ e => e) (fun _ _ _ e => e) (fun b ps e => ⟨#[], by rw [e]; simp⟩) (fun m hm => ?_) (fun b u e => ?_) I.bare
  . obtain ⟨o, es, ep, ho, r⟩ := hm
    exact ⟨o, es, ep, k _ o (fun z => (hf _ z).2.1 rfl) ho, r⟩
  . refine (I.hok b u e).stay (fun c v hc q => k c v ?_ q) (fun _ q => q) fun _ _ q => q
    rcases hc with z | z
    . rw [z]; exact nit b u e
    . exact nit c _ z
theorem Inv.track {T : Addr} {o : HO} (I : Inv X pins σ H s) (f : FpOk X pins H T) (new : ObjOk X.prog X.w (upd H T o) s.heap T o) : Inv X pins σ (upd H T o) s := by
  obtain ⟨f0, f1, f2, f3, f4, f5⟩ := f
  have ne : ∀ {b : Addr} {u : HO}, H b = some u -> b ≠ T := fun e => ne_of_none e f0
  refine ⟨I.ok, I.os, I.bare, ⟨I.base.keep, I.base.slot, fun b ob e n x => ?_, I.base.there, fun b xs e => ?_, fun b ob u e => ?_, fun b ps e => ?_⟩, I.loc, I.cell, by rw [upd_ne (Ne.symm f1)]; exact I.free, fun x c e => ?_, fun p hp => ?_, fun b u e => ?_, I.len⟩
  . have hb : b ≠ T := fun z => by
      subst z
      rcases f3 with z | z
      . exact x z
      . exact absurd (Nat.lt_of_lt_of_le (Heap.lt_size e) z) (Nat.lt_irrefl _)
    rw [upd_ne hb]; exact I.base.free b ob e n x
  . have q := I.base.tups b xs e
    rw [upd_ne (ne q)]; exact q
  . have q := I.base.frzs b ob u e
    rw [upd_ne (ne q)]; exact q
  . obtain ⟨m, q⟩ := I.base.tbls b ps e
    exact ⟨m, by rw [upd_ne (ne q)]; exact q⟩
  . rw [upd_ne (f4 x c e)]; exact I.freeC x c e
  . obtain ⟨a1, a2, a3⟩ := I.pin p hp
    exact ⟨a1, by rw [upd_ne (f5 p hp)]; exact a2, a3⟩
  . by_cases c : b = T
    . subst c; rw [upd_same] at e; cases e; exact new
    . rw [upd_ne c] at e
      exact (I.hok b u e).stay (fun _ _ _ q => q) (fun d q => by rw [upd_ne (ne q)]; exact q) fun d xs q => by rw [upd_ne (ne q)]; exact q
end
theorem int_at {ns : List Int} {i : Nat} {x : V} (h : (ns.map V.int)[i]? = some x) : ∃ n, x = .int n /\ ns[i]? = some n := by
  rw [List.getElem?_map] at h
  cases e : ns[i]? with
  | none => rw [e] at h; cases h
  | some n => rw [e] at h; exact ⟨n, (Option.some.inj h).symm, rfl⟩
theorem take_at {α : Type} {ns : List α} {i : Nat} {n : α} (h : ns[i]? = some n) : ns.take (i + 1) = ns.take i ++ [n] := by rw [List.take_add_one, h]; rfl
abbrev noTest : TT := fun _ H Q => Q true H
end L2
namespace FM
open L2
def IsP (n : Int) : Prop := 2 <= n /\ n <= 9973 /\ ∀ d : Int, 2 <= d -> d * d <= n -> ¬ n % d = 0
open Classical in
open Classical in
open Classical in
open Classical in
def Clean (n d : Int) : Prop := ∀ e : Int, 2 <= e -> e < d -> ¬ n % e = 0
theorem pl_pl (z n : Int) : pl z (pl z n) = pl z n := by
  unfold pl
  by_cases h : z = 0
  . rw [if_pos h, if_pos h]
  . rw [if_neg h, if_neg h, Int.emod_emod_of_dvd _ (Int.dvd_refl z)]
def trimZ (xs : List Int) : List Int := (xs.reverse.dropWhile (· == 0)).reverse
theorem trimZ_zero (xs : List Int) : trimZ (xs ++ [0]) = trimZ xs := by
  unfold trimZ
  rw [List.reverse_append]
  simp
theorem trimZ_ne (xs : List Int) {x : Int} (h : x ≠ 0) : trimZ (xs ++ [x]) = xs ++ [x] := by
  unfold trimZ
  rw [List.reverse_append]
  simp [h]
theorem trimZ_len (xs : List Int) : (trimZ xs).length <= xs.length := by
  unfold trimZ
  have := (List.dropWhile_sublist (· == 0) (l := xs.reverse)).length_le
  simpa using this
def ev : List Int -> Int -> Int
  | [], _ => 0
  | n :: r, x => n + x * ev r x
end FM
namespace L3
open PySem PySem.Spec PyProof.Rows L2
inductive PV where
  | int (n : Int) | bl (b : Bool) | non | str (s : Str) | ints (ns : List Int) | scr (ns : List Int) | lst (xs : List PV) | tup (xs : List PV) | ob (k : Nat) (z : Int) | ty (n : String) | cls (a : Addr)
structure Gx where
  ob : Nat -> Hp -> Addr -> Int -> Prop
  mono : ∀ k H H' a z, Same H H' -> ob k H a z -> ob k H' a z
mutual
def At (K : PySem.W.Frag) (G : Gx) (H : Hp) : PV -> V -> Prop
  | .int n, v => v = .int n
  | .bl b, v => v = .bl b
  | .non, v => v = .non
  | .str s, v => v = .str s
  | .ints ns, v => ∃ a, v = .ref a /\ Rd H a (.lst (ns.map V.int))
  | .scr ns, v => ∃ a, v = .ref a /\ SqL K H a (ns.map V.int)
  | .lst xs, v => ∃ a vs, v = .ref a /\ Rd H a (.lst vs) /\ AtL K G H xs vs
  | .tup xs, v => ∃ a vs, v = .ref a /\ H a = some (.tup vs) /\ AtL K G H xs vs
  | .ob k z, v => ∃ a, v = .ref a /\ G.ob k H a z
  | .ty n, v => v = .ty n
  | .cls a, v => v = .ref a
def AtL (K : PySem.W.Frag) (G : Gx) (H : Hp) : List PV -> List V -> Prop
  | [], vs => vs = []
  | p :: ps, vs => ∃ v r, vs = v :: r /\ At K G H p v /\ AtL K G H ps r
end
theorem same_rd {H H' : Hp} {a : Addr} {u : HO} (e : Same H H') (h : Rd H a u) : Rd H' a u := by
  rcases h with h | ⟨o, h⟩
  . exact .inl (e _ _ h)
  . exact .inr ⟨o, e _ _ h⟩
mutual
theorem At.mono {K : PySem.W.Frag} {G : Gx} {H H' : Hp} (s : Same H H') : ∀ (p : PV) (v : V), At K G H p v -> At K G H' p v
  | .int _, _, h => h
  | .bl _, _, h => h
  | .non, _, h => h
  | .str _, _, h => h
  | .ints _, _, h => by obtain ⟨a, e, q⟩ := h; exact ⟨a, e, same_rd s q⟩
  | .scr _, _, h => by obtain ⟨a, e, q⟩ := h; exact ⟨a, e, s.seq q⟩
  | .lst xs, _, h => by obtain ⟨a, vs, e, q, r⟩ := h; exact ⟨a, vs, e, same_rd s q, AtL.mono s xs vs r⟩
  | .tup xs, _, h => by obtain ⟨a, vs, e, q, r⟩ := h; exact ⟨a, vs, e, s _ _ q, AtL.mono s xs vs r⟩
  | .ob _ _, _, h => by obtain ⟨a, e, q⟩ := h; exact ⟨a, e, G.mono _ _ _ _ _ s q⟩
  | .ty _, _, h => h
  | .cls _, _, h => h
theorem AtL.mono {K : PySem.W.Frag} {G : Gx} {H H' : Hp} (s : Same H H') : ∀ (ps : List PV) (vs : List V), AtL K G H ps vs -> AtL K G H' ps vs
  | [], _, h => h
  | p :: ps, _, h => by obtain ⟨v, r, e, q, t⟩ := h; exact ⟨v, r, e, At.mono s p v q, AtL.mono s ps r t⟩
end
theorem AtL.length {K : PySem.W.Frag} {G : Gx} {H : Hp} : ∀ {ps : List PV} {vs : List V}, AtL K G H ps vs -> ps.length = vs.length
  | [], _, h => by cases h; rfl
  | p :: ps, _, h => by
    obtain ⟨v, r, rfl, _, t⟩ := h
    rw [List.length_cons, List.length_cons, AtL.length t]
theorem AtL.at {K : PySem.W.Frag} {G : Gx} {H : Hp} : ∀ {ps : List PV} {vs : List V} {i : Nat} {p : PV}, AtL K G H ps vs -> ps[i]? = some p -> ∃ v, vs[i]? = some v /\ At K G H p v
  | [], _, i, v, h, e => by simp at e
  | p :: ps, _, 0, v, h, e => by
    obtain ⟨w, r, rfl, q, t⟩ := h
    simp at e
    subst e
    exact ⟨w, rfl, q⟩
  | p :: ps, _, i + 1, v, h, e => by
    obtain ⟨w, r, rfl, q, t⟩ := h
    obtain ⟨v', e', q'⟩ := AtL.at (i := i) (p := v) t (by simpa using e)
    exact ⟨v', by simpa using e', q'⟩
theorem AtL.snoc {K : PySem.W.Frag} {G : Gx} {H : Hp} {p : PV} {v : V} : ∀ {ps : List PV} {vs : List V}, AtL K G H ps vs -> At K G H p v -> AtL K G H (ps ++ [p]) (vs ++ [v])
  | [], _, h, q => by cases h; exact ⟨v, [], rfl, q, rfl⟩
  | p' :: ps, _, h, q => by
    obtain ⟨w, r, rfl, q', t⟩ := h
    exact ⟨w, _, rfl, q', AtL.snoc t q⟩
def mn (H : Hp) (O : Addr -> Bool) : Hp := fun b => if O b = true then none else H b
theorem mn_get {H : Hp} {O : Addr -> Bool} {b : Addr} {o : HO} (h : mn H O b = some o) : O b = false /\ H b = some o := by
  unfold mn at h
  by_cases c : O b = true
  . rw [if_pos c] at h; cases h
  . rw [if_neg c] at h; exact ⟨by simpa using c, h⟩
theorem mn_of {H : Hp} {O : Addr -> Bool} {b : Addr} (h : O b = false) : mn H O b = H b := by unfold mn; rw [if_neg (by rw [h]; decide)]
theorem mn_le {H : Hp} {O : Addr -> Bool} : Same (mn H O) H := fun _ _ h => (mn_get h).2
theorem mn_same {H H' : Hp} {O : Addr -> Bool} (s : Same H H') : Same (mn H O) (mn H' O) := fun b o h => by
  obtain ⟨c, e⟩ := mn_get h
  rw [mn_of c]; exact s b o e
theorem mn_anti {H : Hp} {O O' : Addr -> Bool} (k : ∀ a, O a = true -> O' a = true) : Same (mn H O') (mn H O) := fun b o h => by
  obtain ⟨c, e⟩ := mn_get h
  have : O b = false := by
    cases z : O b with
    | false => rfl
    | true => rw [k b z] at c; cases c
  rw [mn_of this]; exact e
def hide (a : Addr) (O : Addr -> Bool) : Addr -> Bool := fun b => b == a || O b
theorem hide_ne {a b : Addr} {O : Addr -> Bool} (h : b ≠ a) : hide a O b = O b := by unfold hide; simp [h]
theorem hide_self {a : Addr} {O : Addr -> Bool} : hide a O a = true := by unfold hide; simp
theorem hide_le {a : Addr} {O : Addr -> Bool} : ∀ b, O b = true -> hide a O b = true := fun b h => by unfold hide; simp [h]
theorem mn_hide {H H' : Hp} {O : Addr -> Bool} {a : Addr} (s : Same H H') (ha : H a = none) : Same (mn H O) (mn H' (hide a O)) := fun b o h => by
  obtain ⟨c, e⟩ := mn_get h
  rw [mn_of (by rw [hide_ne (ne_of_none e ha)]; exact c)]; exact s b o e
theorem mn_upd {H : Hp} {O : Addr -> Bool} {a : Addr} {o : HO} (h : O a = true) : mn (upd H a o) O = mn H O := by
  funext b
  unfold mn
  by_cases c : O b = true
  . rw [if_pos c, if_pos c]
  . rw [if_neg c, if_neg c, upd_ne (fun z => c (by rw [z]; exact h))]
inductive Sl where
  | un | fr (p : PV) | ow (p : PV) | o2 (xs ys : List Int)
abbrev En := List Sl
structure Bs where
  H0 : Hp
  Oc : Addr -> Bool
def OwnAt (K : PySem.W.Frag) (G : Gx) (H : Hp) : PV -> List V -> Prop
  | .ints ns, vs => vs = ns.map V.int
  | .lst xs, vs => AtL K G H xs vs
  | _, _ => False
theorem OwnAt.mono {K : PySem.W.Frag} {G : Gx} {H H' : Hp} (s : Same H H') {p : PV} {vs : List V} (h : OwnAt K G H p vs) : OwnAt K G H' p vs := by
  cases p <;> first | exact h | exact AtL.mono s _ _ h
structure O2At (B : Bs) (σ : L2.St) (H : Hp) (Z : En) (O : Addr -> Bool) (i : Nat) (xs ys : List Int) (D a b : Addr) : Prop where
  at_ : σ[i]? = some (some (.ref D))
  oD : O D = true
  oa : O a = true
  ob : O b = true
  nD : B.H0 D = none
  na : B.H0 a = none
  nb : B.H0 b = none
  hD : H D = some (.lst [.ref a, .ref b])
  ha : H a = some (.lst (xs.map V.int))
  hb : H b = some (.lst (ys.map V.int))
  ab : a ≠ b
  un : ∀ (j : Nat) q c, Z[j]? = some (.ow q) -> σ[j]? = some (some (.ref c)) -> c ≠ D /\ c ≠ a /\ c ≠ b
  one : ∀ (j : Nat) xs' ys', Z[j]? = some (.o2 xs' ys') -> j = i
structure Rep (K : PySem.W.Frag) (G : Gx) (B : Bs) (σ : L2.St) (H : Hp) (Z : En) (O : Addr -> Bool) : Prop where
  same : Same B.H0 H
  cd : ∀ a, B.Oc a = true -> B.H0 a ≠ none
  hid : ∀ a, B.Oc a = true -> O a = true
  dom : ∀ a, O a = true -> H a ≠ none
  vis : ∀ a, O a = true -> B.Oc a = true \/ B.H0 a = none
  fr : ∀ (i : Nat) p, Z[i]? = some (.fr p) -> ∃ v, σ[i]? = some (some v) /\ At K G (mn H O) p v
  ow : ∀ (i : Nat) p, Z[i]? = some (.ow p) -> ∃ a vs, σ[i]? = some (some (.ref a)) /\ O a = true /\ B.H0 a = none /\ H a = some (.lst vs) /\ OwnAt K G (mn H O) p vs
  inj : ∀ (i j : Nat) p q a, Z[i]? = some (.ow p) -> Z[j]? = some (.ow q) -> σ[i]? = some (some (.ref a)) -> σ[j]? = some (some (.ref a)) -> i = j
  len : σ.length = Z.length
  o2 : ∀ (i : Nat) xs ys, Z[i]? = some (.o2 xs ys) -> ∃ D a b, O2At B σ H Z O i xs ys D a b
section
variable {K : PySem.W.Frag} {G : Gx} {B : Bs} {σ : L2.St} {H H' : Hp} {Z : En} {O : Addr -> Bool} {i : Nat}
theorem Rep.grow (R : Rep K G B σ H Z O) (s : Same H H') : Rep K G B σ H' Z O := by
  refine ⟨R.same.trans s, R.cd, R.hid, fun a h z => R.dom a h (s.free z), R.vis, fun i p e => ?_, fun i p e => ?_, R.inj, R.len, fun i xs ys e => let ⟨D, a, b, q⟩ := R.o2 i xs ys e; ⟨D, a, b, q.at_, q.oD, q.oa, q.ob, q.nD, q.na, q.nb, s _ _ q.hD, s _ _ q.ha, s _ _ q.hb, q.ab, q.un, q.one⟩⟩
  . obtain ⟨v, e1, e2⟩ := R.fr i p e
    exact ⟨v, e1, At.mono (mn_same s) _ _ e2⟩
  . obtain ⟨a, vs, e1, e2, e3, e4, e5⟩ := R.ow i p e
    exact ⟨a, vs, e1, e2, e3, s _ _ e4, e5.mono (mn_same s)⟩
theorem set_at {α : Type} {l : List α} {i j : Nat} {x y : α} (h : (l.set i x)[j]? = some y) : (i = j /\ y = x /\ i < l.length) \/ (i ≠ j /\ l[j]? = some y) := by
  rw [List.getElem?_set] at h
  by_cases c : i = j
  . rw [if_pos c] at h
    by_cases c2 : i < l.length
    . rw [if_pos c2] at h; exact .inl ⟨c, (Option.some.inj h).symm, c2⟩
    . rw [if_neg c2] at h; cases h
  . rw [if_neg c] at h; exact .inr ⟨c, h⟩
theorem set_ne {α : Type} {l : List α} {i j : Nat} {x : α} (h : i ≠ j) : (l.set i x)[j]? = l[j]? := by rw [List.getElem?_set, if_neg h]
theorem set_eq {α : Type} {l : List α} {i : Nat} {x : α} (h : i < l.length) : (l.set i x)[i]? = some x := by rw [List.getElem?_set, if_pos rfl, if_pos h]
theorem Rep.set (R : Rep K G B σ H Z O) {p : PV} {v : V} (h : At K G (mn H O) p v) : Rep K G B (σ.set i (some v)) H (Z.set i (.fr p)) O := by
  refine ⟨R.same, R.cd, R.hid, R.dom, R.vis, fun j q e => ?_, fun j q e => ?_, fun j k q r a e1 e2 e3 e4 => ?_, by rw [List.length_set, List.length_set]; exact R.len, fun j xs ys e => ?_⟩
  . rcases set_at e with ⟨rfl, e, l⟩ | ⟨n, e⟩
    . cases e; exact ⟨v, set_eq (by rw [R.len]; exact l), h⟩
    . rw [set_ne n]; exact R.fr j q e
  . rcases set_at e with ⟨rfl, e, l⟩ | ⟨n, e⟩
    . cases e
    . rw [set_ne n]; exact R.ow j q e
  . rcases set_at e1 with ⟨rfl, e, l⟩ | ⟨n, e⟩
    . cases e
    . rcases set_at e2 with ⟨rfl, e', l'⟩ | ⟨n', e'⟩
      . cases e'
      . rw [set_ne n] at e3; rw [set_ne n'] at e4
        exact R.inj j k q r a e e' e3 e4
  . rcases set_at e with ⟨rfl, e, l⟩ | ⟨n, e⟩
    . cases e
    . obtain ⟨D, a, b, q⟩ := R.o2 j xs ys e
      refine ⟨D, a, b, by rw [set_ne n]; exact q.at_, q.oD, q.oa, q.ob, q.nD, q.na, q.nb, q.hD, q.ha, q.hb, q.ab, fun k r c e1 e2 => ?_, fun k xs' ys' e1 => ?_⟩
      . rcases set_at e1 with ⟨_, e', _⟩ | ⟨n', e'⟩
        . cases e'
        . rw [set_ne n'] at e2; exact q.un k r c e' e2
      . rcases set_at e1 with ⟨_, e', _⟩ | ⟨n', e'⟩
        . cases e'
        . exact q.one k xs' ys' e'
theorem Rep.new (R : Rep K G B σ H Z O) {p : PV} {a : Addr} {vs : List V} (s : Same H H') (ha : H a = none) (he : H' a = some (.lst vs)) (h : OwnAt K G (mn H' (hide a O)) p vs) : Rep K G B (σ.set i (some (.ref a))) H' (Z.set i (.ow p)) (hide a O) := by
  refine ⟨R.same.trans s, R.cd, fun b z => hide_le b (R.hid b z), fun b z y => ?_, fun b z => ?_, fun j q e => ?_, fun j q e => ?_, fun j k q r b e1 e2 e3 e4 => ?_, by rw [List.length_set, List.length_set]; exact R.len, fun j xs ys e => ?_⟩
  . by_cases c : b = a
    . subst c; rw [he] at y; cases y
    . rw [hide_ne c] at z; exact R.dom b z (s.free y)
  . by_cases c : b = a
    . subst c; exact .inr (R.same.free ha)
    . rw [hide_ne c] at z; exact R.vis b z
  . rcases set_at e with ⟨rfl, e, l⟩ | ⟨n, e⟩
    . cases e
    . obtain ⟨v, e1, e2⟩ := R.fr j q e
      exact ⟨v, by rw [set_ne n]; exact e1, At.mono (mn_hide s ha) _ _ e2⟩
  . rcases set_at e with ⟨rfl, e, l⟩ | ⟨n, e⟩
    . cases e
      exact ⟨a, vs, set_eq (by rw [R.len]; exact l), hide_self, R.same.free ha, he, h⟩
    . obtain ⟨b, us, e1, e2, e3, e4, e5⟩ := R.ow j q e
      exact ⟨b, us, by rw [set_ne n]; exact e1, hide_le b e2, e3, s _ _ e4, e5.mono (mn_hide s ha)⟩
  . have old : ∀ (m : Nat) q, Z[m]? = some (.ow q) -> σ[m]? = some (some (.ref a)) -> False := fun m q e z => by
      obtain ⟨b, us, e1, _, _, e4, _⟩ := R.ow m q e
      rw [z] at e1; cases e1
      rw [ha] at e4; cases e4
    rcases set_at e1 with ⟨rfl, e, l⟩ | ⟨n, e⟩
    . rcases set_at e2 with ⟨rfl, e', l'⟩ | ⟨n', e'⟩
      . rfl
      . rw [set_eq (by rw [R.len]; exact l)] at e3
        cases e3
        rw [set_ne n'] at e4
        exact (old k r e' e4).elim
    . rcases set_at e2 with ⟨rfl, e', l'⟩ | ⟨n', e'⟩
      . rw [set_eq (by rw [R.len]; exact l')] at e4
        cases e4
        rw [set_ne n] at e3
        exact (old j q e e3).elim
      . rw [set_ne n] at e3; rw [set_ne n'] at e4
        exact R.inj j k q r b e e' e3 e4
  . rcases set_at e with ⟨rfl, e, l⟩ | ⟨n, e⟩
    . cases e
    . obtain ⟨D, a1, b1, q⟩ := R.o2 j xs ys e
      refine ⟨D, a1, b1, by rw [set_ne n]; exact q.at_, hide_le _ q.oD, hide_le _ q.oa, hide_le _ q.ob, q.nD, q.na, q.nb, s _ _ q.hD, s _ _ q.ha, s _ _ q.hb, q.ab, fun k r c e1 e2 => ?_, fun k xs' ys' e1 => ?_⟩
      . rcases set_at e1 with ⟨rfl, e', l'⟩ | ⟨n', e'⟩
        . rw [set_eq (by rw [R.len]; exact l')] at e2
          cases e2
          exact ⟨Ne.symm (ne_of_none q.hD ha), Ne.symm (ne_of_none q.ha ha), Ne.symm (ne_of_none q.hb ha)⟩
        . rw [set_ne n'] at e2; exact q.un k r c e' e2
      . rcases set_at e1 with ⟨_, e', _⟩ | ⟨n', e'⟩
        . cases e'
        . exact q.one k xs' ys' e'
theorem Rep.change (R : Rep K G B σ H Z O) {p p' : PV} {a : Addr} {vs : List V} (e : Z[i]? = some (.ow p)) (ea : σ[i]? = some (some (.ref a))) (h : OwnAt K G (mn H O) p' vs) : Rep K G B σ (upd H a (.lst vs)) (Z.set i (.ow p')) O := by
  obtain ⟨a', us, e1, e2, e3, e4, e5⟩ := R.ow i p e
  rw [ea] at e1
  cases e1
  have hl : i < Z.length := (List.getElem?_eq_some_iff.mp e).1
  refine ⟨fun b o z => ?_, R.cd, R.hid, fun b z y => ?_, R.vis, fun j q ej => ?_, fun j q ej => ?_, fun j k q r b j1 j2 j3 j4 => ?_, by rw [List.length_set]; exact R.len, fun j xs ys ej => ?_⟩
  . rw [upd_ne (ne_of_none z e3)]; exact R.same b o z
  . by_cases c : b = a
    . subst c; rw [upd_same] at y; cases y
    . rw [upd_ne c] at y; exact R.dom b z y
  . rw [mn_upd e2]
    rcases set_at ej with ⟨_, e', _⟩ | ⟨_, e'⟩
    . cases e'
    . exact R.fr j q e'
  . rw [mn_upd e2]
    rcases set_at ej with ⟨rfl, e', _⟩ | ⟨n, e'⟩
    . cases e'
      exact ⟨a, vs, ea, e2, e3, upd_same, h⟩
    . obtain ⟨b, ws, f1, f2, f3, f4, f5⟩ := R.ow j q e'
      refine ⟨b, ws, f1, f2, f3, ?_, f5⟩
      rw [upd_ne]
      . exact f4
      . intro z
        subst z
        exact n (R.inj i j p q b e e' ea f1)
  . have back : ∀ (m : Nat) q, (Z.set i (.ow p'))[m]? = some (.ow q) -> ∃ q', Z[m]? = some (.ow q') := fun m q z => by
      rcases set_at z with ⟨rfl, _, _⟩ | ⟨_, z⟩
      . exact ⟨p, e⟩
      . exact ⟨q, z⟩
    obtain ⟨q', y1⟩ := back j q j1
    obtain ⟨r', y2⟩ := back k r j2
    exact R.inj j k q' r' b y1 y2 j3 j4
  . rcases set_at ej with ⟨rfl, e', _⟩ | ⟨n, e'⟩
    . cases e'
    . obtain ⟨D, a1, b1, q⟩ := R.o2 j xs ys e'
      obtain ⟨u1, u2, u3⟩ := q.un i p a e ea
      refine ⟨D, a1, b1, q.at_, q.oD, q.oa, q.ob, q.nD, q.na, q.nb, by rw [upd_ne (Ne.symm u1)]; exact q.hD, by rw [upd_ne (Ne.symm u2)]; exact q.ha, by rw [upd_ne (Ne.symm u3)]; exact q.hb, q.ab, fun k r c e1 e2 => ?_, fun k xs' ys' e1 => ?_⟩
      . rcases set_at e1 with ⟨rfl, _, _⟩ | ⟨_, e1⟩
        . exact q.un i p c e e2
        . exact q.un k r c e1 e2
      . rcases set_at e1 with ⟨_, e', _⟩ | ⟨n', e'⟩
        . cases e'
        . exact q.one k xs' ys' e'
def show' (a : Addr) (O : Addr -> Bool) : Addr -> Bool := fun b => if b = a then false else O b
theorem show_ne {a b : Addr} {O : Addr -> Bool} (h : b ≠ a) : show' a O b = O b := by unfold show'; rw [if_neg h]
theorem show_self {a : Addr} {O : Addr -> Bool} : show' a O a = false := by unfold show'; rw [if_pos rfl]
theorem show_le {a : Addr} {O : Addr -> Bool} : ∀ b, show' a O b = true -> O b = true := fun b h => by
  by_cases c : b = a
  . subst c; rw [show_self] at h; cases h
  . rw [show_ne c] at h; exact h
def frz (Z : En) (i : Nat) : En := match Z[i]? with
  | some (.ow p) => Z.set i (.fr p)
  | _ => Z
theorem Rep.freeze (R : Rep K G B σ H Z O) (i : Nat) : ∃ O', Rep K G B σ H (frz Z i) O' := by
  unfold frz
  split
  . rename_i p e
    obtain ⟨a, vs, e1, e2, e3, e4, e5⟩ := R.ow i p e
    have sub : Same (mn H O) (mn H (show' a O)) := mn_anti show_le
    have sees : Rd (mn H (show' a O)) a (.lst vs) := .inl (by rw [mn_of show_self]; exact e4)
    have hp : At K G (mn H (show' a O)) p (.ref a) := by
      cases p <;> first
        | exact False.elim e5
        | (have e5 := e5.mono sub; exact ⟨a, vs, rfl, sees, e5⟩)
        | (have e5' : vs = _ := e5; subst e5'; exact ⟨a, rfl, sees⟩)
    refine ⟨show' a O, R.same, R.cd, fun b z => ?_, fun b z => R.dom b (show_le b z), fun b z => R.vis b (show_le b z), fun j q ej => ?_, fun j q ej => ?_, fun j k q r b j1 j2 j3 j4 => ?_, by rw [List.length_set]; exact R.len, fun j xs ys ej => ?_⟩
    . rw [show_ne]
      . exact R.hid b z
      . intro y
        subst y
        exact R.cd b z e3
    . rcases set_at ej with ⟨rfl, e', _⟩ | ⟨n, e'⟩
      . cases e'
        exact ⟨.ref a, e1, hp⟩
      . obtain ⟨v, f1, f2⟩ := R.fr j q e'
        exact ⟨v, f1, At.mono sub _ _ f2⟩
    . rcases set_at ej with ⟨rfl, e', _⟩ | ⟨n, e'⟩
      . cases e'
      . obtain ⟨b, ws, f1, f2, f3, f4, f5⟩ := R.ow j q e'
        refine ⟨b, ws, f1, ?_, f3, f4, f5.mono sub⟩
        rw [show_ne]
        . exact f2
        . intro z
          subst z
          exact n (R.inj i j p q b e e' e1 f1)
    . rcases set_at j1 with ⟨_, e', _⟩ | ⟨_, y1⟩
      . cases e'
      . rcases set_at j2 with ⟨_, e', _⟩ | ⟨_, y2⟩
        . cases e'
        . exact R.inj j k q r b y1 y2 j3 j4
    . rcases set_at ej with ⟨rfl, e', _⟩ | ⟨n, e'⟩
      . cases e'
      . obtain ⟨D, a1, b1, q⟩ := R.o2 j xs ys e'
        obtain ⟨u1, u2, u3⟩ := q.un i p a e e1
        refine ⟨D, a1, b1, q.at_, by rw [show_ne (Ne.symm u1)]; exact q.oD, by rw [show_ne (Ne.symm u2)]; exact q.oa, by rw [show_ne (Ne.symm u3)]; exact q.ob, q.nD, q.na, q.nb, q.hD, q.ha, q.hb, q.ab, fun k r c e1 e2 => ?_, fun k xs' ys' e1 => ?_⟩
        . rcases set_at e1 with ⟨_, e', _⟩ | ⟨_, e1⟩
          . cases e'
          . exact q.un k r c e1 e2
        . rcases set_at e1 with ⟨_, e', _⟩ | ⟨n', e'⟩
          . cases e'
          . exact q.one k xs' ys' e'
  . exact ⟨O, R⟩
def Bs.at (B : Bs) (H : Hp) (O : Addr -> Bool) : Bs := ⟨fun b => if (O b && (B.H0 b).isNone) = true then none else H b, B.Oc⟩
theorem Bs.at_of {b : Addr} (h : O b = false \/ B.H0 b ≠ none) : (B.at H O).H0 b = H b := by
  show (if (O b && (B.H0 b).isNone) = true then none else H b) = H b
  rw [if_neg]
  rcases h with h | h
  . rw [h]; simp
  . cases e : B.H0 b with
    | none => exact absurd e h
    | some o => simp
theorem Rep.rebase (R : Rep K G B σ H Z O) : Rep K G (B.at H O) σ H Z O := by
  refine ⟨fun b o z => ?_, fun a z => ?_, R.hid, R.dom, fun a z => ?_, R.fr, fun i p e => ?_, R.inj, R.len, fun i xs ys e => ?_⟩
  . have z : (if (O b && (B.H0 b).isNone) = true then none else H b) = some o := z
    by_cases c : (O b && (B.H0 b).isNone) = true
    . rw [if_pos c] at z; cases z
    . rw [if_neg c] at z; exact z
  . rw [Bs.at_of (.inr (R.cd a z))]
    exact R.dom a (R.hid a z)
  . rcases R.vis a z with y | y
    . exact .inl y
    . refine .inr ?_
      show (if (O a && (B.H0 a).isNone) = true then none else H a) = none
      rw [if_pos (by rw [z, y]; rfl)]
  . obtain ⟨a, vs, e1, e2, e3, e4, e5⟩ := R.ow i p e
    refine ⟨a, vs, e1, e2, ?_, e4, e5⟩
    show (if (O a && (B.H0 a).isNone) = true then none else H a) = none
    rw [if_pos (by rw [e2, e3]; rfl)]
  . obtain ⟨D, a, b, q⟩ := R.o2 i xs ys e
    have z : ∀ c, O c = true -> B.H0 c = none -> (B.at H O).H0 c = none := fun c h1 h2 => by
      show (if (O c && (B.H0 c).isNone) = true then none else H c) = none
      rw [if_pos (by rw [h1, h2]; rfl)]
    exact ⟨D, a, b, q.at_, q.oD, q.oa, q.ob, z D q.oD q.nD, z a q.oa q.na, z b q.ob q.nb, q.hD, q.ha, q.hb, q.ab, q.un, q.one⟩
theorem Rep.base_le (R : Rep K G B σ H Z O) : Same B.H0 (B.at H O).H0 := fun b o z => by
  rw [Bs.at_of (.inr (by rw [z]; exact fun y => by cases y))]
  exact R.same b o z
theorem Rep.base_mn (B : Bs) (H : Hp) (O : Addr -> Bool) : Same (mn H O) (B.at H O).H0 := fun b o z => by
  obtain ⟨c, e⟩ := mn_get z
  rw [Bs.at_of (.inl c)]
  exact e
theorem Rep.unbase {σ' : L2.St} {Z' : En} {O' : Addr -> Bool} (R : Rep K G B σ H Z O) (R' : Rep K G (B.at H O) σ' H' Z' O') : Rep K G B σ' H' Z' O' := by
  refine ⟨R.base_le.trans R'.same, R.cd, R'.hid, R'.dom, fun a z => (R'.vis a z).imp id fun y => R.base_le.free y, R'.fr, fun i p e => ?_, R'.inj, R'.len, fun i xs ys e => ?_⟩
  . obtain ⟨a, vs, e1, e2, e3, e4, e5⟩ := R'.ow i p e
    exact ⟨a, vs, e1, e2, R.base_le.free e3, e4, e5⟩
  . obtain ⟨D, a, b, q⟩ := R'.o2 i xs ys e
    exact ⟨D, a, b, q.at_, q.oD, q.oa, q.ob, R.base_le.free q.nD, R.base_le.free q.na, R.base_le.free q.nb, q.hD, q.ha, q.hb, q.ab, q.un, q.one⟩
end
def getI (Z : En) (i : Nat) : Int := match Z[i]? with
  | some (.fr (.int n)) => n
  | _ => 0
def isI (Z : En) (i : Nat) : Prop := Z[i]? = some (.fr (.int (getI Z i)))
def getL (Z : En) (i : Nat) : List Int := match Z[i]? with
  | some (.fr (.ints ns)) => ns
  | some (.ow (.ints ns)) => ns
  | some (.fr (.scr ns)) => ns
  | _ => []
def isL (Z : En) (i : Nat) : Prop := Z[i]? = some (.fr (.ints (getL Z i)))
def isO (Z : En) (i : Nat) : Prop := Z[i]? = some (.ow (.ints (getL Z i)))
def isLO (Z : En) (i : Nat) : Prop := isL Z i \/ isO Z i \/ Z[i]? = some (.fr (.scr (getL Z i)))
def getP (Z : En) (i : Nat) : PV := match Z[i]? with
  | some (.fr p) => p
  | some (.ow p) => p
  | _ => .non
def isF (Z : En) (i : Nat) : Prop := Z[i]? = some (.fr (getP Z i))
def getS (Z : En) (i : Nat) : Str := match Z[i]? with
  | some (.fr (.str s)) => s
  | _ => Str.empty
def isS (Z : En) (i : Nat) : Prop := Z[i]? = some (.fr (.str (getS Z i)))
section
variable {K : PySem.W.Frag} {G : Gx} {B : Bs} {σ : L2.St} {H H' : Hp} {Z : En} {O : Addr -> Bool} {i : Nat}
theorem Rep.readL (R : Rep K G B σ H Z O) (h : isLO Z i) : ∃ a, σ[i]? = some (some (.ref a)) /\ SqL K H a ((getL Z i).map V.int) := by
  rcases h with h | h | h
  . obtain ⟨v, e1, a, e2, e3⟩ := R.fr i _ h
    subst e2
    exact ⟨a, e1, .inl (same_rd mn_le e3)⟩
  . obtain ⟨a, vs, e1, e2, e3, e4, e5⟩ := R.ow i _ h
    have e5 : vs = (getL Z i).map V.int := e5
    subst e5
    exact ⟨a, e1, .inl (.inl e4)⟩
  . obtain ⟨v, e1, a, e2, e3⟩ := R.fr i _ h
    subst e2
    exact ⟨a, e1, mn_le.seq e3⟩
end
def tX (K : PySem.W.Frag) (G : Gx) (C : En -> Prop) (g : En -> PV) : TE := fun σ H Q => ∃ B Z O, Rep K G B σ H Z O /\ C Z /\ ∀ v H', Same H H' -> At K G (mn H' O) (g Z) v -> Q v H'
def tXl (K : PySem.W.Frag) (G : Gx) (C : En -> Prop) (g : En -> List Int) : TE := fun σ H Q => ∃ B Z O, Rep K G B σ H Z O /\ C Z /\ ∀ a H', Same H H' -> H a = none -> H' a = some (.lst ((g Z).map V.int)) -> Q (.ref a) H'
def tXp (K : PySem.W.Frag) (G : Gx) (C : En -> Prop) (g : En -> List PV) : TE := fun σ H Q => ∃ B Z O, Rep K G B σ H Z O /\ C Z /\ ∀ a vs H', Same H H' -> H a = none -> H' a = some (.lst vs) -> AtL K G (mn H' (hide a O)) (g Z) vs -> Q (.ref a) H'
def tXs (K : PySem.W.Frag) (G : Gx) (C : En -> Prop) (g : En -> List PV) : TA := fun σ H Q => ∃ B Z O, Rep K G B σ H Z O /\ C Z /\ ∀ vs H', Same H H' -> AtL K G (mn H' O) (g Z) vs -> Q vs H'
def tXT (K : PySem.W.Frag) (G : Gx) (C : En -> Prop) (p : En -> Prop) [∀ Z, Decidable (p Z)] : TT := fun σ H Q => ∃ B Z O, Rep K G B σ H Z O /\ C Z /\ ∀ H', Same H H' -> Q (decide (p Z)) H'
abbrev tXI (K : PySem.W.Frag) (G : Gx) (C : En -> Prop) (g : En -> Int) : TE := tX K G C fun Z => .int (g Z)
abbrev tXL (K : PySem.W.Frag) (G : Gx) (C : En -> Prop) (g : En -> List Int) : TE := tX K G C fun Z => .ints (g Z)
abbrev tXB (K : PySem.W.Frag) (G : Gx) (C : En -> Prop) (p : En -> Prop) [∀ Z, Decidable (p Z)] : TE := tX K G C fun Z => .bl (decide (p Z))
abbrev tXS (K : PySem.W.Frag) (G : Gx) (C : En -> Prop) (g : En -> Str) : TE := tX K G C fun Z => .str (g Z)
section
variable {X : Cx} {G : Gx} {a b : Expr} {pos : Pos} {Ca Cb : En -> Prop} {ga gb : En -> Int} {i : Nat} {x : Str} {e : Expr} {t : TE} {C : En -> Prop} {g : En -> PV} {gl hl : En -> List Int}
theorem toX (h : PE X e t) (k : ∀ B σ H Z O Q, Rep X.K G B σ H Z O -> C Z -> (∀ v H', Same H H' -> At X.K G (mn H' O) (g Z) v -> Q v H') -> t σ H Q) : PE X e (tX X.K G C g) :=
  fun pins s σ H Q I ⟨B, Z, O, R, c, q⟩ => h pins s σ H Q I (k B σ H Z O Q R c q)
theorem toXl (h : PE X e t) (k : ∀ B σ H Z O Q, Rep X.K G B σ H Z O -> C Z -> (∀ a H', Same H H' -> H a = none -> H' a = some (.lst ((gl Z).map V.int)) -> Q (.ref a) H') -> t σ H Q) : PE X e (tXl X.K G C gl) :=
  fun pins s σ H Q I ⟨B, Z, O, R, c, q⟩ => h pins s σ H Q I (k B σ H Z O Q R c q)
theorem newL (h : PE X e (tXl X.K G C gl)) : PE X e (tXL X.K G C gl) := toX h fun B σ H Z O Q R c q => ⟨B, Z, O, R, c, fun a H' s n e => q _ H' s ⟨a, rfl, .inl (by
  rw [mn_of]
  . exact e
  . cases z : O a with
    | false => rfl
    | true => exact absurd n (R.dom a z))⟩⟩
theorem newP {gp : En -> List PV} (h : PE X e (tXp X.K G C gp)) : PE X e (tX X.K G C fun Z => .lst (gp Z)) := toX h fun B σ H Z O Q R c q => ⟨B, Z, O, R, c, fun a vs H' s n e al => q _ H' s ⟨a, vs, rfl, .inl (by
  rw [mn_of]
  . exact e
  . cases z : O a with
    | false => rfl
    | true => exact absurd n (R.dom a z)), AtL.mono (mn_anti hide_le) _ _ al⟩⟩
theorem xn_int {n : Int} {j : Nat} : PE X (.Constant (.int n) j pos) (tXI X.K G (fun _ => True) fun _ => n) := toX pe_int fun _ _ H _ _ _ _ _ q => q _ H (Same.refl H) rfl
theorem xb_bl {n : Bool} {j : Nat} : PE X (.Constant (.bool n) j pos) (tX X.K G (fun _ => True) fun _ => .bl n) := toX pe_bl fun _ _ H _ _ _ _ _ q => q _ H (Same.refl H) rfl
theorem xv_non {j : Nat} : PE X (.Constant .none j pos) (tX X.K G (fun _ => True) fun _ => .non) := toX pe_non fun _ _ H _ _ _ _ _ q => q _ H (Same.refl H) rfl
theorem xv_bltn {u : String} (hg : Gl X x) (hm : X.mg x = none) (hv : bootBuiltins x = some (.type u)) (hn : x ≠ "__name__" := by decide) (hd : (x == ("__debug__" : Str)) = false := by decide) : PE X (.Name x pos) (tX X.K G (fun _ => True) fun _ => .ty u) :=
  toX (pe_bltn (v := .ty u) hg hm hv rfl hn hd) fun _ _ H _ _ _ _ _ q => q _ H (Same.refl H) rfl
theorem xv (i : Nat) {x : Str} (hN : X.N[i]? = some x := by rfl) (hv : Vis X.env.scope x := by first | exact Or.inl rfl | exact Or.inr (Or.inl rfl) | exact Or.inr (Or.inr rfl))
    (hd : (x == ("__debug__" : Str)) = false := by decide) (hcd : (x == ("__classdict__" : Str)) = false := by decide) : PE X (.Name x pos) (tX X.K G (fun Z => isF Z i) fun Z => getP Z i) :=
  toX (pe_var hN hv hd hcd) fun _ _ H _ _ _ R c q => let ⟨v, e, h⟩ := R.fr i _ c; ⟨v, e, q v H (Same.refl H) h⟩
theorem xn (i : Nat) {x : Str} (hN : X.N[i]? = some x := by rfl) (hv : Vis X.env.scope x := by first | exact Or.inl rfl | exact Or.inr (Or.inl rfl) | exact Or.inr (Or.inr rfl))
    (hd : (x == ("__debug__" : Str)) = false := by decide) (hcd : (x == ("__classdict__" : Str)) = false := by decide) : PE X (.Name x pos) (tXI X.K G (fun Z => isI Z i) fun Z => getI Z i) :=
  toX (pe_var hN hv hd hcd) fun _ _ H _ _ _ R c q => let ⟨v, e, h⟩ := R.fr i _ c; ⟨v, e, q v H (Same.refl H) h⟩
theorem xl (i : Nat) {x : Str} (hN : X.N[i]? = some x := by rfl) (hv : Vis X.env.scope x := by first | exact Or.inl rfl | exact Or.inr (Or.inl rfl) | exact Or.inr (Or.inr rfl))
    (hd : (x == ("__debug__" : Str)) = false := by decide) (hcd : (x == ("__classdict__" : Str)) = false := by decide) : PE X (.Name x pos) (tXL X.K G (fun Z => isL Z i) fun Z => getL Z i) :=
  toX (pe_var hN hv hd hcd) fun _ _ H _ _ _ R c q => let ⟨v, e, h⟩ := R.fr i _ c; ⟨v, e, q v H (Same.refl H) h⟩
theorem xr (i : Nat) {x : Str} (hN : X.N[i]? = some x := by rfl) (hv : Vis X.env.scope x := by first | exact Or.inl rfl | exact Or.inr (Or.inl rfl) | exact Or.inr (Or.inr rfl))
    (hd : (x == ("__debug__" : Str)) = false := by decide) (hcd : (x == ("__classdict__" : Str)) = false := by decide) : PE X (.Name x pos) (tX X.K G (fun Z => Z[i]? = some (.fr (.scr (getL Z i)))) fun Z => .scr (getL Z i)) :=
  toX (pe_var hN hv hd hcd) fun _ _ H _ _ _ R c q => let ⟨v, e, h⟩ := R.fr i _ c; ⟨v, e, q v H (Same.refl H) h⟩
theorem two {r : R2} {ga gb : En -> PV} {σ : L2.St} {H : Hp} {B : Bs} {Z : En} {O : Addr -> Bool} {Q : VK} (R : Rep X.K G B σ H Z O) (ca : Ca Z) (cb : Cb Z) (q : ∀ v u H1 H2, Same H H1 -> Same H1 H2 -> At X.K G (mn H2 O) (ga Z) v -> At X.K G (mn H2 O) (gb Z) u -> r v u H2 Q) :
    tOp r (tX X.K G Ca ga) (tX X.K G Cb gb) σ H Q :=
  ⟨B, Z, O, R, ca, fun v H1 s1 a1 => ⟨B, Z, O, R.grow s1, cb, fun u H2 s2 a2 => q v u H1 H2 s1 s2 (At.mono (mn_same s2) _ _ a1) a2⟩⟩
theorem xn_op {op : Operator} {C : Int -> Int -> Prop} {g : Int -> Int -> Int} (ho : OpR X (binaryOp op) (rI C fun i j => .int (g i j))) (ha : PE X a (tXI X.K G Ca ga)) (hb : PE X b (tXI X.K G Cb gb)) :
    PE X (.BinOp a op b pos) (tXI X.K G (fun Z => Ca Z /\ Cb Z /\ C (ga Z) (gb Z)) fun Z => g (ga Z) (gb Z)) :=
  toX (pe_op ho ha hb) fun _ _ _ _ _ _ R c q => two R c.1 c.2.1 fun _ _ _ H2 s1 s2 a1 a2 => ⟨_, _, a1, a2, c.2.2, q _ H2 (s1.trans s2) rfl⟩
theorem xn_op0 {op : Operator} {g : Int -> Int -> Int} (ho : OpR X (binaryOp op) (rI0 fun i j => .int (g i j))) (ha : PE X a (tXI X.K G Ca ga)) (hb : PE X b (tXI X.K G Cb gb)) :
    PE X (.BinOp a op b pos) (tXI X.K G (fun Z => Ca Z /\ Cb Z) fun Z => g (ga Z) (gb Z)) :=
  toX (pe_op ho ha hb) fun _ _ _ _ _ _ R c q => two R c.1 c.2 fun _ _ _ H2 s1 s2 a1 a2 => ⟨_, _, a1, a2, q _ H2 (s1.trans s2) rfl⟩
theorem xn_add (ha : PE X a (tXI X.K G Ca ga)) (hb : PE X b (tXI X.K G Cb gb)) : PE X (.BinOp a .Add b pos) (tXI X.K G (fun Z => Ca Z /\ Cb Z) fun Z => ga Z + gb Z) := xn_op0 op_add ha hb
theorem xn_sub (ha : PE X a (tXI X.K G Ca ga)) (hb : PE X b (tXI X.K G Cb gb)) : PE X (.BinOp a .Sub b pos) (tXI X.K G (fun Z => Ca Z /\ Cb Z) fun Z => ga Z - gb Z) := xn_op0 op_sub ha hb
theorem xn_mul (ha : PE X a (tXI X.K G Ca ga)) (hb : PE X b (tXI X.K G Cb gb)) : PE X (.BinOp a .Mult b pos) (tXI X.K G (fun Z => Ca Z /\ Cb Z /\ IntMulOk (ga Z) (gb Z)) fun Z => ga Z * gb Z) := xn_op op_mulB ha hb
theorem xn_mod (ha : PE X a (tXI X.K G Ca ga)) (hb : PE X b (tXI X.K G Cb gb)) : PE X (.BinOp a .Mod b pos) (tXI X.K G (fun Z => Ca Z /\ Cb Z /\ 0 < gb Z) fun Z => ga Z % gb Z) := xn_op op_mod ha hb
theorem xn_div (ha : PE X a (tXI X.K G Ca ga)) (hb : PE X b (tXI X.K G Cb gb)) : PE X (.BinOp a .FloorDiv b pos) (tXI X.K G (fun Z => Ca Z /\ Cb Z /\ CDivB (ga Z) (gb Z)) fun Z => ga Z / gb Z) := xn_op op_fdivB ha hb
theorem xn_pow (ha : PE X a (tXI X.K G Ca ga)) (hb : PE X b (tXI X.K G Cb gb)) : PE X (.BinOp a .Pow b pos) (tXI X.K G (fun Z => Ca Z /\ Cb Z /\ CPow (ga Z) (gb Z)) fun Z => ga Z ^ (gb Z).toNat) := xn_op op_pow ha hb
theorem xn_neg (ha : PE X a (tXI X.K G Ca ga)) : PE X (.UnaryOp .USub a pos) (tXI X.K G Ca fun Z => -ga Z) :=
  toX (pe_un un_neg ha) fun B _ _ Z O _ R c q => ⟨B, Z, O, R, c, fun _ H1 s1 a1 => ⟨_, a1, q _ H1 s1 rfl⟩⟩
theorem xt_cmp {op : CmpOp} {p : Int -> Int -> Prop} [∀ i j, Decidable (p i j)] (ho : OpR X (compareOp op) (rI0 fun i j => .bl (decide (p i j)))) (hm : behindInMarks op b = false) (ha : PE X a (tXI X.K G Ca ga)) (hb : PE X b (tXI X.K G Cb gb)) :
    PT X (.Compare a [op] [b] pos) (tXT X.K G (fun Z => Ca Z /\ Cb Z) fun Z => p (ga Z) (gb Z)) :=
  fun pins s σ H Q I ⟨_, _, _, R, c, q⟩ => pt_cmpR ho ha hb hm pins s σ H Q I (two R c.1 c.2 fun _ _ _ H2 s1 s2 a1 a2 => ⟨_, _, a1, a2, _, rfl, q H2 (s1.trans s2)⟩)
theorem xt_lt (ha : PE X a (tXI X.K G Ca ga)) (hb : PE X b (tXI X.K G Cb gb)) : PT X (.Compare a [.Lt] [b] pos) (tXT X.K G (fun Z => Ca Z /\ Cb Z) fun Z => ga Z < gb Z) := xt_cmp op_lt (nomark _) ha hb
theorem xt_gt (ha : PE X a (tXI X.K G Ca ga)) (hb : PE X b (tXI X.K G Cb gb)) : PT X (.Compare a [.Gt] [b] pos) (tXT X.K G (fun Z => Ca Z /\ Cb Z) fun Z => gb Z < ga Z) := xt_cmp (p := fun i j => j < i) op_gt (nomark _) ha hb
theorem xt_ge (ha : PE X a (tXI X.K G Ca ga)) (hb : PE X b (tXI X.K G Cb gb)) : PT X (.Compare a [.GtE] [b] pos) (tXT X.K G (fun Z => Ca Z /\ Cb Z) fun Z => gb Z <= ga Z) := xt_cmp (p := fun i j => j <= i) op_ge (nomark _) ha hb
theorem xt_eq (ha : PE X a (tXI X.K G Ca ga)) (hb : PE X b (tXI X.K G Cb gb)) : PT X (.Compare a [.Eq] [b] pos) (tXT X.K G (fun Z => Ca Z /\ Cb Z) fun Z => ga Z = gb Z) := xt_cmp op_eqI (nomark _) ha hb
theorem xt_ne (ha : PE X a (tXI X.K G Ca ga)) (hb : PE X b (tXI X.K G Cb gb)) : PT X (.Compare a [.NotEq] [b] pos) (tXT X.K G (fun Z => Ca Z /\ Cb Z) fun Z => ¬ ga Z = gb Z) := xt_cmp (p := fun i j => ¬ i = j) op_neI (nomark _) ha hb
variable {pa pb : En -> Prop} [∀ Z, Decidable (pa Z)] [∀ Z, Decidable (pb Z)] {rest : List Expr}
theorem xt_V {e : Expr} (h : PE X e (tXB X.K G Ca pa)) (he : ∀ whole, isTrue e X.env whole = (do let v <- whole; standAt e.pos; holding [v] (truthy v)) := by intro _; rfl) : PT X e (tXT X.K G Ca pa) :=
  fun pins s σ H Q I ⟨B, Z, O, R, c, q⟩ => pt_val h he pins s σ H Q I ⟨B, Z, O, R, c, fun _ H1 s1 a1 => ⟨_, a1, q H1 s1⟩⟩
theorem xt_not (ha : PT X a (tXT X.K G Ca pa)) : PT X (.UnaryOp .Not a pos) (tXT X.K G Ca fun Z => ¬ pa Z) :=
  fun pins s σ H Q I ⟨B, Z, O, R, c, q⟩ => L2.pt_not ha pins s σ H Q I ⟨B, Z, O, R, c, fun H1 s1 => by have z := q H1 s1; rw [decide_not] at z; exact z⟩
theorem xw_or1 (ha : PT X a (tXT X.K G Ca pa)) : PW X (.BoolOp .Or [a] pos) (tXT X.K G Ca pa) := pw_or1 ha
theorem xw_and1 (ha : PT X a (tXT X.K G Ca pa)) : PW X (.BoolOp .And [a] pos) (tXT X.K G Ca pa) := pw_and1 ha
theorem xw_or (ha : PT X a (tXT X.K G Ca pa)) (hb : PW X (.BoolOp .Or (b :: rest) pos) (tXT X.K G Cb pb)) : PW X (.BoolOp .Or (a :: b :: rest) pos) (tXT X.K G (fun Z => Ca Z /\ (¬ pa Z -> Cb Z)) fun Z => pa Z \/ pb Z) :=
  fun wh pins s σ H Q I ⟨B, Z, O, R, c, q⟩ => pw_or ha hb wh pins s σ H Q I ⟨B, Z, O, R, c.1, fun H1 s1 => by
    by_cases d : pa Z
    . have z := q H1 s1
      rw [decide_eq_true (Or.inl d : pa Z \/ pb Z)] at z
      rw [decide_eq_true d]; refine iteT ?_; exact z
    . rw [decide_eq_false d]; refine iteF ?_
      refine ⟨B, Z, O, R.grow s1, c.2 d, fun H2 s2 => ?_⟩
      have z := q H2 (s1.trans s2)
      have e : decide (pa Z \/ pb Z) = decide (pb Z) := by simp [d]
      rw [e] at z; exact z⟩
theorem xw_and (ha : PT X a (tXT X.K G Ca pa)) (hb : PW X (.BoolOp .And (b :: rest) pos) (tXT X.K G Cb pb)) : PW X (.BoolOp .And (a :: b :: rest) pos) (tXT X.K G (fun Z => Ca Z /\ (pa Z -> Cb Z)) fun Z => pa Z /\ pb Z) :=
  fun wh pins s σ H Q I ⟨B, Z, O, R, c, q⟩ => pw_and ha hb wh pins s σ H Q I ⟨B, Z, O, R, c.1, fun H1 s1 => by
    by_cases d : pa Z
    . rw [decide_eq_true d]; refine iteT ?_
      refine ⟨B, Z, O, R.grow s1, c.2 d, fun H2 s2 => ?_⟩
      have z := q H2 (s1.trans s2)
      have e : decide (pa Z /\ pb Z) = decide (pb Z) := by simp [d]
      rw [e] at z; exact z
    . have z := q H1 s1
      rw [decide_eq_false (fun y => d y.1 : ¬ (pa Z /\ pb Z))] at z
      rw [decide_eq_false d]; refine iteF ?_; exact z⟩
theorem xe_not (ha : PE X a (tXB X.K G Ca pa)) : PE X (.UnaryOp .Not a pos) (tXB X.K G Ca fun Z => ¬ pa Z) :=
  toX (pe_not ha) fun B _ _ Z O _ R c q => ⟨B, Z, O, R, c, fun _ H1 s1 a1 => ⟨_, a1, q _ H1 s1 (by rw [decide_not]; rfl)⟩⟩
theorem xe_and (ha : PE X a (tXB X.K G Ca pa)) (hb : PE X (.BoolOp .And (b :: rest) pos) (tXB X.K G Cb pb)) : PE X (.BoolOp .And (a :: b :: rest) pos) (tXB X.K G (fun Z => Ca Z /\ (pa Z -> Cb Z)) fun Z => pa Z /\ pb Z) :=
  toX (pe_and ha hb) fun B _ _ Z O _ R c q => ⟨B, Z, O, R, c.1, fun _ H1 s1 a1 => ⟨_, a1, by
    by_cases d : pa Z
    . rw [decide_eq_true d]; refine iteT ?_
      refine ⟨B, Z, O, R.grow s1, c.2 d, fun v H2 s2 a2 => q v H2 (s1.trans s2) ?_⟩
      have e : decide (pa Z /\ pb Z) = decide (pb Z) := by simp [d]
      rw [e]; exact a2
    . have z := q (.bl false) H1 s1 (by rw [decide_eq_false (fun y => d y.1 : ¬ (pa Z /\ pb Z))]; rfl)
      rw [decide_eq_false d]; refine iteF ?_; exact z⟩⟩
variable {es : List Expr} {gs : En -> List PV}
theorem xa_nil : PA X [] (tXs X.K G (fun _ => True) fun _ => []) := fun pos pins s σ H Q I ⟨_, _, _, _, _, q⟩ => pa_nil pos pins s σ H Q I (q [] H (Same.refl H) rfl)
theorem xa_cons (ha : PE X e (tX X.K G Ca g)) (hr : PA X es (tXs X.K G Cb gs)) (hs : starEach (e :: es) X.env = (false, eval e X.env) :: starEach es X.env := by rfl) : PA X (e :: es) (tXs X.K G (fun Z => Ca Z /\ Cb Z) fun Z => g Z :: gs Z) :=
  fun pos pins s σ H Q I ⟨B, Z, O, R, c, q⟩ => pa_cons ha hr hs pos pins s σ H Q I ⟨B, Z, O, R, c.1, fun v H1 s1 a1 => ⟨B, Z, O, R.grow s1, c.2, fun vs H2 s2 a2 => q _ H2 (s1.trans s2) ⟨v, vs, rfl, At.mono (mn_same s2) _ _ a1, a2⟩⟩⟩
end
structure Ps where
  nx : En -> Prop
  rt : PV -> Prop
  rl : List Int -> Prop := fun _ => False
  rn : PV -> Prop := fun _ => False
  bk : En -> Prop := fun _ => False
  ct : En -> Prop := fun _ => False
  er : Addr -> Prop := fun _ => False
abbrev ER := Addr -> Hp -> Prop
abbrev ER0 : ER := fun _ _ => False
abbrev FS := Ps -> En -> Prop
def RepE (K : PySem.W.Frag) (G : Gx) (B : Bs) (σ : L2.St) (H : Hp) (Z : En) : Prop := ∃ O, Rep K G B σ H Z O
structure Owe (K : PySem.W.Frag) (G : Gx) (Er : ER) (B : Bs) (P : Ps) (D : Ends) : Prop where
  nx : ∀ σ H Z, RepE K G B σ H Z -> P.nx Z -> D.nx σ H
  rt : ∀ v H p, Same B.H0 H -> At K G (mn H B.Oc) p v -> P.rt p -> D.rt v H
  rl : ∀ a H ns, Same B.H0 H -> B.H0 a = none -> H a = some (.lst (ns.map V.int)) -> P.rl ns -> D.rt (.ref a) H
  rn : ∀ v H p, Same B.H0 H -> At K G (mn H fun a => (B.H0 a).isSome) p v -> P.rn p -> D.rt v H
  bk : ∀ σ H Z, RepE K G B σ H Z -> P.bk Z -> D.bk σ H
  ct : ∀ σ H Z, RepE K G B σ H Z -> P.ct Z -> D.ct σ H
  er : ∀ H C, Same B.H0 H -> P.er C -> Er C H
def ts (K : PySem.W.Frag) (G : Gx) (Er : ER) (f : FS) : TS := fun D σ H => ∃ B Z P, RepE K G B σ H Z /\ f P Z /\ Owe K G Er B P D
section
variable {X : Cx} {G : Gx} {Er : ER} {pos : Pos} {st : Stmt} {sts : List Stmt} {f f1 f2 : FS} {C : En -> Prop} {e : Expr} {t : TS}
theorem toS (h : PS X st t) (k : ∀ B σ H Z O P D, Rep X.K G B σ H Z O -> f P Z -> Owe X.K G Er B P D -> t D σ H) : PS X st (ts X.K G Er f) :=
  fun pins s σ H D I ⟨B, Z, P, ⟨O, R⟩, c, w⟩ => h pins s σ H D I (k B σ H Z O P D R c w)
theorem xss_nil : PSs X [] (ts X.K G Er fun P Z => P.nx Z) := fun pins s σ H D I ⟨_, Z, _, R, c, w⟩ => pss_nil pins s σ H D I (w.nx σ H Z R c)
theorem xss_one (h : PS X st (ts X.K G Er f)) : PSs X [st] (ts X.K G Er f) := pss_one h
theorem xss_cons (h1 : PS X st (ts X.K G Er f1)) (h2 : PSs X sts (ts X.K G Er f2)) : PSs X (st :: sts) (ts X.K G Er fun P Z => f1 { P with nx := f2 P } Z) :=
  fun pins s σ H D I ⟨B, Z, P, R, c, w⟩ => pss_cons h1 h2 pins s σ H D I ⟨B, Z, { P with nx := f2 P }, R, c, ⟨fun _ _ Z' R' c' => ⟨B, Z', P, R', c', w⟩, w.rt, w.rl, w.rn, w.bk, w.ct, w.er⟩⟩
theorem xss_join (h1 : PS X st (ts X.K G Er f1)) (h2 : PSs X sts (ts X.K G Er f2)) : PSs X (st :: sts) (ts X.K G Er fun P Z => ∃ J : En -> Prop, f1 { P with nx := J } Z /\ ∀ Z', J Z' -> f2 P Z') :=
  fun pins s σ H D I ⟨B, Z, P, R, ⟨J, c, k⟩, w⟩ => pss_cons h1 h2 pins s σ H D I ⟨B, Z, { P with nx := J }, R, c, ⟨fun _ _ Z' R' c' => ⟨B, Z', P, R', k Z' c', w⟩, w.rt, w.rl, w.rn, w.bk, w.ct, w.er⟩⟩
theorem xss_freeze (i : Nat) (h : PSs X sts (ts X.K G Er f)) : PSs X sts (ts X.K G Er fun P Z => f P (frz Z i)) :=
  fun pins s σ H D I ⟨B, Z, P, ⟨_, R⟩, c, w⟩ => h pins s σ H D I ⟨B, frz Z i, P, R.freeze i, c, w⟩
theorem xst_ret {g : En -> PV} (h : PE X e (tX X.K G C g)) : PS X (.Return (some e) pos) (ts X.K G Er fun P Z => C Z /\ P.rt (g Z)) :=
  toS (ps_ret h) fun B _ _ Z O _ _ R c w => ⟨B, Z, O, R, c.1, fun v H1 s1 a1 => w.rt v H1 _ (R.same.trans s1) (At.mono (mn_anti R.hid) _ _ a1) c.2⟩
theorem xst_retl {g : En -> List Int} (h : PE X e (tXl X.K G C g)) : PS X (.Return (some e) pos) (ts X.K G Er fun P Z => C Z /\ P.rl (g Z)) :=
  toS (ps_ret h) fun B _ _ Z O _ _ R c w => ⟨B, Z, O, R, c.1, fun a H1 s1 n1 e1 => w.rl a H1 _ (R.same.trans s1) (R.same.free n1) e1 c.2⟩
theorem xst_retO (i : Nat) {x : Str} {px : Pos} (hN : X.N[i]? = some x := by rfl) (hv : Vis X.env.scope x := by first | exact Or.inl rfl | exact Or.inr (Or.inl rfl) | exact Or.inr (Or.inr rfl))
    (hd : (x == ("__debug__" : Str)) = false := by decide) (hcd : (x == ("__classdict__" : Str)) = false := by decide) : PS X (.Return (some (.Name x px)) pos) (ts X.K G Er fun P Z => isO Z i /\ P.rl (getL Z i)) :=
  toS (ps_ret (pe_var hN hv hd hcd)) fun B _ H Z O _ _ R c w => by
    obtain ⟨a, vs, e1, e2, e3, e4, e5⟩ := R.ow i _ c.1
    have e5 : vs = (getL Z i).map V.int := e5
    subst e5
    exact ⟨_, e1, w.rl a H _ R.same e3 e4 c.2⟩
theorem xst_set {i : Nat} {x : Str} {pos' : Pos} {g : En -> PV} (hN : X.N.Nodup) (hi : X.N[i]? = some x) (hx : Loc X.env.scope x) (he : PE X e (tX X.K G C g)) (hs : swapsWith e (some (.Name x pos')) pos.line X.env = pure false := by rfl)
    (hf : X.fn x = true \/ X.env.scope.names.lookup x = some .local := by first | exact .inl rfl | exact .inr rfl | assumption) : PS X (.Assign [.Name x pos'] e pos) (ts X.K G Er fun P Z => C Z /\ P.nx (Z.set i (.fr (g Z)))) :=
  toS (ps_set hN hi hx he hs hf) fun B σ _ Z O _ _ R c w => ⟨B, Z, O, R, c.1, fun _ H1 s1 a1 => w.nx _ H1 _ ⟨O, (R.grow s1).set a1⟩ c.2⟩
theorem xst_setP {i : Nat} {x : Str} {pos' : Pos} {g : En -> PV} (hN : X.N.Nodup) (hi : X.N[i]? = some x) (hx : Loc X.env.scope x) (he : PE X e (tX X.K G C g)) (hs : swapsWith e (some (.Name x pos')) pos.line X.env = pure false := by rfl)
    (hf : X.fn x = true \/ X.env.scope.names.lookup x = some .local := by first | exact .inl rfl | exact .inr rfl | assumption) : PS X (.Assign [.Name x pos'] e pos) (ts X.K G Er fun P Z => C Z /\ ∀ p, p = g Z -> P.nx (Z.set i (.fr p))) :=
  toS (xst_set hN hi hx he hs hf) fun B σ _ Z O P D R c w => ⟨B, Z, P, ⟨O, R⟩, ⟨c.1, c.2 _ rfl⟩, w⟩
theorem xst_setI {i : Nat} {x : Str} {pos' : Pos} {g : En -> Int} (hN : X.N.Nodup) (hi : X.N[i]? = some x) (hx : Loc X.env.scope x) (he : PE X e (tXI X.K G C g)) (hs : swapsWith e (some (.Name x pos')) pos.line X.env = pure false := by rfl)
    (hf : X.fn x = true \/ X.env.scope.names.lookup x = some .local := by first | exact .inl rfl | exact .inr rfl | assumption) : PS X (.Assign [.Name x pos'] e pos) (ts X.K G Er fun P Z => C Z /\ ∀ n, n = g Z -> P.nx (Z.set i (.fr (.int n)))) :=
  toS (xst_set hN hi hx he hs hf) fun B σ _ Z O P D R c w => ⟨B, Z, P, ⟨O, R⟩, ⟨c.1, c.2 _ rfl⟩, w⟩
theorem xst_setL {i : Nat} {x : Str} {pos' : Pos} {g : En -> List Int} (hN : X.N.Nodup) (hi : X.N[i]? = some x) (hx : Loc X.env.scope x) (he : PE X e (tXL X.K G C g)) (hs : swapsWith e (some (.Name x pos')) pos.line X.env = pure false := by rfl)
    (hf : X.fn x = true \/ X.env.scope.names.lookup x = some .local := by first | exact .inl rfl | exact .inr rfl | assumption) : PS X (.Assign [.Name x pos'] e pos) (ts X.K G Er fun P Z => C Z /\ ∀ ns, ns = g Z -> P.nx (Z.set i (.fr (.ints ns)))) :=
  toS (xst_set hN hi hx he hs hf) fun B σ _ Z O P D R c w => ⟨B, Z, P, ⟨O, R⟩, ⟨c.1, c.2 _ rfl⟩, w⟩
theorem xst_own {i : Nat} {x : Str} {pos' : Pos} {g : En -> List Int} (hN : X.N.Nodup) (hi : X.N[i]? = some x) (hx : Loc X.env.scope x) (he : PE X e (tXl X.K G C g)) (hs : swapsWith e (some (.Name x pos')) pos.line X.env = pure false := by rfl)
    (hf : X.fn x = true \/ X.env.scope.names.lookup x = some .local := by first | exact .inl rfl | exact .inr rfl | assumption) : PS X (.Assign [.Name x pos'] e pos) (ts X.K G Er fun P Z => C Z /\ ∀ ns, ns = g Z -> P.nx (Z.set i (.ow (.ints ns)))) :=
  toS (ps_set hN hi hx he hs hf) fun B σ _ Z O _ _ R c w => ⟨B, Z, O, R, c.1, fun a H1 s1 n1 e1 => w.nx _ H1 _ ⟨hide a O, R.new (p := .ints (g Z)) s1 n1 e1 rfl⟩ (c.2 _ rfl)⟩
theorem xst_ownP {i : Nat} {x : Str} {pos' : Pos} {g : En -> List PV} (hN : X.N.Nodup) (hi : X.N[i]? = some x) (hx : Loc X.env.scope x) (he : PE X e (tXp X.K G C g)) (hs : swapsWith e (some (.Name x pos')) pos.line X.env = pure false := by rfl)
    (hf : X.fn x = true \/ X.env.scope.names.lookup x = some .local := by first | exact .inl rfl | exact .inr rfl | assumption) : PS X (.Assign [.Name x pos'] e pos) (ts X.K G Er fun P Z => C Z /\ ∀ ns, ns = g Z -> P.nx (Z.set i (.ow (.lst ns)))) :=
  toS (ps_set hN hi hx he hs hf) fun B σ _ Z O _ _ R c w => ⟨B, Z, O, R, c.1, fun a vs H1 s1 n1 e1 al => w.nx _ H1 _ ⟨hide a O, R.new (p := .lst (g Z)) s1 n1 e1 al⟩ (c.2 _ rfl)⟩
theorem xst_if {c : Expr} {a b : List Stmt} {p : En -> Prop} [∀ Z, Decidable (p Z)] (hc : PT X c (tXT X.K G C p)) (ha : PSs X a (ts X.K G Er f1)) (hb : PSs X b (ts X.K G Er f2)) : PS X (.If c a b pos) (ts X.K G Er fun P Z => C Z /\ (p Z -> f1 P Z) /\ (¬ p Z -> f2 P Z)) :=
  toS (ps_if hc ha hb) fun B σ _ Z O P D R c w => ⟨B, Z, O, R, c.1, fun H1 s1 => by
    by_cases d : p Z
    . rw [decide_eq_true d]; refine iteT ?_; exact ⟨B, Z, P, ⟨O, R.grow s1⟩, c.2.1 d, w⟩
    . rw [decide_eq_false d]; refine iteF ?_; exact ⟨B, Z, P, ⟨O, R.grow s1⟩, c.2.2 d, w⟩⟩
theorem xst_while {c : Expr} {body : List Stmt} {p : En -> Prop} [∀ Z, Decidable (p Z)] (hp : PassesOwn (model X.prog X.w) X.A X.env X.xe) (hc : PT X c (tXT X.K G C p)) (hb : PSs X body (ts X.K G Er f)) :
    PS X (.While c body [] pos) (ts X.K G Er fun P Z => ∃ (W : En -> Prop) (μ : En -> Nat), W Z /\ ∀ Z, W Z -> C Z /\ (p Z -> f { P with nx := fun Z' => W Z' /\ μ Z' < μ Z, ct := fun Z' => W Z' /\ μ Z' < μ Z, bk := P.nx } Z) /\ (¬ p Z -> P.nx Z)) :=
  toS (ps_while hp hc hb) fun B σ H Z O P D R c w => by
    obtain ⟨W, μ, w0, st⟩ := c
    refine ⟨fun m σ H => ∃ Z, RepE X.K G B σ H Z /\ W Z /\ m = μ Z, ⟨μ Z, Z, ⟨O, R⟩, w0, rfl⟩, ?_⟩
    rintro m σ H ⟨Z, ⟨O, R⟩, hw, rfl⟩
    obtain ⟨c1, c2, c3⟩ := st Z hw
    refine ⟨B, Z, O, R, c1, fun H1 s1 => ?_⟩
    by_cases d : p Z
    . rw [decide_eq_true d]; refine iteT ?_
      refine ⟨fun σ' H' => ∃ Z', RepE X.K G B σ' H' Z' /\ W Z' /\ μ Z' < μ Z, fun σ' H' ⟨Z', R', h1, h2⟩ => ⟨_, h2, Z', R', h1, rfl⟩, B, Z, _, ⟨O, R.grow s1⟩, c2 d, ⟨fun σ' H' Z' R' h => ⟨Z', R', h⟩, w.rt, w.rl, w.rn, w.nx, fun σ' H' Z' R' h => ⟨Z', R', h⟩, w.er⟩⟩
    . rw [decide_eq_false d]; refine iteF ?_; exact w.nx σ H1 Z ⟨O, R.grow s1⟩ (c3 d)
theorem xst_forR {k : Nat} {x : Str} {a : Expr} {body : List Stmt} {g : En -> Int} {p px pos' : Pos} (hp : PassesOwn (model X.prog X.w) X.A X.env X.xe) (hc : X.calm = true) (hg : Gl X "range") (hm : X.mg "range" = none) (ha : PE X a (tXI X.K G C g)) (hN : X.N.Nodup) (hi : X.N[k]? = some x) (hx : Loc X.env.scope x)
    (hb : PSs X body (ts X.K G Er f)) (hs : starEach [a] X.env = [(false, eval a X.env)] := by rfl) (hfs : ∀ x, foldedSetIterable (.Call (.Name "range" p) [a] [] pos') X.env x = pure x := by intro _; rfl)
    (hf : X.fn x = true \/ X.env.scope.names.lookup x = some .local := by first | exact .inl rfl | exact .inr rfl | assumption) :
    PS X (.For (.Name x px) (.Call (.Name "range" p) [a] [] pos') body [] pos) (ts X.K G Er fun P Z => C Z /\ (-(2 ^ 62) <= g Z /\ g Z < 2 ^ 62) /\ ∃ W : Nat -> En -> Prop, W 0 Z /\ (∀ i Z', i < (g Z).toNat -> W i Z' -> f { P with nx := W (i + 1), ct := W (i + 1), bk := P.nx } (Z'.set k (.fr (.int i)))) /\ ∀ Z', W (g Z).toNat Z' -> P.nx Z') :=
  toS (ps_for hp hc (pi_range1 hg hm (pa_cons ha pa_nil hs) hs) (pg_name hN hi hx hf) hb hfs) fun B σ H Z O P D R c w => by
    obtain ⟨c1, ⟨l1, l2⟩, W, w0, st, nd⟩ := c
    refine ⟨B, Z, O, R, c1, fun v H1 s1 a1 => ?_⟩
    have a1 : v = .int (g Z) := a1
    subst a1
    refine ⟨g Z, rfl, l1, l2, for_range (fun i σ H => ∃ Z', RepE X.K G B σ H Z' /\ W i Z') ⟨Z, ⟨O, R.grow s1⟩, w0⟩ ?_ ?_⟩
    . rintro i σ H hi ⟨Z', ⟨O', R'⟩, hw⟩
      have e : (0 : Int) + i = i := by omega
      rw [e]
      exact ⟨B, _, _, ⟨O', R'.set (p := .int i) rfl⟩, st i Z' hi hw, ⟨fun σ' H' Z' R' h => ⟨Z', R', h⟩, w.rt, w.rl, w.rn, w.nx, fun σ' H' Z' R' h => ⟨Z', R', h⟩, w.er⟩⟩
    . rintro σ H ⟨Z', R', hw⟩
      exact w.nx σ H Z' R' (nd Z' hw)
theorem owe_base {B : Bs} {σ : L2.St} {H : Hp} {Z : En} {O : Addr -> Bool} {K : PySem.W.Frag} {P : Ps} {D : Ends} (R : Rep K G B σ H Z O) (w : Owe K G Er B P D) : Owe K G Er (B.at H O) P D :=
  ⟨fun σ' H' Z' ⟨O', R'⟩ h => w.nx σ' H' Z' ⟨O', R.unbase R'⟩ h, fun v H' p s a h => w.rt v H' p (R.base_le.trans s) a h, fun a H' ns s n e h => w.rl a H' ns (R.base_le.trans s) (R.base_le.free n) e h, fun v H' p s a h => w.rn v H' p (R.base_le.trans s) (At.mono (mn_anti fun b z => by
    obtain ⟨o, e⟩ := Option.isSome_iff_exists.mp z
    exact Option.isSome_iff_exists.mpr ⟨o, R.base_le _ _ e⟩) _ _ a) h, fun σ' H' Z' ⟨O', R'⟩ h => w.bk σ' H' Z' ⟨O', R.unbase R'⟩ h, fun σ' H' Z' ⟨O', R'⟩ h => w.ct σ' H' Z' ⟨O', R.unbase R'⟩ h, fun H' C s h => w.er H' C (R.base_le.trans s) h⟩
theorem xst_forL {k : Nat} {x : Str} {l : Expr} {body : List Stmt} {g : En -> List Int} {px : Pos} (hp : PassesOwn (model X.prog X.w) X.A X.env X.xe) (hc : X.calm = true) (hl : PE X l (tXL X.K G C g)) (hN : X.N.Nodup) (hi : X.N[k]? = some x) (hx : Loc X.env.scope x)
    (hb : PSs X body (ts X.K G Er f)) (hfs : ∀ x, foldedSetIterable l X.env x = pure x := by intro _; rfl) (hf : X.fn x = true \/ X.env.scope.names.lookup x = some .local := by first | exact .inl rfl | exact .inr rfl | assumption) :
    PS X (.For (.Name x px) l body [] pos) (ts X.K G Er fun P Z => C Z /\ ∃ W : Nat -> En -> Prop, W 0 Z /\ (∀ i n Z', (g Z)[i]? = some n -> W i Z' -> f { P with nx := W (i + 1), ct := W (i + 1), bk := P.nx } (Z'.set k (.fr (.int n)))) /\ ∀ Z', W (g Z).length Z' -> P.nx Z') :=
  toS (ps_for hp hc (pi_list hl) (pg_name hN hi hx hf) hb hfs) fun B σ H Z O P D R c w => by
    obtain ⟨c1, W, w0, st, nd⟩ := c
    refine ⟨B, Z, O, R, c1, fun v H1 s1 a1 => ?_⟩
    obtain ⟨a, e, hq⟩ := a1
    have R1 := R.grow s1
    have w1 := owe_base R1 w
    refine ⟨a, e, ⟨_, .inl (same_rd mn_le hq)⟩, for_list (xs := (g Z).map V.int) (fun i σ H => ∃ Z', RepE X.K G (B.at H1 O) σ H Z' /\ W i Z') ⟨Z, ⟨O, R1.rebase⟩, w0⟩ ?_ ?_ ?_⟩
    . rintro i σ H _ ⟨Z', ⟨O', R'⟩, _⟩
      exact .inl (same_rd ((Rep.base_mn B H1 O).trans R'.same) hq)
    . rintro i y σ H hy ⟨Z', ⟨O', R'⟩, hw⟩
      rw [List.getElem?_map] at hy
      cases en : (g Z)[i]? with
      | none => rw [en] at hy; cases hy
      | some n =>
        rw [en] at hy
        have hy : V.int n = y := Option.some.inj hy
        subst hy
        exact ⟨_, _, _, ⟨O', R'.set (p := .int n) rfl⟩, st i n Z' en hw, ⟨fun σ' H' Z' R' h => ⟨Z', R', h⟩, w1.rt, w1.rl, w1.rn, w1.nx, fun σ' H' Z' R' h => ⟨Z', R', h⟩, w1.er⟩⟩
    . rintro σ H ⟨Z', R', hw⟩
      rw [List.length_map] at hw
      exact w1.nx σ H Z' R' (nd Z' hw)
end
theorem getD_at {ns : List Int} {i : Int} (h1 : -(ns.length : Int) <= i) (h2 : i < ns.length) : atI (ns.map V.int) i = some (V.int (ns.getD (if 0 <= i then i else i + ns.length).toNat 0)) := by
  by_cases c0 : 0 <= i
  . rw [if_pos c0]; exact atI_int c0 h2
  . rw [if_neg c0]
    have q2 := atI_int (ns := ns) (i := i + ns.length) (by omega) (by omega)
    unfold atI ixN at q2 ⊢
    rw [List.length_map] at q2 ⊢
    rw [if_pos (show 0 <= i + (ns.length : Int) by omega), if_pos (show i + (ns.length : Int) < (ns.length : Int) by omega)] at q2
    rw [if_neg c0, if_pos h1]
    exact q2
def ixO (n : Nat) (i : Int) : Nat := (if 0 <= i then i else i + n).toNat
theorem ixN_ok {n : Nat} {i : Int} (h1 : -(n : Int) <= i) (h2 : i < n) : ixN n i = some (ixO n i) := by
  unfold ixN ixO
  by_cases c : 0 <= i
  . rw [if_pos c, if_pos h2, if_pos c]
  . rw [if_neg c, if_pos h1, if_neg c]
theorem ixO_lt {n : Nat} {i : Int} (h1 : -(n : Int) <= i) (h2 : i < n) : ixO n i < n := by
  unfold ixO
  by_cases c : 0 <= i
  . rw [if_pos c]; omega
  . rw [if_neg c]; omega
section
variable {X : Cx} {G : Gx} {Er : ER} {a b e : Expr} {pos p px : Pos} {C Ca Cb : En -> Prop} {ga gb : En -> Int} {i : Nat} {es : List Expr}
theorem xn_item (i : Nat) {x : Str} (hb : PE X b (tXI X.K G Cb gb)) (hs : PlainIx b) (hN : X.N[i]? = some x := by rfl) (hv : Vis X.env.scope x := by first | exact Or.inl rfl | exact Or.inr (Or.inl rfl) | exact Or.inr (Or.inr rfl))
    (hd : (x == ("__debug__" : Str)) = false := by decide) (hcd : (x == ("__classdict__" : Str)) = false := by decide) :
    PE X (.Subscript (.Name x px) b pos) (tXI X.K G (fun Z => isLO Z i /\ Cb Z /\ -((getL Z i).length : Int) <= gb Z /\ gb Z < ((getL Z i).length : Int)) fun Z => (getL Z i).getD (ixO (getL Z i).length (gb Z)) 0) :=
  toX (pe_ix ix_list (pe_var hN hv hd hcd) hb hs) fun B σ H Z O Q R c q => by
    obtain ⟨a, e1, e2⟩ := R.readL c.1
    exact ⟨_, e1, B, Z, O, R, c.2.1, fun u H1 s1 a1 => ⟨a, _, _, _, rfl, a1, s1.seq e2, getD_at c.2.2.1 c.2.2.2, q _ H1 s1 rfl⟩⟩
theorem xn_len (i : Nat) {x : Str} (hm : X.mg "len" = none) (hN : X.N[i]? = some x := by rfl) (hg : Gl X "len" := by rfl) (hv : Vis X.env.scope x := by first | exact Or.inl rfl | exact Or.inr (Or.inl rfl) | exact Or.inr (Or.inr rfl))
    (hd : (x == ("__debug__" : Str)) = false := by decide) (hcd : (x == ("__classdict__" : Str)) = false := by decide) (he : starEach [.Name x px] X.env = [(false, eval (.Name x px) X.env)] := by rfl) :
    PE X (.Call (.Name "len" p) [.Name x px] [] pos) (tXI X.K G (fun Z => isLO Z i) fun Z => ((getL Z i).length : Int)) :=
  toX (pe_callB call_len_seq hg hm bt_len (pa_cons (pe_var hN hv hd hcd) pa_nil he) (by decide) (by decide) he rfl) fun B σ H Z O Q R c q => by
    obtain ⟨a, e1, e2⟩ := R.readL c
    exact ⟨_, e1, a, _, rfl, .inl e2, by rw [List.length_map]; exact q _ H (Same.refl H) rfl⟩
def lenP : PV -> Int
  | .ints ns => (ns.length : Int)
  | .scr ns => (ns.length : Int)
  | .lst xs => (xs.length : Int)
  | .tup xs => (xs.length : Int)
  | _ => 0
def hasLen : PV -> Prop
  | .ints _ => True
  | .scr _ => True
  | .lst _ => True
  | .tup _ => True
  | _ => False
def itP : PV -> Int -> PV
  | .lst xs, k => xs.getD (ixO xs.length k) .non
  | .tup xs, k => xs.getD (ixO xs.length k) .non
  | .ints ns, k => .int (ns.getD (ixO ns.length k) 0)
  | _, _ => .non
def hasIt : PV -> Int -> Prop
  | .lst xs, k => -(xs.length : Int) <= k /\ k < xs.length
  | .tup xs, k => -(xs.length : Int) <= k /\ k < xs.length
  | .ints xs, k => -(xs.length : Int) <= k /\ k < xs.length
  | _, _ => False
theorem AtL.item {K : PySem.W.Frag} {H : Hp} {ps : List PV} {vs : List V} {k : Int} (h : AtL K G H ps vs) (h1 : -(ps.length : Int) <= k) (h2 : k < ps.length) : ∃ v, atI vs k = some v /\ At K G H (ps.getD (ixO ps.length k) .non) v := by
  have l := ixO_lt h1 h2
  have e : ps[ixO ps.length k]? = some (ps.getD (ixO ps.length k) .non) := by rw [gQ, List.getElem?_eq_getElem l]; rfl
  obtain ⟨v, ev, av⟩ := h.at e
  refine ⟨v, ?_, av⟩
  unfold atI
  rw [<- h.length, ixN_ok h1 h2]
  exact ev
theorem xp_item {g : En -> PV} (ha : PE X a (tX X.K G Ca g)) (hb : PE X b (tXI X.K G Cb gb)) (hs : PlainIx b) : PE X (.Subscript a b pos) (tX X.K G (fun Z => Ca Z /\ Cb Z /\ hasIt (g Z) (gb Z)) fun Z => itP (g Z) (gb Z)) :=
  toX (pe_ix ix_seq ha hb hs) fun B σ H Z O Q R c q => two R c.1 c.2.1 fun v u H1 H2 s1 s2 a1 a2 => by
    have h := c.2.2
    revert a1 h q
    generalize g Z = pg
    intro q a1 h
    cases pg <;> first | exact h.elim | skip
    . obtain ⟨p, e, r⟩ := a1
      exact .inl ⟨p, _, _, _, e, a2, .inl (same_rd mn_le r), getD_at h.1 h.2, q _ H2 (s1.trans s2) rfl⟩
    . obtain ⟨p, vs, e, r, t⟩ := a1
      obtain ⟨v', e', a'⟩ := t.item h.1 h.2
      exact .inl ⟨p, vs, _, v', e, a2, .inl (same_rd mn_le r), e', q _ H2 (s1.trans s2) a'⟩
    . obtain ⟨p, vs, e, r, t⟩ := a1
      obtain ⟨v', e', a'⟩ := t.item h.1 h.2
      exact .inr (.inl ⟨p, vs, _, v', e, a2, SqT.of (mn_le _ _ r), e', q _ H2 (s1.trans s2) a'⟩)
theorem xt_list (i : Nat) {x : Str} (hN : X.N[i]? = some x := by rfl) (hv : Vis X.env.scope x := by first | exact Or.inl rfl | exact Or.inr (Or.inl rfl) | exact Or.inr (Or.inr rfl))
    (hd : (x == ("__debug__" : Str)) = false := by decide) (hcd : (x == ("__classdict__" : Str)) = false := by decide) : PT X (.Name x pos) (tXT X.K G (fun Z => isLO Z i) fun Z => ¬ getL Z i = []) :=
  fun pins s σ H Q I ⟨B, Z, O, R, c, q⟩ => pt_truth (pe_var hN hv hd hcd) (fun _ => rfl) pins s σ H Q I (by
    obtain ⟨a, e1, e2⟩ := R.readL c
    refine ⟨_, e1, _, .inl ⟨_, e2, rfl⟩, ?_⟩
    have z := q H (Same.refl H)
    have e : (!((getL Z i).map V.int).isEmpty) = decide (¬ getL Z i = []) := by cases getL Z i <;> simp
    rw [e]; exact z)
def allI : List PV -> List Int
  | .int n :: r => n :: allI r
  | _ => []
def areI : List PV -> Prop
  | [] => True
  | .int _ :: r => areI r
  | _ => False
theorem AtL.ints {K : PySem.W.Frag} {H : Hp} : ∀ {ps : List PV} {vs : List V}, AtL K G H ps vs -> areI ps -> vs = (allI ps).map V.int
  | [], _, h, _ => h
  | p :: ps, _, h, c => by
    cases p <;> first | exact c.elim | skip
    obtain ⟨v, r, rfl, e, t⟩ := h
    have e : v = _ := e
    rw [e, AtL.ints t c]
    rfl
theorem xl_lst {gs : En -> List PV} (h : PA X es (tXs X.K G C gs)) (hz : ∀ Z, (gs Z).length <= 1000 := by intro _; exact Nat.le_of_ble_eq_true rfl) : PE X (.List es pos) (tXl X.K G (fun Z => C Z /\ areI (gs Z)) fun Z => allI (gs Z)) :=
  toXl (pe_lst h) fun B σ H Z O Q R c q => ⟨B, Z, O, R, c.1, fun vs H1 s1 a1 => ⟨by rw [<- a1.length]; exact Nat.le_of_lt (small1000 (hz Z)), fun a ha => by
    have e := a1.ints c.2
    refine q a _ (s1.trans (same_new ha _)) (s1.free ha) ?_
    rw [upd_same, e]⟩⟩
theorem xp_lst {gs : En -> List PV} (h : PA X es (tXs X.K G C gs)) (hz : ∀ Z, (gs Z).length <= 1000 := by intro _; exact Nat.le_of_ble_eq_true rfl) : PE X (.List es pos) (tXp X.K G C gs) :=
  fun pins s σ H Q I ⟨B, Z, O, R, c, q⟩ => pe_lst h pins s σ H Q I ⟨B, Z, O, R, c, fun vs H1 s1 a1 => ⟨by rw [<- a1.length]; exact Nat.le_of_lt (small1000 (hz Z)), fun a ha =>
    q a vs _ (s1.trans (same_new ha _)) (s1.free ha) upd_same (AtL.mono (mn_hide (same_new ha _) ha) _ _ a1)⟩⟩
theorem xl_list {g : En -> PV} {ns : En -> List Int} (hm : X.mg "list" = none) (ha : PE X a (tX X.K G C g)) (hn : ∀ Z, g Z = .ints (ns Z) \/ g Z = .scr (ns Z)) (hg : Gl X "list" := by rfl) (he : starEach [a] X.env = [(false, eval a X.env)] := by rfl) :
    PE X (.Call (.Name "list" p) [a] [] pos) (tXl X.K G C ns) :=
  toXl (pe_callTy call_list_of hg hm bt_list (pa_cons ha pa_nil he) (by decide) (by decide) he rfl) fun B σ H Z O Q R c q => ⟨B, Z, O, R, c, fun v H1 s1 a1 => by
    have key : ∃ p, v = .ref p /\ SqL X.K H1 p ((ns Z).map V.int) := by
      rcases hn Z with z | z
      . rw [z] at a1; obtain ⟨p, e, r⟩ := a1; exact ⟨p, e, .inl (same_rd mn_le r)⟩
      . rw [z] at a1; obtain ⟨p, e, r⟩ := a1; exact ⟨p, e, mn_le.seq r⟩
    obtain ⟨p, rfl, r⟩ := key
    exact ⟨p, _, rfl, .inl r, fun l hl => q l _ (s1.trans (same_new hl _)) (s1.free hl) upd_same⟩⟩
def cutI (xs : List Int) (lo hi : Option Int) : List Int := (xs.drop (HT.sIx xs.length 0 lo)).take (HT.sIx xs.length xs.length hi - HT.sIx xs.length 0 lo)
theorem cutV_map (xs : List Int) (lo hi : Option Int) : cutV (xs.map V.int) lo hi = (cutI xs lo hi).map V.int := by
  unfold cutV cutI
  rw [List.length_map, <- List.map_drop, <- List.map_take]
def tXo (K : PySem.W.Frag) (G : Gx) (C : En -> Prop) (g : En -> Option Int) : TO := fun σ H Q => ∃ B Z O, Rep K G B σ H Z O /\ C Z /\ ∀ H', Same H H' -> Q (g Z) H'
theorem xo_none : PO X none (tXo X.K G (fun _ => True) fun _ => none) := fun pins s σ H Q I ⟨_, _, _, _, _, q⟩ => po_none pins s σ H Q I (q H (Same.refl H))
theorem xo_some (h : PE X e (tXI X.K G C ga)) : PO X (some e) (tXo X.K G C fun Z => some (ga Z)) := fun pins s σ H Q I ⟨B, Z, O, R, c, q⟩ => po_some h pins s σ H Q I ⟨B, Z, O, R, c, fun _ H1 s1 a1 => ⟨_, a1, q H1 s1⟩⟩
theorem xl_slice {lo hi : Option Expr} {p2 : Pos} {g : En -> PV} {ns : En -> List Int} {Cl Ch : En -> Prop} {gl gh : En -> Option Int} (ha : PE X a (tX X.K G C g)) (hl : PO X lo (tXo X.K G Cl gl)) (hh : PO X hi (tXo X.K G Ch gh)) (hn : ∀ Z, C Z -> g Z = .ints (ns Z) \/ g Z = .scr (ns Z)) :
    PE X (.Subscript a (.Slice lo hi none p2) pos) (tXl X.K G (fun Z => C Z /\ Cl Z /\ Ch Z) fun Z => cutI (ns Z) (gl Z) (gh Z)) :=
  toXl (pe_slice sl_list ha hl hh) fun B σ H Z O Q R c q => ⟨B, Z, O, R, c.1, fun v H1 s1 a1 => ⟨B, Z, O, R.grow s1, c.2.1, fun H2 s2 => ⟨B, Z, O, (R.grow s1).grow s2, c.2.2, fun H3 s3 => by
    have key : ∃ p, v = .ref p /\ SqL X.K H1 p ((ns Z).map V.int) := by
      rcases hn Z c.1 with z | z
      . rw [z] at a1; obtain ⟨p, e, r⟩ := a1; exact ⟨p, e, .inl (same_rd mn_le r)⟩
      . rw [z] at a1; obtain ⟨p, e, r⟩ := a1; exact ⟨p, e, mn_le.seq r⟩
    obtain ⟨p, rfl, r⟩ := key
    refine ⟨p, _, rfl, (s2.trans s3).seq r, fun l hl => q l _ (((s1.trans s2).trans s3).trans (same_new hl _)) (((s1.trans s2).trans s3).free hl) ?_⟩
    rw [upd_same, cutV_map]⟩⟩⟩
theorem Inv.lstR {X : Cx} {pins : List (Addr × Obj)} {σ : L2.St} {H : Hp} {s : Shared} {l : Addr} {xs : List V} (I : Inv X pins σ H s) (hH : Rd H l (.lst xs)) : xs.length <= sizeLine /\ ∃ (its : List Value) (n : Nat), Vals xs its /\ xs.length = its.length /\ s.heap.get? l = some { cls := .type "list", data := .seq its.toArray n } := by
  obtain ⟨z, its, n, r, e⟩ := hH.ok I.hok
  exact ⟨z, its, n, r, r.length, e⟩
def rCatR : R2 := fun x y H Q => ∃ l b xs zs, x = .ref l /\ y = .ref b /\ Rd H l (.lst xs) /\ Rd H b (.lst zs) /\ xs.length + zs.length <= sizeLine /\ ∀ p, H p = none -> Q (.ref p) (upd H p (.lst (xs ++ zs)))
theorem op_catR : OpR X (binaryOp .Add) rCatR := by
  intro pins s σ H x y v u Q I rx ry h
  obtain ⟨l, b, xs, zs, rfl, rfl, hH, hB, hz, q⟩ := h
  cases rx
  cases ry
  obtain ⟨z, its, n, r, hl, e⟩ := Inv.lstR I hH
  obtain ⟨z2, its2, n2, r2, hl2, e2⟩ := Inv.lstR I hB
  refine PySem.P.add_list e e2 ?_ (by rw [List.size_toArray, List.size_toArray]; omega)
  have ea : its.toArray ++ its2.toArray = (its ++ its2).toArray := by simp
  rw [ea]
  exact ⟨.ref _, _, I.lnew (t' := s.toks) (r.append r2) (by rw [List.length_append]; omega), rfl, q _ I.fresh⟩
theorem xl_cat {gl hl : En -> List Int} (ha : PE X a (tXL X.K G Ca gl)) (hb : PE X b (tXL X.K G Cb hl)) : PE X (.BinOp a .Add b pos) (tXl X.K G (fun Z => Ca Z /\ Cb Z /\ (gl Z).length + (hl Z).length <= sizeLine) fun Z => gl Z ++ hl Z) :=
  toXl (pe_op op_catR ha hb) fun B σ H Z O Q R c q => two R c.1 c.2.1 fun v u H1 H2 s1 s2 a1 a2 => by
    obtain ⟨l, rfl, r1⟩ := a1
    obtain ⟨b, rfl, r2⟩ := a2
    refine ⟨l, b, _, _, rfl, rfl, same_rd mn_le r1, same_rd mn_le r2, by rw [List.length_map, List.length_map]; exact c.2.2, fun p hp => q p _ ((s1.trans s2).trans (same_new hp _)) ((s1.trans s2).free hp) ?_⟩
    rw [upd_same, List.map_append]
theorem flat_rep {α : Type} (x : α) : ∀ k : Nat, (List.replicate k [x]).flatten = List.replicate k x
  | 0 => rfl
  | k + 1 => by rw [List.replicate_succ, List.flatten_cons, flat_rep x k]; rfl
theorem xl_rep {gl : En -> List Int} {n : En -> Int} (ha : PE X a (tXl X.K G Ca gl)) (hb : PE X b (tXI X.K G Cb gb)) (hn : ∀ Z, gl Z = [n Z]) : PE X (.BinOp a .Mult b pos) (tXl X.K G (fun Z => Ca Z /\ Cb Z /\ -(2 ^ 63) <= gb Z /\ (gb Z).toNat <= 1000) fun Z => List.replicate (gb Z).toNat (n Z)) :=
  toXl (pe_op op_rep ha hb) fun B σ H Z O Q R c q => ⟨B, Z, O, R, c.1, fun l H1 s1 n1 e1 => ⟨B, Z, O, R.grow s1, c.2.1, fun u H2 s2 a2 => by
    rw [hn Z] at e1
    refine ⟨l, _, _, rfl, a2, s2 _ _ e1, c.2.2.1, by have := c.2.2.2; omega, ?_, fun p hp => q p _ ((s1.trans s2).trans (same_new hp _)) ((s1.trans s2).free hp) ?_⟩
    . rw [List.map_cons, List.map_nil, List.length_singleton, Nat.one_mul]
      exact Nat.le_of_lt (small1000 c.2.2.2)
    . rw [upd_same, List.map_cons, List.map_nil, flat_rep, List.map_replicate]⟩⟩
end
def spF (K : PySem.W.Frag) (G : Gx) (pre : List PV -> Prop) (F : List PV -> PV) : Sp := fun vs H Q _ => ∃ as O, (∀ a, O a = true -> H a ≠ none) /\ AtL K G (mn H O) as vs /\ pre as /\ ∀ v H', Same H H' -> At K G (mn H' O) (F as) v -> Q v H'
def spL (K : PySem.W.Frag) (G : Gx) (pre : List PV -> Prop) (F : List PV -> List Int) : Sp := fun vs H Q _ => ∃ as O, (∀ a, O a = true -> H a ≠ none) /\ AtL K G (mn H O) as vs /\ pre as /\ ∀ a H', Same H H' -> H a = none -> H' a = some (.lst ((F as).map V.int)) -> Q (.ref a) H'
section
variable {X : Cx} {G : Gx} {Er : ER} {e : Expr} {es : List Expr} {pos p : Pos} {j k : Nat} {x : Str} {ps : List Str} {pre : List PV -> Prop} {C : En -> Prop} {gs : En -> List PV}
theorem xc {F : List PV -> PV} (o : Ok X.prog X.w X.K X.mg X.base j x ps (spF X.K G pre F)) (hr : Room k X.A) (ha : PA X (e :: es) (tXs X.K G C gs)) (hj : j <= k := by decide) (hg : Gl X x := by rfl) (hdb : (x == ("__debug__" : Str)) = false := by decide)
    (he : starEach (e :: es) X.env = (false, eval e X.env) :: starEach es X.env := by rfl) (hpl : (backTo pos (starEach es X.env)).any (·.1) = false := by rfl) :
    PE X (.Call (.Name x p) (e :: es) [] pos) (tX X.K G (fun Z => C Z /\ pre (gs Z)) fun Z => F (gs Z)) :=
  toX (pe_callO o hr ha hj hg hdb he hpl) fun B σ H Z O Q R c q => ⟨B, Z, O, R, c.1, fun vs H1 s1 a1 => by
    dsimp only
    rw [List.append_nil]
    exact ⟨gs Z, O, (R.grow s1).dom, a1, c.2, fun v H2 s2 a2 => q v H2 (s1.trans s2) a2⟩⟩
theorem xcl {F : List PV -> List Int} (o : Ok X.prog X.w X.K X.mg X.base j x ps (spL X.K G pre F)) (hr : Room k X.A) (ha : PA X (e :: es) (tXs X.K G C gs)) (hj : j <= k := by decide) (hg : Gl X x := by rfl) (hdb : (x == ("__debug__" : Str)) = false := by decide)
    (he : starEach (e :: es) X.env = (false, eval e X.env) :: starEach es X.env := by rfl) (hpl : (backTo pos (starEach es X.env)).any (·.1) = false := by rfl) :
    PE X (.Call (.Name x p) (e :: es) [] pos) (tXl X.K G (fun Z => C Z /\ pre (gs Z)) fun Z => F (gs Z)) :=
  toXl (pe_callO o hr ha hj hg hdb he hpl) fun B σ H Z O Q R c q => ⟨B, Z, O, R, c.1, fun vs H1 s1 a1 => by
    dsimp only
    rw [List.append_nil]
    exact ⟨gs Z, O, (R.grow s1).dom, a1, c.2, fun a H2 s2 n2 e2 => q a H2 (s1.trans s2) (s1.free n2) e2⟩⟩
end
def startR (N : List Str) (as : List PV) : En := as.map Sl.fr ++ List.replicate (N.length - as.length) .un
theorem rep_start {K : PySem.W.Frag} {G : Gx} {H : Hp} {O : Addr -> Bool} {as : List PV} {vs : List V} {N : List Str} (hd : ∀ a, O a = true -> H a ≠ none) (h : AtL K G (mn H O) as vs) : Rep K G ⟨H, O⟩ (L2.start N vs) H (startR N as) O := by
  have hl := h.length
  refine ⟨Same.refl H, hd, fun _ z => z, hd, fun _ z => .inl z, fun i p e => ?_, fun i p e => ?_, fun i j p q a e => ?_, by unfold L2.start startR; simp [hl], fun i xs ys e => ?_⟩
  . unfold startR at e
    by_cases c : i < as.length
    . rw [List.getElem?_append_left (by rw [List.length_map]; exact c), List.getElem?_map] at e
      cases e' : as[i]? with
      | none => rw [e'] at e; cases e
      | some p' =>
        rw [e'] at e
        cases e
        obtain ⟨v, ev, av⟩ := h.at e'
        refine ⟨v, ?_, av⟩
        unfold L2.start
        rw [List.getElem?_append_left (by rw [List.length_map, <- hl]; exact c), List.getElem?_map, ev]
        rfl
    . rw [List.getElem?_append_right (by rw [List.length_map]; omega), List.getElem?_replicate] at e
      split at e <;> cases e
  . exfalso
    unfold startR at e
    by_cases c : i < as.length
    . rw [List.getElem?_append_left (by rw [List.length_map]; exact c), List.getElem?_map] at e
      cases e' : as[i]? <;> rw [e'] at e <;> cases e
    . rw [List.getElem?_append_right (by rw [List.length_map]; omega), List.getElem?_replicate] at e
      split at e <;> cases e
  . exfalso
    unfold startR at e
    by_cases c : i < as.length
    . rw [List.getElem?_append_left (by rw [List.length_map]; exact c), List.getElem?_map] at e
      cases e' : as[i]? <;> rw [e'] at e <;> cases e
    . rw [List.getElem?_append_right (by rw [List.length_map]; omega), List.getElem?_replicate] at e
      split at e <;> cases e
  . exfalso
    unfold startR at e
    by_cases c : i < as.length
    . rw [List.getElem?_append_left (by rw [List.length_map]; exact c), List.getElem?_map] at e
      cases e' : as[i]? <;> rw [e'] at e <;> cases e
    . rw [List.getElem?_append_right (by rw [List.length_map]; omega), List.getElem?_replicate] at e
      split at e <;> cases e
section
variable {P : Program} {w : World} {K : PySem.W.Frag} {mg : Str -> Option Value} {base : Heap} {G : Gx}
theorem okF {x : Str} {st : Stmt} {N ps : List Str} {k : Nat} {pre : List PV -> Prop} {F : List PV -> PV} (d : Def K mg x st ps) (S : FnScope N ps (defScope st)) (len : ∀ as, pre as -> as.length = ps.length)
    (hbody : ∀ (f : Addr) (cdv : Value) (A : Around) (outer : List Env) (s : Shared) (H : Hp) (E : XK), Room k (A.deeper (envOfC x (defScope st) s.heap.objs.size f cdv)) ->
      ∃ fs, PSs (cxOf CX0 P w K mg base N x (defScope st) f cdv A outer s H E).nox (defBody st) (ts K G ER0 fs) /\ ∀ as, pre as -> fs { nx := fun _ => F as = .non, rt := fun p => p = F as, rl := fun ns => F as = .ints ns } (startR N as)) : Ok P w K mg base (k + 1) x ps (spF K G pre F) := by
  refine Def.ok d S (fun vs H Q E h => ?_) fun f cdv A outer s H vs Q E hr h => ?_
  . obtain ⟨as, O, _, al, hp, _⟩ := h
    rw [<- al.length]; exact len as hp
  obtain ⟨as, O, hd, al, hp, q⟩ := h
  obtain ⟨fs, b, c⟩ := hbody f cdv A outer s H E hr
  refine ⟨_, b, ⟨H, O⟩, startR N as, _, ⟨O, rep_start hd al⟩, c as hp, ⟨fun σ' H' Z' R' h => ?_, fun v H' p s' a' h => ?_, fun a H' ns s' n e h => ?_, fun _ _ _ _ _ h => h.elim, fun _ _ _ _ h => h, fun _ _ _ _ h => h, fun _ _ _ h => h⟩⟩
  . obtain ⟨O', R'⟩ := R'
    exact q .non H' R'.same (by rw [show F as = .non from h]; rfl)
  . have h : p = F as := h
    subst h
    exact q v H' s' a'
  . have h : F as = .ints ns := h
    refine q _ H' s' ?_
    rw [h]
    exact ⟨a, rfl, .inl (by
      rw [mn_of]
      . exact e
      . cases z : O a with
        | false => rfl
        | true => exact absurd n (hd a z))⟩
theorem okL {x : Str} {st : Stmt} {N ps : List Str} {k : Nat} {pre : List PV -> Prop} {F : List PV -> List Int} (d : Def K mg x st ps) (S : FnScope N ps (defScope st)) (len : ∀ as, pre as -> as.length = ps.length)
    (hbody : ∀ (f : Addr) (cdv : Value) (A : Around) (outer : List Env) (s : Shared) (H : Hp) (E : XK), Room k (A.deeper (envOfC x (defScope st) s.heap.objs.size f cdv)) ->
      ∃ fs, PSs (cxOf CX0 P w K mg base N x (defScope st) f cdv A outer s H E).nox (defBody st) (ts K G ER0 fs) /\ ∀ as, pre as -> fs { nx := fun _ => False, rt := fun _ => False, rl := fun ns => ns = F as } (startR N as)) : Ok P w K mg base (k + 1) x ps (spL K G pre F) := by
  refine Def.ok d S (fun vs H Q E h => ?_) fun f cdv A outer s H vs Q E hr h => ?_
  . obtain ⟨as, O, _, al, hp, _⟩ := h
    rw [<- al.length]; exact len as hp
  obtain ⟨as, O, hd, al, hp, q⟩ := h
  obtain ⟨fs, b, c⟩ := hbody f cdv A outer s H E hr
  refine ⟨_, b, ⟨H, O⟩, startR N as, _, ⟨O, rep_start hd al⟩, c as hp, ⟨fun _ _ _ _ h => h.elim, fun _ _ _ _ _ h => h.elim, fun a H' ns s' n e h => ?_, fun _ _ _ _ _ h => h.elim, fun _ _ _ _ h => h, fun _ _ _ _ h => h, fun _ _ _ h => h⟩⟩
  have h : ns = F as := h
  subst h
  exact q a H' s' n e
end
def spM (pre : List Int -> Prop) (F : List Int -> List Int) : Sp := fun vs H Q _ => ∃ a ns, vs = [.ref a] /\ H a = some (.lst (ns.map V.int)) /\ pre ns /\ ∀ H', (∀ b o, b ≠ a -> H b = some o -> H' b = some o) -> H' a = some (.lst ((F ns).map V.int)) -> Q .non H'
theorem upd_le {H H' : Hp} {a : Addr} {o : HO} (h : ∀ b o, b ≠ a -> H b = some o -> H' b = some o) (e : H' a = some o) : Same (upd H a o) H' := fun b u z => by
  by_cases c : b = a
  . subst c; rw [upd_same] at z; cases z; exact e
  . rw [upd_ne c] at z; exact h b u c z
section
variable {X : Cx} {G : Gx} {Er : ER} {e b : Expr} {pos px pa pc : Pos} {i j k : Nat} {x y : Str} {C Cb : En -> Prop} {g gb : En -> Int}
theorem xst_pop (i : Nat) {x : Str} (hN : X.N[i]? = some x := by rfl) (hv : Vis X.env.scope x := by first | exact Or.inl rfl | exact Or.inr (Or.inl rfl) | exact Or.inr (Or.inr rfl))
    (hd : (x == ("__debug__" : Str)) = false := by decide) (hcd : (x == ("__classdict__" : Str)) = false := by decide)
    (hbase : attributeBase (.Name x px) "pop" X.env (eval (.Name x px) X.env) = eval (.Name x px) X.env := by rfl) (hline : (pa.endLine == pc.line) = true := by rfl)
    (hsw : swapsWith (.Call (.Attribute (.Name x px) "pop" pa) [] [] pc) none pos.line X.env = pure false := by rfl) :
    PS X (.Expr (.Call (.Attribute (.Name x px) "pop" pa) [] [] pc) pos) (ts X.K G Er fun P Z => isO Z i /\ getL Z i ≠ [] /\ P.nx (Z.set i (.ow (.ints (getL Z i).dropLast)))) :=
  toS (ps_expr (pe_bm0 PySem.F.plainAttrs_list PySem.F.slot_list_pop PySem.F.type_list_pop mt_pop (pe_var hN hv hd hcd) hbase hline) hsw) fun B σ H Z O P D R c w => by
    obtain ⟨c0, c1, c3⟩ := c
    obtain ⟨a, vs, e1, e2, e3, e4, e5⟩ := R.ow i _ c0
    have e5 : vs = (getL Z i).map V.int := e5
    subst e5
    have hl : 0 < (getL Z i).length := lP c1
    refine ⟨_, e1, .inl ⟨rfl, _, SqL.of e4⟩, a, _, V.int ((getL Z i)[(getL Z i).length - 1]'(by omega)), rfl, rfl, e4, ?_, w.nx σ _ _ ⟨O, R.change c0 e1 (p' := .ints (getL Z i).dropLast) ?_⟩ c3⟩
    . rw [List.length_map, List.getElem?_map, List.getElem?_eq_getElem (by omega)]
      rfl
    . show _ = (getL Z i).dropLast.map V.int
      rw [List.map_dropLast]
theorem xst_setit (i : Nat) {x : Str} {ps : Pos} (hk : PE X b (tXI X.K G Cb gb)) (he : PE X e (tXI X.K G C g)) (hN : X.N[i]? = some x := by rfl) (hv : Vis X.env.scope x := by first | exact Or.inl rfl | exact Or.inr (Or.inl rfl) | exact Or.inr (Or.inr rfl))
    (hd : (x == ("__debug__" : Str)) = false := by decide) (hcd : (x == ("__classdict__" : Str)) = false := by decide)
    (ha : ∀ v, assign (.Subscript (.Name x px) b ps) X.env v = (do
      let ov <- holding [v] (eval (.Name x px) X.env)
      let iv <- holding [v, ov] (eval b X.env)
      standAt ps
      holding [v, ov, iv] (setItem ov iv v)
      release [v, ov, iv] []) := by intro _; rfl)
    (hs : swapsWithSole [.Subscript (.Name x px) b ps] e pos.line X.env = pure false := by rfl) (hw : swappedStores [.Subscript (.Name x px) b ps] e X.env = pure none := by rfl)
    (h1 : (assignEach [.Subscript (.Name x px) b ps] X.env).map (·.2) = [assign (.Subscript (.Name x px) b ps) X.env] := by rfl) :
    PS X (.Assign [.Subscript (.Name x px) b ps] e pos) (ts X.K G Er fun P Z => C Z /\ isO Z i /\ Cb Z /\ (-((getL Z i).length : Int) <= gb Z /\ gb Z < ((getL Z i).length : Int)) /\ P.nx (Z.set i (.ow (.ints ((getL Z i).set (ixO (getL Z i).length (gb Z)) (g Z)))))) :=
  toS (ps_asg he (pg_sub (pe_var hN hv hd hcd) hk set_list ha) hs hw h1) fun B σ H Z O P D R c w => by
    obtain ⟨c1, c0, c2, cb, c3⟩ := c
    refine ⟨B, Z, O, R, c1, fun v H1 s1 a1 => ?_⟩
    have a1 : v = .int (g Z) := a1
    subst a1
    have R1 := R.grow s1
    obtain ⟨a, vs, e1, e2, e3, e4, e5⟩ := R1.ow i _ c0
    have e5 : vs = (getL Z i).map V.int := e5
    subst e5
    refine ⟨_, e1, B, Z, O, R1, c2, fun u H2 s2 a2 => ?_⟩
    have a2 : u = .int (gb Z) := a2
    subst a2
    refine ⟨a, _, _, _, rfl, rfl, s2 _ _ e4, by rw [List.length_map]; exact ixN_ok cb.1 cb.2, w.nx σ _ _ ⟨O, (R1.grow s2).change c0 e1 (p' := .ints _) ?_⟩ c3⟩
    show _ = ((getL Z i).set _ _).map V.int
    rw [List.map_set]
theorem xst_mut (i : Nat) {x y : Str} {ps : List Str} {pre : List Int -> Prop} {F : List Int -> List Int} (o : Ok X.prog X.w X.K X.mg X.base j y ps (spM pre F)) (hr : Room k X.A) (hj : j <= k := by decide) (hg : Gl X y := by rfl)
    (hN : X.N[i]? = some x := by rfl) (hv : Vis X.env.scope x := by first | exact Or.inl rfl | exact Or.inr (Or.inl rfl) | exact Or.inr (Or.inr rfl)) (hd : (x == ("__debug__" : Str)) = false := by decide) (hcd : (x == ("__classdict__" : Str)) = false := by decide)
    (hdb : (y == ("__debug__" : Str)) = false := by decide) (he : starEach (.Name x px :: []) X.env = (false, eval (.Name x px) X.env) :: starEach [] X.env := by rfl) (hpl : (backTo pc (starEach [] X.env)).any (·.1) = false := by rfl)
    (hsw : swapsWith (.Call (.Name y pa) [.Name x px] [] pc) none pos.line X.env = pure false := by rfl) :
    PS X (.Expr (.Call (.Name y pa) [.Name x px] [] pc) pos) (ts X.K G Er fun P Z => isO Z i /\ pre (getL Z i) /\ P.nx (Z.set i (.ow (.ints (F (getL Z i)))))) :=
  toS (ps_expr (pe_callO o hr (pa_cons (pe_var hN hv hd hcd) pa_nil he) hj hg hdb he hpl) hsw) fun B σ H Z O P D R c w => by
    obtain ⟨c0, c1, c3⟩ := c
    obtain ⟨a, vs, e1, e2, e3, e4, e5⟩ := R.ow i _ c0
    have e5 : vs = (getL Z i).map V.int := e5
    subst e5
    exact ⟨_, e1, a, _, rfl, e4, c1, fun H' k1 k2 => w.nx σ H' _ ⟨O, (R.change c0 e1 (p' := .ints _) rfl).grow (upd_le k1 k2)⟩ c3⟩
end
def capR (cap : List (Option Nat)) (Z : En) : En := cap.map fun o => match o with
  | some i => (match Z[i]? with
    | some (.fr p) => .fr p
    | _ => .un)
  | none => .un
section
variable {K : PySem.W.Frag} {G : Gx} {B : Bs} {σ : L2.St} {H H1 : Hp} {Z : En} {O : Addr -> Bool} {D : Addr} {cap : List (Option Nat)}
theorem rep_block (R : Rep K G B σ H1 Z O) (hD : H1 D = none) (s : Same H1 H) (hn : H D ≠ none) : Rep K G ⟨H1, O⟩ (capS cap σ) H (capR cap Z) (hide D O) := by
  refine ⟨s, R.dom, hide_le, fun a z y => ?_, fun a z => ?_, fun j p e => ?_, fun j p e => ?_, fun i j p q a e => ?_, by unfold capS capR; rw [List.length_map, List.length_map], fun j xs ys e => ?_⟩
  . by_cases c : a = D
    . subst c; exact hn y
    . rw [hide_ne c] at z; exact R.dom a z (s.free y)
  . by_cases c : a = D
    . subst c; exact .inr hD
    . rw [hide_ne c] at z; exact .inl z
  . unfold capR at e
    rw [List.getElem?_map] at e
    cases ec : cap[j]? with
    | none => rw [ec] at e; cases e
    | some o =>
      rw [ec] at e
      cases o with
      | none => cases e
      | some i =>
        have e := Option.some.inj e
        dsimp only at e
        split at e
        . rename_i p' er
          cases e
          obtain ⟨v, e1, e2⟩ := R.fr i p er
          refine ⟨v, ?_, At.mono (mn_hide s hD) _ _ e2⟩
          unfold capS
          rw [List.getElem?_map, ec]
          show some ((σ[i]?).join) = some (some v)
          rw [e1]
          rfl
        . cases e
  . exfalso
    unfold capR at e
    rw [List.getElem?_map] at e
    cases ec : cap[j]? with
    | none => rw [ec] at e; cases e
    | some o =>
      rw [ec] at e
      cases o with
      | none => cases e
      | some i =>
        have e := Option.some.inj e
        dsimp only at e
        split at e <;> cases e
  . exfalso
    unfold capR at e
    rw [List.getElem?_map] at e
    cases ec : cap[i]? with
    | none => rw [ec] at e; cases e
    | some o =>
      rw [ec] at e
      cases o with
      | none => cases e
      | some i =>
        have e := Option.some.inj e
        dsimp only at e
        split at e <;> cases e
  . exfalso
    unfold capR at e
    rw [List.getElem?_map] at e
    cases ec : cap[j]? with
    | none => rw [ec] at e; cases e
    | some o =>
      rw [ec] at e
      cases o with
      | none => cases e
      | some i =>
        have e := Option.some.inj e
        dsimp only at e
        split at e <;> cases e
theorem ext_refl : ∀ σ : L2.St, ExtS σ σ
  | [] => tT
  | none :: r => ext_refl r
  | some _ :: r => ⟨rfl, ext_refl r⟩
variable {α : Type} {J : It} {g : TG} {C : En -> Prop} {gb : En -> PV} {Q : VK}
theorem lc_main (items : List α) (setσ : α -> V -> L2.St) (setr : α -> En) (val : α -> V) (R : Rep K G B σ H1 Z O) (hD : H1 D = none) (hlen : items.length <= 1000) (hgo : ∀ i H, i < items.length -> Same H1 H -> J.go i H)
    (hyld : ∀ i it x H H', items[i]? = some it -> Same H1 H -> J.yld i H x H' -> Same H H' /\ ∀ k : L2.St -> Hp -> Prop, k (setσ it (val it)) H' -> g x (capS cap σ) H' k) (hstop : ∀ H, Same H1 H -> J.stop items.length H)
    (hset : ∀ it H, it ∈ items -> Same H1 H -> Rep K G ⟨H1, O⟩ (capS cap σ) H (capR cap Z) (hide D O) -> Rep K G ⟨H1, O⟩ (setσ it (val it)) H (setr it) (hide D O)) (hext : ∀ it, ExtS (capS cap σ) (setσ it (val it))) (hC : ∀ it ∈ items, C (setr it))
    (hQ : ∀ H' ys, Same H1 H' -> H' D = some (.lst ys) -> AtL K G (mn H' (hide D O)) (items.map fun it => gb (setr it)) ys -> Q (.ref D) H') :
    ∃ W : Nat -> Nat -> List V -> Hp -> Prop, (∃ m, W 0 m [] (upd H1 D (.lst []))) /\ lcW D J (capS cap σ) g noTest (tX K G C gb) Q W := by
  refine ⟨fun i m ys H => m = items.length - i /\ i <= items.length /\ Same H1 H /\ H D = some (.lst ys) /\ AtL K G (mn H (hide D O)) ((items.take i).map fun it => gb (setr it)) ys, ⟨items.length, by simp, Nat.zero_le _, same_new hD _, upd_same, rfl⟩, ?_⟩
  rintro i m ys H ⟨rfl, hi, hs, hd, al⟩
  have hl : ys.length = i := by rw [<- al.length, List.length_map, List.length_take]; omega
  refine ⟨hd, small1000 (by omega), ?_⟩
  by_cases hlt : i < items.length
  . refine .inr ⟨hgo i H hlt hs, ?_⟩
    intro x H' hy
    have en : items[i]? = some items[i] := List.getElem?_eq_getElem hlt
    obtain ⟨s1, kk⟩ := hyld i _ x H H' en hs hy
    refine kk _ ⟨hext _, ?_⟩
    refine iteT ?_
    have hd' := s1 _ _ hd
    have R2 := hset items[i] H' (List.getElem_mem hlt) (hs.trans s1) (rep_block R hD (hs.trans s1) (by rw [hd']; exact fun z => by cases z))
    refine ⟨_, _, _, R2, hC _ (List.getElem_mem hlt), fun v H2 s2 a2 => ⟨s2 _ _ hd', items.length - (i + 1), by omega, rfl, hlt, ?_, upd_same, ?_⟩⟩
    . intro b o z
      rw [upd_ne (ne_of_none z hD)]
      exact s2 _ _ (s1 _ _ (hs b o z))
    . rw [mn_upd hide_self, take_at en, List.map_append]
      exact AtL.snoc (AtL.mono (mn_same (s1.trans s2)) _ _ al) a2
  . have e : i = items.length := by omega
    subst e
    refine .inl ⟨hstop H hs, hQ H ys hs hd ?_⟩
    rw [List.take_length] at al
    exact al
theorem atL_ints {gi : α -> Int} : ∀ {l : List α} {ys : List V}, AtL K G H (l.map fun x => .int (gi x)) ys -> ys = (l.map gi).map V.int
  | [], _, h => h
  | x :: r, _, h => by
    obtain ⟨v, t, rfl, e, q⟩ := h
    have e : v = .int (gi x) := e
    rw [e, atL_ints q]
    rfl
end
section
variable {K : PySem.W.Frag} {G : Gx} {σ : L2.St} {H : Hp} {Q : VK} {Cs Cb : En -> Prop} {gs : En -> List Int} {gi : En -> Int} {gp : En -> PV} {cap : List (Option Nat)}
theorem lc_L (h : tXp K G (fun Z => Cs Z /\ (gs Z).length <= 1000 /\ ∀ n ∈ gs Z, Cb ((capR (none :: cap) Z).set 0 (.fr (.int n)))) (fun Z => (gs Z).map fun n => gp ((capR (none :: cap) Z).set 0 (.fr (.int n)))) σ H Q) :
    tLC (none :: cap) (iList K (tXL K G Cs gs)) (gName 0) noTest (tX K G Cb gp) σ H Q := by
  obtain ⟨B, Z, O, R, ⟨c1, c2, c3⟩, q⟩ := h
  refine ⟨B, Z, O, R, c1, fun v H1 s1 a1 => ?_⟩
  obtain ⟨a, rfl, hq⟩ := a1
  have hq1 : SqL K H1 a ((gs Z).map V.int) := .inl (same_rd mn_le hq)
  refine ⟨a, rfl, ⟨_, hq1⟩, fun D hD => ?_⟩
  refine lc_main (gs Z) (fun _ v => (capS (none :: cap) σ).set 0 (some v)) (fun n => (capR (none :: cap) Z).set 0 (.fr (.int n))) V.int (R.grow s1) hD c2 (fun i H hi s => ⟨_, .int (gs Z)[i], s.seq hq1, by simp [hi]⟩) ?_ (fun H s => ⟨_, s.seq hq1, by simp⟩) (fun n H _ s R' => R'.set (p := .int n) rfl) ?_ c3 ?_
  . rintro i n x H H' en s ⟨rfl, hx⟩
    obtain ⟨n', rfl, hn⟩ := int_at (hx _ (s.seq hq1))
    rw [hn] at en
    cases en
    exact ⟨Same.refl _, fun k hk => hk⟩
  . intro n
    show ExtS (none :: capS cap σ) (some (.int n) :: capS cap σ)
    exact ext_refl _
  . intro H' ys s hd al
    exact q D ys H' (s1.trans s) (s1.free hD) hd al
theorem lc_R {gn : En -> Int} (h : tXp K G (fun Z => Cs Z /\ (0 <= gn Z /\ gn Z <= 1000) /\ ∀ k : Nat, k < (gn Z).toNat -> Cb ((capR (none :: cap) Z).set 0 (.fr (.int k)))) (fun Z => (List.range (gn Z).toNat).map fun (k : Nat) => gp ((capR (none :: cap) Z).set 0 (.fr (.int k)))) σ H Q) :
    tLC (none :: cap) (iRng1 (tCons (tXI K G Cs gn) tNil)) (gName 0) noTest (tX K G Cb gp) σ H Q := by
  obtain ⟨B, Z, O, R, ⟨c1, c2, c3⟩, q⟩ := h
  refine ⟨B, Z, O, R, c1, fun v H1 s1 a1 => ?_⟩
  have a1 : v = .int (gn Z) := a1
  subst a1
  have hz : (List.range (gn Z).toNat).length = (gn Z).toNat := List.length_range
  refine ⟨gn Z, rfl, by omega, by omega, fun D hD => ?_⟩
  refine lc_main (List.range (gn Z).toNat) (fun _ v => (capS (none :: cap) σ).set 0 (some v)) (fun (k : Nat) => (capR (none :: cap) Z).set 0 (.fr (.int k))) (fun (k : Nat) => .int k) (R.grow s1) hD (by rw [hz]; omega) (fun i H hi s => by rw [hz] at hi; exact hi) ?_ (fun H s => by rw [hz]; exact Nat.le_refl _) (fun k H _ s R' => R'.set (p := .int k) rfl) ?_ ?_ ?_
  . rintro i k x H H' en s ⟨rfl, rfl⟩
    have hlt : i < (gn Z).toNat := by
      have := (List.getElem?_eq_some_iff.mp en).1
      rw [hz] at this
      exact this
    rw [List.getElem?_range hlt] at en
    cases en
    refine ⟨Same.refl _, fun kk hk => ?_⟩
    have e : (0 : Int) + (i : Nat) = i := by omega
    show kk ((capS (none :: cap) σ).set 0 (some (.int (0 + (i : Nat))))) H'
    rw [e]
    exact hk
  . intro k
    show ExtS (none :: capS cap σ) (some (.int k) :: capS cap σ)
    exact ext_refl _
  . intro k hk
    exact c3 k (List.mem_range.mp hk)
  . intro H' ys s hd al
    exact q D ys H' (s1.trans s) (s1.free hD) hd al
theorem p_of_l {C : En -> Prop} {α : Type} {src : En -> List α} {gi : En -> α -> Int} (h : tXl K G C (fun Z => (src Z).map (gi Z)) σ H Q) : tXp K G C (fun Z => (src Z).map fun x => .int (gi Z x)) σ H Q := by
  obtain ⟨B, Z, O, R, c, q⟩ := h
  refine ⟨B, Z, O, R, c, fun a vs H' s n e al => q a H' s n ?_⟩
  rw [e, atL_ints al]
end
section
variable {X : Cx} {G : Gx} {Er : ER} {N' : List Str} {sc : Scope} {cl : List (Str × Addr)} {cap : List (Option Nat)} {el tg src : Expr} {at' spos px : Pos} {Cs Cb : En -> Prop} {gs : En -> List Int} {gn gi : En -> Int} {gp : En -> PV} {i : Nat} {x : Str}
theorem xl_lcL (L : LcOk X N' sc cl (none :: cap)) (hc : X.calm = true) (hi : PE X src (tXL X.K G Cs gs)) (hg : ∀ s H fp, PG (cxComp X N' sc cl s H fp) tg (gName 0)) (he : ∀ s H fp, PE (cxComp X N' sc cl s H fp) el (tXI X.K G Cb gi)) (hs : ∀ x, foldedSetIterable src X.env x = pure x := by intro _; rfl) :
    PE X (.ListComp el [⟨tg, src, [], 0⟩] sc at') (tXl X.K G (fun Z => Cs Z /\ (gs Z).length <= 1000 /\ ∀ n ∈ gs Z, Cb ((capR (none :: cap) Z).set 0 (.fr (.int n)))) fun Z => (gs Z).map fun n => gi ((capR (none :: cap) Z).set 0 (.fr (.int n)))) :=
  fun pins s σ H Q I h => pe_lc L hc (pi_list hi) hg (fun _ _ _ => pts_nil) he hs pins s σ H Q I (lc_L (p_of_l h))
theorem xl_lcR {p pos' : Pos} (L : LcOk X N' sc cl (none :: cap)) (hc : X.calm = true) (hgl : Gl X "range") (hm : X.mg "range" = none) (hi : PE X src (tXI X.K G Cs gn)) (hg : ∀ s H fp, PG (cxComp X N' sc cl s H fp) tg (gName 0)) (he : ∀ s H fp, PE (cxComp X N' sc cl s H fp) el (tXI X.K G Cb gi))
    (hst : starEach [src] X.env = [(false, eval src X.env)] := by rfl) (hs : ∀ x, foldedSetIterable (.Call (.Name "range" p) [src] [] pos') X.env x = pure x := by intro _; rfl) :
    PE X (.ListComp el [⟨tg, .Call (.Name "range" p) [src] [] pos', [], 0⟩] sc at') (tXl X.K G (fun Z => Cs Z /\ (0 <= gn Z /\ gn Z <= 1000) /\ ∀ k : Nat, k < (gn Z).toNat -> Cb ((capR (none :: cap) Z).set 0 (.fr (.int k)))) fun Z => (List.range (gn Z).toNat).map fun (k : Nat) => gi ((capR (none :: cap) Z).set 0 (.fr (.int k)))) :=
  fun pins s σ H Q I h => pe_lc L hc (pi_range1 hgl hm (pa_cons hi pa_nil hst) hst) hg (fun _ _ _ => pts_nil) he hs pins s σ H Q I (lc_R (p_of_l h))
theorem own_of {t : TE} {st : Stmt} {C : En -> Prop} {g : En -> List Int} (h : PS X st (tAsg t (gName i))) (k : ∀ σ H Q, tXl X.K G C g σ H Q -> t σ H Q) : PS X st (ts X.K G Er fun P Z => C Z /\ ∀ ns, ns = g Z -> P.nx (Z.set i (.ow (.ints ns)))) :=
  toS h fun B σ H Z O P D R c w => k σ H _ ⟨B, Z, O, R, c.1, fun a H1 s1 n1 e1 => w.nx _ H1 _ ⟨hide a O, R.new (p := .ints (g Z)) s1 n1 e1 rfl⟩ (c.2 _ rfl)⟩
theorem xst_lcL (hN : X.N.Nodup) (hi' : X.N[i]? = some x) (hx : X.env.scope.names.lookup x = some .local) (L : LcOk X N' sc cl (none :: cap)) (hc : X.calm = true) (hi : PE X src (tXL X.K G Cs gs)) (hg : ∀ s H fp, PG (cxComp X N' sc cl s H fp) tg (gName 0)) (he : ∀ s H fp, PE (cxComp X N' sc cl s H fp) el (tXI X.K G Cb gi))
    (hsw : swapsWith (.ListComp el [⟨tg, src, [], 0⟩] sc at') (some (.Name x px)) spos.line X.env = pure true) (hs : ∀ x, foldedSetIterable src X.env x = pure x := by intro _; rfl) :
    PS X (.Assign [.Name x px] (.ListComp el [⟨tg, src, [], 0⟩] sc at') spos) (ts X.K G Er fun P Z => (Cs Z /\ (gs Z).length <= 1000 /\ ∀ n ∈ gs Z, Cb ((capR (none :: cap) Z).set 0 (.fr (.int n)))) /\ ∀ ns, ns = ((gs Z).map fun n => gi ((capR (none :: cap) Z).set 0 (.fr (.int n)))) -> P.nx (Z.set i (.ow (.ints ns)))) :=
  own_of (ps_lc hN hi' hx L hc (pi_list hi) hg (fun _ _ _ => pts_nil) he hsw hs) fun σ H Q h => lc_L (p_of_l h)
end
theorem to_lit {k : En -> Prop} {Z Z' : En} (h : Z = Z') (q : k Z') : k Z := by rw [h]; exact q
def tyP : PV -> Option Value
  | .int _ => some (.type "int")
  | .bl _ => some (.type "bool")
  | .non => some (.type "NoneType")
  | .str _ => some (.type "str")
  | .ints _ => some (.type "list")
  | .lst _ => some (.type "list")
  | .tup _ => some (.type "tuple")
  | _ => none
def clsP : PV -> Option Value
  | .ty n => some (.type n)
  | .cls a => some (.ref a)
  | _ => none
theorem At.ty {K : PySem.W.Frag} {G : Gx} {H : Hp} {p : PV} {v : V} {t : Value} (h : At K G H p v) (e : tyP p = some t) : TyOf K H v t := by
  cases p <;> first | cases e | skip
  . cases (show v = _ from h); exact .int _
  . cases (show v = _ from h); exact .bl _
  . cases (show v = _ from h); exact .non
  . cases (show v = _ from h); exact .str _
  . obtain ⟨a, rfl, r | ⟨o, r⟩⟩ := h
    . exact .lst r
    . exact .frz r
  . obtain ⟨a, vs, rfl, r | ⟨o, r⟩, _⟩ := h
    . exact .lst r
    . exact .frz r
  . obtain ⟨a, vs, rfl, r, _⟩ := h
    exact .tup r
theorem At.cls {K : PySem.W.Frag} {G : Gx} {H : Hp} {p : PV} {v : V} {t : Value} (h : At K G H p v) (e : clsP p = some t) : clsV v = some t := by
  cases p <;> first | cases e | skip
  . cases (show v = _ from h); rfl
  . cases (show v = _ from h); rfl
def instP (K : PySem.W.Frag) (p c : PV) : Bool := match tyP p, clsP c with
  | some t, some cv => PySem.W.kitOne K t cv == some true
  | _, _ => false
def instOk (K : PySem.W.Frag) (p c : PV) : Prop := ∃ t cv b, tyP p = some t /\ clsP c = some cv /\ PySem.W.kitOne K t cv = some b
theorem instP_of {K : PySem.W.Frag} {p c : PV} {t cv : Value} {b : Bool} (h1 : tyP p = some t) (h2 : clsP c = some cv) (h : PySem.W.kitOne K t cv = some b) : instP K p c = b := by
  unfold instP
  rw [h1, h2]
  show (PySem.W.kitOne K t cv == some true) = b
  rw [h]
  cases b <;> rfl
theorem TyOf.up {K : PySem.W.Frag} {H H' : Hp} {v : V} {t : Value} (s : Same H H') (h : TyOf K H v t) : TyOf K H' v t := by
  cases h with
  | non => exact .non
  | bl x => exact .bl x
  | int x => exact .int x
  | str x => exact .str x
  | flt x => exact .flt x
  | lst e => exact .lst (s _ _ e)
  | frz e => exact .frz (s _ _ e)
  | tup e => exact .tup (s _ _ e)
  | dK e => exact .dK (s _ _ e)
  | dT e => exact .dT (s _ _ e)
  | ins e a b c d f => exact .ins (s _ _ e) a b c d f
section
variable {X : Cx} {G : Gx} {a b c e : Expr} {es : List Expr} {pos p px apos : Pos} {C Ca Cb Cc : En -> Prop} {ga gc : En -> PV} {gi gj : En -> Int} {i j k n : Nat} {x m : Str}
theorem xe_isinst (hm : X.mg "isinstance" = none) (ha : PE X a (tX X.K G Ca ga)) (hc : PE X c (tX X.K G Cc gc)) (hg : Gl X "isinstance" := by rfl) (he : starEach [a, c] X.env = (false, eval a X.env) :: starEach [c] X.env := by rfl) (he2 : starEach [c] X.env = [(false, eval c X.env)] := by rfl) (hpl : (backTo pos (starEach [c] X.env)).any (·.1) = false := by rfl) :
    PE X (.Call (.Name "isinstance" p) [a, c] [] pos) (tXB X.K G (fun Z => Ca Z /\ Cc Z /\ instOk X.K (ga Z) (gc Z)) fun Z => instP X.K (ga Z) (gc Z) = true) :=
  toX (pe_callB call_isinst hg hm bt_isinstance (pa_cons ha (pa_cons hc pa_nil he2) he) (by decide) (by decide) he hpl) fun B σ H Z O Q R cc q => ⟨B, Z, O, R, cc.1, fun v H1 s1 a1 => ⟨B, Z, O, R.grow s1, cc.2.1, fun u H2 s2 a2 => by
    obtain ⟨t, cv, b, e1, e2, e3⟩ := cc.2.2
    refine ⟨v, u, t, cv, b, rfl, a2.cls e2, TyOf.up (mn_le.trans s2) (a1.ty e1), e3, q _ H2 (s1.trans s2) ?_⟩
    have z : instP X.K (ga Z) (gc Z) = b := instP_of e1 e2 e3
    show V.bl b = V.bl (decide (instP X.K (ga Z) (gc Z) = true))
    rw [z, Bool.decide_eq_true]⟩⟩
theorem xn_abs (hm : X.mg "abs" = none) (ha : PE X a (tXI X.K G Ca gi)) (hg : Gl X "abs" := by rfl) (he : starEach [a] X.env = [(false, eval a X.env)] := by rfl) : PE X (.Call (.Name "abs" p) [a] [] pos) (tXI X.K G Ca fun Z => if gi Z < 0 then -gi Z else gi Z) :=
  toX (pe_callB call_abs hg hm bt_abs (pa_cons ha pa_nil he) (by decide) (by decide) he rfl) fun B σ H Z O Q R c q => ⟨B, Z, O, R, c, fun v H1 s1 a1 => by
    have a1 : v = .int (gi Z) := a1
    subst a1
    exact ⟨_, rfl, q _ H1 s1 rfl⟩⟩
theorem xn_max (hcm : X.calm = true) (hm : X.mg "max" = none) (ha : PE X a (tXI X.K G Ca gi)) (hb : PE X b (tXI X.K G Cb gj)) (hg : Gl X "max" := by rfl) (he : starEach [a, b] X.env = (false, eval a X.env) :: starEach [b] X.env := by rfl) (he2 : starEach [b] X.env = [(false, eval b X.env)] := by rfl) (hpl : (backTo pos (starEach [b] X.env)).any (·.1) = false := by rfl) :
    PE X (.Call (.Name "max" p) [a, b] [] pos) (tXI X.K G (fun Z => Ca Z /\ Cb Z) fun Z => if gj Z > gi Z then gj Z else gi Z) :=
  toX (pe_callB (call_max2 hcm) hg hm bt_max (pa_cons ha (pa_cons hb pa_nil he2) he) (by decide) (by decide) he hpl) fun B σ H Z O Q R c q => ⟨B, Z, O, R, c.1, fun v H1 s1 a1 => ⟨B, Z, O, R.grow s1, c.2, fun u H2 s2 a2 => by
    have a1 : v = .int (gi Z) := a1
    have a2 : u = .int (gj Z) := a2
    subst a1 a2
    exact ⟨_, _, rfl, q _ H2 (s1.trans s2) rfl⟩⟩⟩
theorem xn_min (hcm : X.calm = true) (hm : X.mg "min" = none) (ha : PE X a (tXI X.K G Ca gi)) (hb : PE X b (tXI X.K G Cb gj)) (hg : Gl X "min" := by rfl) (he : starEach [a, b] X.env = (false, eval a X.env) :: starEach [b] X.env := by rfl) (he2 : starEach [b] X.env = [(false, eval b X.env)] := by rfl) (hpl : (backTo pos (starEach [b] X.env)).any (·.1) = false := by rfl) :
    PE X (.Call (.Name "min" p) [a, b] [] pos) (tXI X.K G (fun Z => Ca Z /\ Cb Z) fun Z => if gj Z < gi Z then gj Z else gi Z) :=
  toX (pe_callB (call_min2 hcm) hg hm bt_min (pa_cons ha (pa_cons hb pa_nil he2) he) (by decide) (by decide) he hpl) fun B σ H Z O Q R c q => ⟨B, Z, O, R, c.1, fun v H1 s1 a1 => ⟨B, Z, O, R.grow s1, c.2, fun u H2 s2 a2 => by
    have a1 : v = .int (gi Z) := a1
    have a2 : u = .int (gj Z) := a2
    subst a1 a2
    exact ⟨_, _, rfl, q _ H2 (s1.trans s2) rfl⟩⟩⟩
abbrev spFI (K : PySem.W.Frag) (G : Gx) (pre : List PV -> Prop) (F : List PV -> Int) : Sp := spF K G pre fun as => .int (F as)
abbrev spFB (K : PySem.W.Frag) (G : Gx) (pre : List PV -> Prop) (F : List PV -> Bool) : Sp := spF K G pre fun as => .bl (F as)
abbrev spFL (K : PySem.W.Frag) (G : Gx) (pre : List PV -> Prop) (F : List PV -> List Int) : Sp := spF K G pre fun as => .ints (F as)
variable {ps : List Str} {pre : List PV -> Prop} {gs : En -> List PV}
theorem xcL {F : List PV -> List Int} (o : Ok X.prog X.w X.K X.mg X.base j x ps (spFL X.K G pre F)) (hr : Room k X.A) (ha : PA X (e :: es) (tXs X.K G C gs)) (hj : j <= k := by decide) (hg : Gl X x := by rfl) (hdb : (x == ("__debug__" : Str)) = false := by decide)
    (he : starEach (e :: es) X.env = (false, eval e X.env) :: starEach es X.env := by rfl) (hpl : (backTo pos (starEach es X.env)).any (·.1) = false := by rfl) :
    PE X (.Call (.Name x p) (e :: es) [] pos) (tXL X.K G (fun Z => C Z /\ pre (gs Z)) fun Z => F (gs Z)) := xc o hr ha hj hg hdb he hpl
theorem xci {F : List PV -> Int} (o : Ok X.prog X.w X.K X.mg X.base j x ps (spFI X.K G pre F)) (hr : Room k X.A) (ha : PA X (e :: es) (tXs X.K G C gs)) (hj : j <= k := by decide) (hg : Gl X x := by rfl) (hdb : (x == ("__debug__" : Str)) = false := by decide)
    (he : starEach (e :: es) X.env = (false, eval e X.env) :: starEach es X.env := by rfl) (hpl : (backTo pos (starEach es X.env)).any (·.1) = false := by rfl) :
    PE X (.Call (.Name x p) (e :: es) [] pos) (tXI X.K G (fun Z => C Z /\ pre (gs Z)) fun Z => F (gs Z)) := xc o hr ha hj hg hdb he hpl
theorem xcb {F : List PV -> Bool} (o : Ok X.prog X.w X.K X.mg X.base j x ps (spFB X.K G pre F)) (hr : Room k X.A) (ha : PA X (e :: es) (tXs X.K G C gs)) (hj : j <= k := by decide) (hg : Gl X x := by rfl) (hdb : (x == ("__debug__" : Str)) = false := by decide)
    (he : starEach (e :: es) X.env = (false, eval e X.env) :: starEach es X.env := by rfl) (hpl : (backTo pos (starEach es X.env)).any (·.1) = false := by rfl) :
    PE X (.Call (.Name x p) (e :: es) [] pos) (tXB X.K G (fun Z => C Z /\ pre (gs Z)) fun Z => F (gs Z) = true) :=
  toX (xc o hr ha hj hg hdb he hpl) fun B σ H Z O Q R c q => ⟨B, Z, O, R, c, fun v H' s a => q v H' s (by dsimp only; rw [Bool.decide_eq_true]; exact a)⟩
def getZ (Z : En) (i : Nat) : Int := match Z[i]? with
  | some (.fr (.ob 0 z)) => z
  | _ => 0
def isK (Z : En) (i : Nat) : Prop := Z[i]? = some (.fr (.ob 0 (getZ Z i)))
theorem xn_kmeth {KA : Hp -> Addr -> Int -> Prop} {preK : Int -> List Int -> Prop} {F : Int -> List Int -> Int} {pl : Sem Bool} (i : Nat) (M : KM X.prog X.w X.K X.mg X.base j KA m n preK F) (hr : Room k X.A) (ha : PA X (e :: es) (tXs X.K G C gs)) (hn : ∀ Z, (gs Z).length = n := by intro _; rfl) (hG : ∀ H a z, G.ob 0 H a z -> KA H a z := by first | exact fun _ _ _ h => h.2 | exact fun _ _ _ h => h.elim (fun z => z.2) fun z => absurd z.1 (by decide)) (hGm : ∀ {H H' : Hp} {a : Addr} {z : Int}, KA H a z -> Same H H' -> KA H' a z := by first | exact fun h s => KAt.same h s | exact fun h s => h.same s) (hj : j <= k := by decide)
    (hN : X.N[i]? = some x := by rfl) (hv : Vis X.env.scope x := by first | exact Or.inl rfl | exact Or.inr (Or.inl rfl) | exact Or.inr (Or.inr rfl)) (hd : (x == ("__debug__" : Str)) = false := by decide) (hcd : (x == ("__classdict__" : Str)) = false := by decide)
    (hst : starEach (e :: es) X.env = (false, eval e X.env) :: starEach es X.env := by rfl) (hpl : (backTo pos (starEach es X.env)).any (·.1) = false := by rfl)
    (ht : eval (.Call (.Attribute (.Name x px) m apos) (e :: es) [] pos) X.env = (do
      let ov <- eval (.Name x px) X.env
      standAt apos.atName
      let (f, first) <- holding [ov] (getMethod ov m pl)
      callWith pos f first (backTo pos (starEach (e :: es) X.env)) (backToKw pos (keywordEach [] X.env))) := by rfl) :
    PE X (.Call (.Attribute (.Name x px) m apos) (e :: es) [] pos) (tXI X.K G (fun Z => isK Z i /\ C Z /\ areI (gs Z) /\ preK (getZ Z i) (allI (gs Z))) fun Z => F (getZ Z i) (allI (gs Z))) := by
  intro pins s σ H Q I h
  obtain ⟨B, Z, O, R, ⟨c0, c1, c2, c3⟩, q⟩ := h
  obtain ⟨v, e1, a, rfl, ka⟩ := R.fr i _ c0
  have ka1 : KA H a (getZ Z i) := hGm (hG _ _ _ ka) mn_le
  obtain ⟨Cl, dx, fs, ps, f1, f2, M'⟩ := M.ex H a _ ka1
  obtain ⟨f, fd, FF, bb, mm, cc⟩ := M'.ex
  refine pe_meth (pe_var hN hv hd hcd) cc mm (FF.mono hj) hr bb .nil pass0 ha hst hpl ht pins s σ H Q I ⟨_, e1, a, dx, fs, rfl, f1, f2, B, Z, O, R, c1, fun vs H1 s1 a1 => ?_⟩
  have ev := a1.ints c2
  have el : (allI (gs Z)).length = n := by rw [<- hn Z, a1.length, ev, List.length_map]
  exact ⟨allI (gs Z), el, by rw [List.append_nil, ev], hGm ka1 s1, c3, q _ H1 s1 rfl⟩
end
theorem areI_len : ∀ {as : List PV}, areI as -> (allI as).length = as.length
  | [], _ => rfl
  | p :: r, h => by
    cases p <;> first | exact h.elim | skip
    show (allI r).length + 1 = r.length + 1
    rw [areI_len (as := r) h]
section
variable {P : Program} {w : World} {K : PySem.W.Frag} {mg : Str -> Option Value} {base : Heap} {G : Gx} {k n : Nat} {x : Str} {ps : List Str}
def scrI : List PV -> List Int
  | .scr ns :: _ => ns
  | _ => []
def preS (n : Nat) (pre : List Int -> List Int -> Prop) : List PV -> Prop
  | .scr ns :: r => areI r /\ r.length = n /\ pre ns (allI r)
  | _ => False
theorem liftS {pre : List Int -> List Int -> Prop} {F : List Int -> List Int -> Int} (o : Ok P w K mg base k x ps (spS K n pre F)) : Ok P w K mg base k x ps (spFI K G (preS n pre) fun as => F (scrI as) (allI as.tail)) :=
  o.imp fun vs H Q E ⟨as, O, _, al, hp, q⟩ => by
    match as, hp, al, q with
    | .scr ns :: r, ⟨h1, h2, h3⟩, al, q =>
      obtain ⟨v, t, rfl, ⟨a, rfl, hs⟩, al2⟩ := al
      exact ⟨a, ns, allI r, by rw [areI_len h1, h2], by rw [al2.ints h1], mn_le.seq hs, h3, q _ H (Same.refl H) rfl⟩
end
end L3
namespace L3
open PySem PyProof.Rows L2 FM
theorem cutI_len (xs : List Int) (lo hi : Option Int) : (cutI xs lo hi).length <= xs.length := by
  unfold cutI
  rw [List.length_take, List.length_drop]
  omega
end L3
namespace L2
open PySem PySem.Spec PyProof.Rows
end L2
namespace L3
open PySem PySem.Spec PyProof.Rows L2
end L3
namespace FM
open L2
theorem getD_ge {xs : List Int} {n : Nat} (h : xs.length <= n) : xs.getD n 0 = 0 := by rw [gQ, List.getElem?_eq_none h]; rfl
theorem getD_lt {xs : List Int} {n : Nat} (h : n < xs.length) : xs.getD n 0 = xs[n] := by rw [gQ, List.getElem?_eq_getElem h]; rfl
theorem getD_mem {xs : List Int} {n : Nat} (h : n < xs.length) : xs.getD n 0 ∈ xs := by rw [getD_lt h]; exact List.getElem_mem h
theorem getD_map (f : Int -> Int) (h0 : f 0 = 0) (xs : List Int) (n : Nat) : (xs.map f).getD n 0 = f (xs.getD n 0) := by
  by_cases h : n < xs.length
  . rw [getD_lt (by rw [List.length_map]; exact h), List.getElem_map, getD_lt h]
  . rw [getD_ge (by rw [List.length_map]; omega), getD_ge (by omega), h0]
theorem pl_0 (z : Int) : pl z 0 = 0 := by
  unfold pl
  split
  . rfl
  . exact Int.zero_emod z
theorem snoc_get (xs : List Int) (x : Int) (n : Nat) : (xs ++ [x]).getD n 0 = if n = xs.length then x else xs.getD n 0 := by
  by_cases h : n < xs.length
  . rw [getD_lt (by rw [List.length_append]; omega), List.getElem_append_left h, if_neg (by omega), getD_lt h]
  . by_cases h2 : n = xs.length
    . subst h2
      rw [if_pos rfl, getD_lt (by rw [List.length_append, List.length_singleton]; omega), List.getElem_append_right (Nat.le_refl _)]
      simp
    . rw [if_neg h2, getD_ge (by rw [List.length_append, List.length_singleton]; omega), getD_ge (by omega)]
theorem snoc_or (xs : List Int) : xs = [] \/ ∃ ys x, xs = ys ++ [x] := by
  by_cases h : xs = []
  . exact .inl h
  . exact .inr ⟨_, _, (List.dropLast_concat_getLast h).symm⟩
theorem trimZ_get : ∀ (k : Nat) (xs : List Int), xs.length = k -> ∀ n, (trimZ xs).getD n 0 = xs.getD n 0
  | 0, xs, h, n => by
    have : xs = [] := List.length_eq_zero_iff.mp h
    subst this
    rfl
  | k + 1, xs, h, n => by
    rcases snoc_or xs with rfl | ⟨ys, x, rfl⟩
    . rfl
    . by_cases hx : x = 0
      . subst hx
        have hl : ys.length = k := by rw [List.length_append, List.length_singleton] at h; omega
        rw [trimZ_zero, trimZ_get k ys hl n, snoc_get]
        by_cases h2 : n = ys.length
        . rw [if_pos h2, getD_ge (by omega)]
        . rw [if_neg h2]
      . rw [trimZ_ne _ hx]
theorem trim_get (xs : List Int) (n : Nat) : (trimZ xs).getD n 0 = xs.getD n 0 := trimZ_get _ xs rfl n
def InForm (xs : List Int) : Prop := xs ≠ [] -> xs.getD (xs.length - 1) 0 ≠ 0
theorem trimZ_form : ∀ (k : Nat) (xs : List Int), xs.length = k -> InForm (trimZ xs)
  | 0, xs, h => by
    have : xs = [] := List.length_eq_zero_iff.mp h
    subst this
    intro h; exact absurd rfl h
  | k + 1, xs, h => by
    rcases snoc_or xs with rfl | ⟨ys, x, rfl⟩
    . intro h; exact absurd rfl h
    . by_cases hx : x = 0
      . subst hx
        rw [trimZ_zero]
        exact trimZ_form k ys (by rw [List.length_append, List.length_singleton] at h; omega)
      . rw [trimZ_ne _ hx]
        intro _
        rw [snoc_get, if_pos (by rw [List.length_append, List.length_singleton]; omega)]
        exact hx
theorem trim_form (xs : List Int) : InForm (trimZ xs) := trimZ_form _ xs rfl
theorem form_ext {a b : List Int} (ha : InForm a) (hb : InForm b) (h : ∀ n, a.getD n 0 = b.getD n 0) : a = b := by
  have le : ∀ {a b : List Int}, InForm a -> (∀ n, a.getD n 0 = b.getD n 0) -> a.length <= b.length := fun {a b} ha h => by
    by_cases c : a.length <= b.length
    . exact c
    . have hne : a ≠ [] := fun z => by subst z; exact c (Nat.zero_le _)
      exact absurd (by rw [h, getD_ge (by omega)]) (ha hne)
  have hl : a.length = b.length := Nat.le_antisymm (le ha h) (le hb fun n => (h n).symm)
  refine List.ext_getElem hl fun i h1 h2 => ?_
  have := h i
  rw [getD_lt h1, getD_lt h2] at this
  exact this
theorem trim_ext {a b : List Int} (h : ∀ n, a.getD n 0 = b.getD n 0) : trimZ a = trimZ b :=
  form_ext (trim_form a) (trim_form b) fun n => by rw [trim_get, trim_get, h]
def Tz (z : Int) (f : List Int) : List Int := trimZ (f.map (pl z))
theorem mem_getD {xs : List Int} {m : Int} (h : m ∈ xs) : ∃ n, n < xs.length /\ xs.getD n 0 = m := by
  obtain ⟨n, h1, h2⟩ := List.getElem_of_mem h
  exact ⟨n, h1, by rw [getD_lt h1, h2]⟩
def sm : Nat -> (Nat -> Int) -> Int
  | 0, _ => 0
  | n + 1, f => sm n f + f n
theorem sm_congr {f g : Nat -> Int} : ∀ {n : Nat}, (∀ i, i < n -> f i = g i) -> sm n f = sm n g
  | 0, _ => rfl
  | n + 1, h => by
    show sm n f + f n = sm n g + g n
    rw [sm_congr fun i hi => h i (by omega), h n (by omega)]
theorem sm_zero {f : Nat -> Int} : ∀ {n : Nat}, (∀ i, i < n -> f i = 0) -> sm n f = 0
  | 0, _ => rfl
  | n + 1, h => by
    show sm n f + f n = 0
    rw [sm_zero fun i hi => h i (by omega), h n (by omega)]
    rfl
theorem sm_more {f : Nat -> Int} {n : Nat} : ∀ {m : Nat}, n <= m -> (∀ i, n <= i -> i < m -> f i = 0) -> sm m f = sm n f
  | 0, h, _ => by
    have : n = 0 := by omega
    subst this; rfl
  | m + 1, h, z => by
    by_cases c : n = m + 1
    . subst c; rfl
    . show sm m f + f m = sm n f
      rw [z m (by omega) (by omega), Int.add_zero]
      exact sm_more (by omega) fun i h1 h2 => z i h1 (by omega)
theorem sm_head (f : Nat -> Int) : ∀ n, sm (n + 1) f = f 0 + sm n fun i => f (i + 1)
  | 0 => by show 0 + f 0 = f 0 + 0; omega
  | n + 1 => by
    show sm (n + 1) f + f (n + 1) = f 0 + (sm n (fun i => f (i + 1)) + f (n + 1))
    rw [sm_head f n]
    omega
theorem sm_rev (f : Nat -> Int) : ∀ n, sm (n + 1) f = sm (n + 1) fun i => f (n - i)
  | 0 => rfl
  | n + 1 => by
    rw [sm_head (fun i => f (n + 1 - i)) (n + 1)]
    show sm (n + 1) f + f (n + 1) = f (n + 1 - 0) + sm (n + 1) fun i => f (n + 1 - (i + 1))
    rw [sm_rev f n, Nat.sub_zero]
    have : sm (n + 1) (fun i => f (n - i)) = sm (n + 1) fun i => f (n + 1 - (i + 1)) := sm_congr fun i _ => by rw [Nat.add_sub_add_right]
    omega
theorem sm_abs {f : Nat -> Int} {M : Nat} : ∀ {n : Nat}, (∀ i, i < n -> (f i).natAbs <= M) -> (sm n f).natAbs <= n * M
  | 0, _ => by simp [sm]
  | n + 1, h => by
    have h1 := sm_abs (n := n) fun i hi => h i (by omega)
    have h2 := h n (by omega)
    have h3 := Int.natAbs_add_le (sm n f) (f n)
    show (sm n f + f n).natAbs <= (n + 1) * M
    rw [Nat.succ_mul]
    omega
def cm (f g : List Int) (n : Nat) : Int := sm (n + 1) fun i => f.getD i 0 * g.getD (n - i) 0
theorem cm_comm (f g : List Int) (n : Nat) : cm f g n = cm g f n := by
  unfold cm
  rw [sm_rev]
  refine sm_congr fun i hi => ?_
  rw [Int.mul_comm, show n - (n - i) = i by omega]
def cpart (f g : List Int) (n i : Nat) : Int := sm i fun j => if j <= n then f.getD j 0 * g.getD (n - j) 0 else 0
theorem cpart_all (f g : List Int) (n : Nat) {i : Nat} (h : f.length <= i) : cpart f g n i = cm f g n := by
  have e : cm f g n = cpart f g n (n + 1) := sm_congr fun j hj => by rw [if_pos (by omega)]
  rw [e]
  unfold cpart
  rcases Nat.le_total i (n + 1) with c | c
  . refine (sm_more c fun j h1 h2 => ?_).symm
    rw [getD_ge (show f.length <= j by omega), Int.zero_mul]
    split <;> rfl
  . refine sm_more c fun j h1 h2 => ?_
    rw [if_neg (by omega)]
theorem cm_abs {f g : List Int} {A B : Nat} (hf : ∀ m ∈ f, m.natAbs <= A) (hg : ∀ m ∈ g, m.natAbs <= B) (n : Nat) : (cm f g n).natAbs <= g.length * (B * A) := by
  rw [cm_comm, <- cpart_all g f n (Nat.le_refl _)]
  refine sm_abs fun i hi => ?_
  split
  . rw [Int.natAbs_mul]
    refine Nat.mul_le_mul (hg _ (getD_mem hi)) ?_
    by_cases c : n - i < f.length
    . exact hf _ (getD_mem c)
    . rw [getD_ge (by omega)]; exact Nat.zero_le _
  . exact Nat.zero_le _
theorem cm_ge {f g : List Int} {n : Nat} (h : f.length + g.length <= n + 1) : cm f g n = 0 := by
  unfold cm
  refine sm_zero fun i hi => ?_
  by_cases c : i < f.length
  . rw [getD_ge (show g.length <= n - i by omega), Int.mul_zero]
  . rw [getD_ge (show f.length <= i by omega), Int.zero_mul]
def convL (f g : List Int) : List Int := (List.range (f.length + g.length)).map (cm f g)
theorem convL_get (f g : List Int) (n : Nat) : (convL f g).getD n 0 = cm f g n := by
  unfold convL
  by_cases h : n < f.length + g.length
  . rw [getD_lt (by rw [List.length_map, List.length_range]; exact h), List.getElem_map, List.getElem_range]
  . rw [getD_ge (by rw [List.length_map, List.length_range]; omega), cm_ge (by omega)]
theorem list_ext {a b : List Int} (hl : a.length = b.length) (h : ∀ n, a.getD n 0 = b.getD n 0) : a = b := by
  refine List.ext_getElem hl fun i h1 h2 => ?_
  have := h i
  rw [getD_lt h1, getD_lt h2] at this
  exact this
theorem set_get (row : List Int) (j : Nat) (x : Int) (n : Nat) (h : j < row.length) : (row.set j x).getD n 0 = if n = j then x else row.getD n 0 := by
  by_cases c : n = j
  . subst c
    rw [if_pos rfl, getD_lt (by rw [List.length_set]; exact h), List.getElem_set_self]
  . rw [if_neg c, gQ, List.getElem?_set_ne (by omega), <- gQ]
end FM
namespace L3
open PySem PySem.Spec PyProof.Rows L2
theorem mn_no (H : Hp) : mn H (fun _ => false) = H := by funext b; exact mn_of rfl
def tXr (K : PySem.W.Frag) (G : Gx) (C : En -> Prop) (g : En -> PV) : TE := fun σ H Q => ∃ B Z O, Rep K G B σ H Z O /\ C Z /\ ∀ v H', Same H H' -> At K G H' (g Z) v -> Q v H'
def tXrs (K : PySem.W.Frag) (G : Gx) (C : En -> Prop) (g : En -> List PV) : TA := fun σ H Q => ∃ B Z O, Rep K G B σ H Z O /\ C Z /\ ∀ vs H', Same H H' -> AtL K G H' (g Z) vs -> Q vs H'
section
variable {X : Cx} {G : Gx} {Er : ER} {a b c e : Expr} {es : List Expr} {pos p px ps pa pc : Pos} {C Ca Cb : En -> Prop} {g : En -> PV} {gs : En -> List PV} {gi : En -> Int} {i j k : Nat} {x : Str} {pl : List Str} {pre : List PV -> Prop}
theorem rdX (h : PE X e (tX X.K G C g)) : PE X e (tXr X.K G C g) := fun pins s σ H Q I ⟨B, Z, O, R, c, q⟩ => h pins s σ H Q I ⟨B, Z, O, R, c, fun v H' s a => q v H' s (At.mono mn_le _ _ a)⟩
theorem ra_nil : PA X [] (tXrs X.K G (fun _ => True) fun _ => []) := fun pos pins s σ H Q I ⟨_, _, _, _, _, q⟩ => pa_nil pos pins s σ H Q I (q [] H (Same.refl H) rfl)
theorem ra_cons (ha : PE X e (tXr X.K G Ca g)) (hr : PA X es (tXrs X.K G Cb gs)) (hs : starEach (e :: es) X.env = (false, eval e X.env) :: starEach es X.env := by rfl) : PA X (e :: es) (tXrs X.K G (fun Z => Ca Z /\ Cb Z) fun Z => g Z :: gs Z) :=
  fun pos pins s σ H Q I ⟨B, Z, O, R, c, q⟩ => pa_cons ha hr hs pos pins s σ H Q I ⟨B, Z, O, R, c.1, fun v H1 s1 a1 => ⟨B, Z, O, R.grow s1, c.2, fun vs H2 s2 a2 => q _ H2 (s1.trans s2) ⟨v, vs, rfl, At.mono s2 _ _ a1, a2⟩⟩⟩
end
end L3
namespace L2
open PySem PySem.Spec PyProof.Rows
theorem ints_are : ∀ {ns : List Int} {its : List Value}, Vals (ns.map V.int) its -> IntsAre its ns
  | [], _, h => by cases h; exact .nil
  | n :: r, _, h => by
    cases h with
    | cons a b =>
      obtain ⟨t, rfl⟩ := a
      exact .cons n t (ints_are b)
def rEqL (g : List Int -> List Int -> Bool) : R2 := fun x y H Q => ∃ a b ns ms, x = .ref a /\ y = .ref b /\ Rd H a (.lst (ns.map V.int)) /\ Rd H b (.lst (ms.map V.int)) /\ Q (.bl (g ns ms)) H
section
variable {X : Cx}
theorem op_eqLs (hu : X.A.units + 64 < cLine) : OpR X (compareOp .Eq) (rEqL fun ns ms => decide (ns = ms)) := by
  intro pins s σ H x y v u Q I rx ry h
  obtain ⟨a, b, ns, ms, rfl, rfl, ha, hb, q⟩ := h
  cases rx
  cases ry
  obtain ⟨_, its, n, r, _, e⟩ := L3.Inv.lstR I ha
  obtain ⟨_, its2, n2, r2, _, e2⟩ := L3.Inv.lstR I hb
  exact PySem.W.ke_eq_ints ⟨_, e, rfl, _, rfl⟩ ⟨_, e2, rfl, _, rfl⟩ (ints_are r) (ints_are r2) hu ⟨.bl _, H, I, rfl, q⟩
theorem op_neLs (hu : X.A.units + 64 < cLine) : OpR X (compareOp .NotEq) (rEqL fun ns ms => decide (¬ ns = ms)) := by
  intro pins s σ H x y v u Q I rx ry h
  obtain ⟨a, b, ns, ms, rfl, rfl, ha, hb, q⟩ := h
  cases rx
  cases ry
  obtain ⟨_, its, n, r, _, e⟩ := L3.Inv.lstR I ha
  obtain ⟨_, its2, n2, r2, _, e2⟩ := L3.Inv.lstR I hb
  have q : Q (.bl (decide (¬ ns = ms))) H := q
  rw [decide_not] at q
  exact PySem.W.ke_ne_ints ⟨_, e, rfl, _, rfl⟩ ⟨_, e2, rfl, _, rfl⟩ (ints_are r) (ints_are r2) hu ⟨.bl _, H, I, rfl, q⟩
end
def Itz (K : PySem.W.Frag) (a b : Addr) : It :=
  ⟨fun i H => ∃ xs ys x y, SqL K H a xs /\ SqL K H b ys /\ xs[i]? = some x /\ ys[i]? = some y,
   fun i H v H' => ∃ T x y, v = .ref T /\ H T = none /\ H' = upd H T (.tup [x, y]) /\ (∀ xs, SqL K H a xs -> xs[i]? = some x) /\ ∀ ys, SqL K H b ys -> ys[i]? = some y,
   fun i H => ∃ xs ys, SqL K H a xs /\ SqL K H b ys /\ (xs.length <= i \/ ys.length <= i)⟩
theorem turn_zip {P : Program} {w : World} {K : PySem.W.Frag} {els : List Expr} {kk : Nat} {tp : Pos} (a b z TI TO i1 i2 : Addr) (D : ZipApart z TI TO i1 i2 a b) :
    Turn P w K (.Tuple els kk tp) (Itz K a b) [z, TI, TO, i1, i2] z (fun i h => IsZip h z TI TO .none /\ IsPair h TI (.ref i1) (.ref i2) /\ (∃ u v, IsPair h TO u v) /\ h.IsListIter i1 a i /\ h.IsListIter i2 b i) where
  mem := by simp
  obj := fun i h st c hc => by
    obtain ⟨hz, hTI, ⟨u, v, hTO⟩, ⟨o1, q1, _, d1⟩, ⟨o2, q2, _, d2⟩⟩ := st
    rcases List.mem_cons.mp hc with rfl | hc
    . exact ⟨_, hz, fun v y => by cases y⟩
    rcases List.mem_cons.mp hc with rfl | hc
    . exact ⟨_, hTI, fun v y => by cases y⟩
    rcases List.mem_cons.mp hc with rfl | hc
    . exact ⟨_, hTO, fun v y => by cases y⟩
    rcases List.mem_cons.mp hc with rfl | hc
    . exact ⟨o1, q1, fun v y => by rw [d1] at y; cases y⟩
    . have e : c = i2 := by simpa using hc
      subst e
      exact ⟨o2, q2, fun v y => by rw [d2] at y; cases y⟩
  keep := fun i h h' st k => by
    obtain ⟨hz, hTI, ⟨u, v, hTO⟩, h1, h2⟩ := st
    exact ⟨k z (by simp) _ hz, k TI (by simp) _ hTI, ⟨u, v, k TO (by simp) _ hTO⟩, h1.at fun o q => k i1 (by simp) o q, h2.at fun o q => k i2 (by simp) o q⟩
  item := by
    intro X hP hw hK hc i pins s σ H E I hf st hg
    subst hP hw hK
    obtain ⟨xs, ys, x, y, hqa, hqb, hx, hy⟩ := hg
    obtain ⟨hz, hTI, ⟨p0, q0, hTO⟩, h1, h2⟩ := st
    obtain ⟨its, rv, pa, hza⟩ := I.list hqa
    obtain ⟨u, hu, ru⟩ := rv.get hx
    obtain ⟨its2, rv2, pb, hzb⟩ := I.list hqb
    obtain ⟨u2, hu2, ru2⟩ := rv2.get hy
    refine wpAny_pyNext_zip_item D hz hTI hTO h1 h2 pa.isList pb.isList (x := u) (y := u2) (by simpa using hu) (by simpa using hu2) fun h' hz' hTO' h1' h2' hT hsz hk => ⟨_, rfl, ?_⟩
    refine wpAny_letOwnedTupleGo_zip hz' fun h2h hz2 hs2 => ?_
    have Tz : s.heap.objs.size ≠ z := Nat.ne_of_gt (Heap.lt_size hz)
    have keep2 : ∀ c o, c ∉ [z, TI, TO, i1, i2] -> s.heap.get? c = some o -> h2h.get? c = some o := fun c o hc q => by
      have c1 : c ≠ z := fun e => hc (by simp [e])
      exact (hs2.2 c c1).trans (hk c o c1 (fun e => hc (by simp [e])) (fun e => hc (by simp [e])) (fun e => hc (by simp [e])) q)
    have I1 : Inv X pins σ H { s with heap := h2h, toks := s.toks } := I.turnedL hf keep2
    have fT : FpOk X pins H s.heap.objs.size := I.fpOk (Nat.le_refl _) (I.hok.fresh (Nat.le_refl _))
    have I2 := I1.track (o := .tup [x, y]) fT ⟨by show 2 <= sizeLine; decide, [u, u2], .cons ru (.cons ru2 .nil), ⟨_, (hs2.2 _ Tz).trans hT, rfl, _, rfl⟩⟩
    have up : ∀ c o, c ≠ z -> h'.get? c = some o -> h2h.get? c = some o := fun c o c1 q => (hs2.2 c c1).trans q
    refine ⟨.ref s.heap.objs.size, _, I2, rfl, ⟨_, x, y, rfl, fT.1, rfl, fun zs hq => by rw [I.list_inj hq hqa]; exact hx, fun zs hq => by rw [I.list_inj hq hqb]; exact hy⟩, ⟨hz2, ?_, ⟨u, u2, up _ _ D.TOz hTO'⟩, h1'.at fun o q => up _ o D.i1z q, h2'.at fun o q => up _ o D.i2z q⟩, fun c hc => ?_⟩
    . exact up _ _ D.TIz (hk _ _ D.TIz D.TITO D.TIi1 D.TIi2 hTI)
    . have lt : c < s.heap.objs.size := by
        rcases List.mem_cons.mp hc with rfl | hc
        . exact Heap.lt_size hz
        rcases List.mem_cons.mp hc with rfl | hc
        . exact Heap.lt_size hTI
        rcases List.mem_cons.mp hc with rfl | hc
        . exact Heap.lt_size hTO
        rcases List.mem_cons.mp hc with rfl | hc
        . obtain ⟨o, q, _⟩ := h1; exact Heap.lt_size q
        . have e : c = i2 := by simpa using hc
          subst e
          obtain ⟨o, q, _⟩ := h2; exact Heap.lt_size q
      rw [upd_ne (Nat.ne_of_lt lt)]
      exact (hf c hc).1
  done := by
    intro X hP hw hK hc i pins s σ H E I hf st hg
    subst hP hw hK
    obtain ⟨xs, ys, hqa, hqb, hx⟩ := hg
    obtain ⟨hz, hTI, ⟨p0, q0, hTO⟩, h1, h2⟩ := st
    obtain ⟨its, rv, pa, hza⟩ := I.list hqa
    obtain ⟨its2, rv2, pb, hzb⟩ := I.list hqb
    have hl := rv.length
    have hl2 := rv2.length
    refine wpAny_pyNext_zip_end (I.ok.hd hc) D hz hTI hTO h1 h2 pa.isList pb.isList ?_ fun h' hk => ⟨rfl, I.turnedL (t' := s.toks) hf fun c o hc q => hk c o (fun e => hc (by simp [e])) (fun e => hc (by simp [e])) (fun e => hc (by simp [e])) (fun e => hc (by simp [e])) q⟩
    rcases hx with h | h
    . exact .inl (by simp; omega)
    . exact .inr (by simp; omega)
  self := fun A i s Q E st h => wpAny_pyIter_zip st.1 h
theorem bt_zip : bootBuiltins "zip" = some (.type "zip") := by decide +kernel
def iZip (K : PySem.W.Frag) (ta : TA) : TI := fun σ H R => ta σ H fun vs H1 => ∃ a b, vs = [.ref a, .ref b] /\ (∃ xs, SqL K H1 a xs) /\ (∃ xs, SqL K H1 b xs) /\ R (Itz K a b) H1
theorem pi_zip {X : Cx} {els : List Expr} {kk : Nat} {tp : Pos} {l l2 : Expr} {ta : TA} {p pos : Pos} (hg : Gl X "zip") (hm : X.mg "zip" = none) (ha : PA X [l, l2] ta) (hs : starEach [l, l2] X.env = (false, eval l X.env) :: starEach [l2] X.env := by rfl) (hpl : (backTo pos (starEach [l2] X.env)).any (·.1) = false := by rfl) :
    PI X (.Tuple els kk tp) (.Call (.Name "zip" p) [l, l2] [] pos) (iZip X.K ta) := by
  intro pins s σ H R I h
  refine Call_ (ld_blt I hg hm bt_zip (PyProof.Rows.callWith_type1 (thn (ha pos pins s σ H _ I h) fun us s1 ⟨vs, H1, I1, r1, q1⟩ => ?_) hs hpl))
  obtain ⟨a, b, rfl, ⟨xs, hqa⟩, ⟨ys, hqb⟩, q⟩ := q1
  obtain ⟨u, u2, rfl, ru, ru2⟩ := vals2 r1
  cases ru
  cases ru2
  obtain ⟨its, rv, pa, hza⟩ := I1.list hqa
  obtain ⟨its2, rv2, pb, hzb⟩ := I1.list hqb
  have la : a < s1.heap.objs.size := by obtain ⟨o, e, _⟩ := pa.isList; exact Heap.lt_size e
  have lb : b < s1.heap.objs.size := by obtain ⟨o, e, _⟩ := pb.isList; exact Heap.lt_size e
  refine call_zip_2 pa.isList pb.isList fun h1 hz hTI hTO h1i h2i hsz hk => ?_
  refine wpAny_pyIter_zip hz ?_
  have I2 : Inv X pins σ H1 { s1 with heap := h1 } := I1.kept (t' := s1.toks) hk
  have D : ZipApart (s1.heap.objs.size + 4) (s1.heap.objs.size + 2) (s1.heap.objs.size + 3) s1.heap.objs.size (s1.heap.objs.size + 1) a b := by
    have la' : @LT.lt Nat _ a s1.heap.objs.size := la
    have lb' : @LT.lt Nat _ b s1.heap.objs.size := lb
    constructor <;> (show @Ne Nat _ _) <;> omega
  refine ⟨_, [s1.heap.objs.size + 4, s1.heap.objs.size + 2, s1.heap.objs.size + 3, s1.heap.objs.size, s1.heap.objs.size + 1], _, _, H1, rfl, I2, turn_zip a b _ _ _ _ _ D, ⟨hz, hTI, ⟨_, _, hTO⟩, h1i, h2i⟩, fun c hc => ?_, q⟩
  have le : s1.heap.objs.size <= c := by
    simp only [List.mem_cons, List.not_mem_nil, or_false] at hc
    show (_ : Nat) <= (_ : Nat)
    rcases hc with h | h | h | h | h <;> rw [h] <;> first | exact Nat.le_refl _ | exact Nat.le_add_right _ _
  exact I1.fpOk le (I1.hok.fresh le)
end L2
namespace L3
open PySem PySem.Spec PyProof.Rows L2
section
variable {X : Cx} {G : Gx} {Er : ER} {a b e : Expr} {pos p px apos : Pos} {C Ca Cb : En -> Prop} {gl hl : En -> List Int} {i j k : Nat} {x : Str}
theorem rlO (i : Nat) {x : Str} (hN : X.N[i]? = some x := by rfl) (hv : Vis X.env.scope x := by first | exact Or.inl rfl | exact Or.inr (Or.inl rfl) | exact Or.inr (Or.inr rfl))
    (hd : (x == ("__debug__" : Str)) = false := by decide) (hcd : (x == ("__classdict__" : Str)) = false := by decide) : PE X (.Name x pos) (tXr X.K G (fun Z => isL Z i \/ isO Z i) fun Z => .ints (getL Z i)) :=
  fun pins s σ H Q I ⟨B, Z, O, R, c, q⟩ => pe_var hN hv hd hcd pins s σ H Q I (by
    rcases c with c | c
    . obtain ⟨v, e1, a, rfl, r⟩ := R.fr i _ c
      exact ⟨_, e1, q _ H (Same.refl H) ⟨a, rfl, same_rd mn_le r⟩⟩
    . obtain ⟨a, vs, e1, e2, e3, e4, e5⟩ := R.ow i _ c
      have e5 : vs = (getL Z i).map V.int := e5
      subst e5
      exact ⟨_, e1, q _ H (Same.refl H) ⟨a, rfl, .inl e4⟩⟩)
theorem two_r {r : R2} {σ : L2.St} {H : Hp} {B : Bs} {Z : En} {O : Addr -> Bool} {Q : VK} (R : Rep X.K G B σ H Z O) (ca : Ca Z) (cb : Cb Z) (q : ∀ l m H1 H2, Same H H1 -> Same H1 H2 -> Rd H2 l (.lst ((gl Z).map V.int)) -> Rd H2 m (.lst ((hl Z).map V.int)) -> r (.ref l) (.ref m) H2 Q) :
    tOp r (tXr X.K G Ca fun Z => .ints (gl Z)) (tXr X.K G Cb fun Z => .ints (hl Z)) σ H Q :=
  ⟨B, Z, O, R, ca, fun v H1 s1 a1 => ⟨B, Z, O, R.grow s1, cb, fun u H2 s2 a2 => by
    obtain ⟨l, rfl, r1⟩ := a1
    obtain ⟨m, rfl, r2⟩ := a2
    exact q l m H1 H2 s1 s2 (same_rd s2 r1) r2⟩⟩
theorem xe_eqL (hu : X.A.units + 64 < cLine) (ha : PE X a (tXr X.K G Ca fun Z => .ints (gl Z))) (hb : PE X b (tXr X.K G Cb fun Z => .ints (hl Z))) : PE X (.Compare a [.Eq] [b] pos) (tXB X.K G (fun Z => Ca Z /\ Cb Z) fun Z => gl Z = hl Z) :=
  toX (pe_cmpR (op_eqLs hu) ha hb (nomark _)) fun _ _ _ _ _ _ R c q => two_r R c.1 c.2 fun l m _ H2 s1 s2 r1 r2 => ⟨l, m, _, _, rfl, rfl, r1, r2, q _ H2 (s1.trans s2) rfl⟩
theorem xt_eqL (hu : X.A.units + 64 < cLine) (ha : PE X a (tXr X.K G Ca fun Z => .ints (gl Z))) (hb : PE X b (tXr X.K G Cb fun Z => .ints (hl Z))) : PT X (.Compare a [.Eq] [b] pos) (tXT X.K G (fun Z => Ca Z /\ Cb Z) fun Z => gl Z = hl Z) :=
  fun pins s σ H Q I ⟨_, _, _, R, c, q⟩ => pt_cmpR (op_eqLs hu) ha hb (nomark _) pins s σ H Q I (two_r R c.1 c.2 fun l m _ H2 s1 s2 r1 r2 => ⟨l, m, _, _, rfl, rfl, r1, r2, _, rfl, q H2 (s1.trans s2)⟩)
theorem xt_neL (hu : X.A.units + 64 < cLine) (ha : PE X a (tXr X.K G Ca fun Z => .ints (gl Z))) (hb : PE X b (tXr X.K G Cb fun Z => .ints (hl Z))) : PT X (.Compare a [.NotEq] [b] pos) (tXT X.K G (fun Z => Ca Z /\ Cb Z) fun Z => ¬ gl Z = hl Z) :=
  fun pins s σ H Q I ⟨_, _, _, R, c, q⟩ => pt_cmpR (op_neLs hu) ha hb (nomark _) pins s σ H Q I (two_r R c.1 c.2 fun l m _ H2 s1 s2 r1 r2 => ⟨l, m, _, _, rfl, rfl, r1, r2, _, rfl, q H2 (s1.trans s2)⟩)
def tXns (K : PySem.W.Frag) (G : Gx) (C : En -> Prop) (g : En -> List PV) (B : Bs) (Z : En) : TA := fun σ H Q => ∃ O, Rep K G B σ H Z O /\ C Z /\ ∀ vs H', Same H H' -> AtL K G (mn H' fun a => (B.H0 a).isSome) (g Z) vs -> Q vs H'
def tXnB (K : PySem.W.Frag) (G : Gx) (C : En -> Prop) (g : En -> PV) (B : Bs) (Z : En) : TE := fun σ H Q => ∃ O, Rep K G B σ H Z O /\ C Z /\ ∀ v H', Same H H' -> At K G (mn H' fun a => (B.H0 a).isSome) (g Z) v -> Q v H'
abbrev PN (X : Cx) (G : Gx) (e : Expr) (C : En -> Prop) (g : En -> PV) : Prop := ∀ B Z, PE X e (tXnB X.K G C g B Z)
abbrev PNs (X : Cx) (G : Gx) (es : List Expr) (C : En -> Prop) (g : En -> List PV) : Prop := ∀ B Z, PA X es (tXns X.K G C g B Z)
theorem new_seen {B : Bs} {H H' : Hp} {a : Addr} (s : Same B.H0 H) (n : H a = none) : mn H' (fun a => (B.H0 a).isSome) a = H' a := mn_of (by rw [s.free n]; rfl)
theorem nI {ga : En -> Int} (h : PE X e (tXI X.K G C ga)) : PN X G e C fun Z => .int (ga Z) := fun B Z pins s σ H Q I ⟨O, R, c, q⟩ => h pins s σ H Q I ⟨B, Z, O, R, c, fun v H' s' a => q v H' s' (show v = _ from a)⟩
theorem nL (h : PE X e (tXl X.K G C gl)) : PN X G e C fun Z => .ints (gl Z) := fun B Z pins s σ H Q I ⟨O, R, c, q⟩ => h pins s σ H Q I ⟨B, Z, O, R, c, fun a H' s' n e => q _ H' s' ⟨a, rfl, .inl (by rw [new_seen R.same n]; exact e)⟩⟩
theorem nO (i : Nat) {x : Str} (hN : X.N[i]? = some x := by rfl) (hv : Vis X.env.scope x := by first | exact Or.inl rfl | exact Or.inr (Or.inl rfl) | exact Or.inr (Or.inr rfl))
    (hd : (x == ("__debug__" : Str)) = false := by decide) (hcd : (x == ("__classdict__" : Str)) = false := by decide) : PN X G (.Name x pos) (fun Z => isO Z i) fun Z => .ints (getL Z i) :=
  fun B Z pins s σ H Q I ⟨O, R, c, q⟩ => pe_var hN hv hd hcd pins s σ H Q I (by
    obtain ⟨a, vs, e1, e2, e3, e4, e5⟩ := R.ow i _ c
    have e5 : vs = (getL Z i).map V.int := e5
    subst e5
    refine ⟨_, e1, q _ H (Same.refl H) ⟨a, rfl, .inl ?_⟩⟩
    rw [mn_of (by rw [e3]; rfl)]
    exact e4)
theorem na_nil : PNs X G [] (fun _ => True) fun _ => [] := fun B Z pos pins s σ H Q I ⟨_, _, _, q⟩ => pa_nil pos pins s σ H Q I (q [] H (Same.refl H) rfl)
theorem na_cons {g : En -> PV} {gs : En -> List PV} {es : List Expr} (ha : PN X G e Ca g) (hr : PNs X G es Cb gs) (hs : starEach (e :: es) X.env = (false, eval e X.env) :: starEach es X.env := by rfl) : PNs X G (e :: es) (fun Z => Ca Z /\ Cb Z) fun Z => g Z :: gs Z :=
  fun B Z pos pins s σ H Q I ⟨O, R, c, q⟩ => pa_cons (ha B Z) (hr B Z) hs pos pins s σ H Q I ⟨O, R, c.1, fun v H1 s1 a1 => ⟨O, R.grow s1, c.2, fun vs H2 s2 a2 => q _ H2 (s1.trans s2) ⟨v, vs, rfl, At.mono (mn_same s2) _ _ a1, a2⟩⟩⟩
theorem n_tup {gs : En -> List PV} {es : List Expr} {x1} (h : PNs X G es C gs) (hz : ∀ Z, (gs Z).length <= 1000 := by intro _; exact Nat.le_of_ble_eq_true rfl) : PN X G (.Tuple es x1 pos) C fun Z => .tup (gs Z) :=
  fun B Z pins s σ H Q I ⟨O, R, c, q⟩ => pe_tup (h B Z) pins s σ H Q I ⟨O, R, c, fun vs H1 s1 a1 => ⟨by rw [<- a1.length]; exact Nat.le_of_lt (small1000 (hz Z)), fun a ha => by
    refine q (.ref a) _ (s1.trans (same_new ha _)) ⟨a, vs, rfl, by rw [new_seen (R.same.trans s1) ha]; exact upd_same, AtL.mono (mn_same (same_new ha _)) _ _ a1⟩⟩⟩
theorem xst_retn {g : En -> PV} (h : PN X G e C g) : PS X (.Return (some e) pos) (ts X.K G Er fun P Z => C Z /\ P.rn (g Z)) :=
  fun pins s σ H D I ⟨B, Z, P, ⟨O, R⟩, c, w⟩ => ps_ret (h B Z) pins s σ H D I ⟨O, R, c.1, fun v H1 s1 a1 => w.rn v H1 _ (R.same.trans s1) a1 c.2⟩
def spN (K : PySem.W.Frag) (G : Gx) (pre : List PV -> Prop) (F : List PV -> PV) : Sp := fun vs H Q _ => ∃ as, AtL K G H as vs /\ pre as /\ ∀ v H', Same H H' -> At K G (mn H' fun a => (H a).isSome) (F as) v -> Q v H'
theorem rcn {es : List Expr} {gs : En -> List PV} {pl : List Str} {pre : List PV -> Prop} {F : List PV -> PV} (o : Ok X.prog X.w X.K X.mg X.base j x pl (spN X.K G pre F)) (hr : Room k X.A) (ha : PA X (e :: es) (tXrs X.K G C gs)) (hj : j <= k := by decide) (hg : Gl X x := by rfl) (hdb : (x == ("__debug__" : Str)) = false := by decide)
    (he : starEach (e :: es) X.env = (false, eval e X.env) :: starEach es X.env := by rfl) (hpl : (backTo pos (starEach es X.env)).any (·.1) = false := by rfl) :
    PE X (.Call (.Name x p) (e :: es) [] pos) (tX X.K G (fun Z => C Z /\ pre (gs Z)) fun Z => F (gs Z)) :=
  toX (pe_callO o hr ha hj hg hdb he hpl) fun B σ H Z O Q R c q => ⟨B, Z, O, R, c.1, fun vs H1 s1 a1 => by
    dsimp only
    rw [List.append_nil]
    refine ⟨gs Z, a1, c.2, fun v H2 s2 a2 => q v H2 (s1.trans s2) (At.mono (mn_anti fun b z => ?_) _ _ a2)⟩
    cases e : H1 b with
    | none => exact absurd (s1.free e) (R.dom b z)
    | some o => rfl⟩
theorem xn_divN {ga gb : En -> Int} (ha : PE X a (tXI X.K G Ca ga)) (hb : PE X b (tXI X.K G Cb gb)) : PE X (.BinOp a .FloorDiv b pos) (tXI X.K G (fun Z => Ca Z /\ Cb Z /\ (gb Z ≠ 0 /\ (gb Z).natAbs.log2 < 9000)) fun Z => (ga Z).fdiv (gb Z)) :=
  xn_op (C := fun _ j => j ≠ 0 /\ j.natAbs.log2 < 9000) (g := fun i j => i.fdiv j) (opI fun i j _ _ _ _ _ hc q => floordiv_int hc.1 q (.inl (PyProof.noPylong_of_log2 hc.2))) ha hb
theorem xn_modN {ga gb : En -> Int} (ha : PE X a (tXI X.K G Ca ga)) (hb : PE X b (tXI X.K G Cb gb)) : PE X (.BinOp a .Mod b pos) (tXI X.K G (fun Z => Ca Z /\ Cb Z /\ gb Z ≠ 0) fun Z => (ga Z).fmod (gb Z)) := xn_op op_modN ha hb
def pvI : PV -> Int
  | .int n => n
  | _ => 0
def pvL : PV -> List Int
  | .ints ns => ns
  | _ => []
theorem xn_of {g : En -> PV} (h : PE X e (tX X.K G C g)) : PE X e (tXI X.K G (fun Z => C Z /\ g Z = .int (pvI (g Z))) fun Z => pvI (g Z)) :=
  toX h fun B σ H Z O Q R c q => ⟨B, Z, O, R, c.1, fun v H' s a => q v H' s (by rw [<- c.2]; exact a)⟩
theorem xl_of {g : En -> PV} (h : PE X e (tX X.K G C g)) : PE X e (tXL X.K G (fun Z => C Z /\ g Z = .ints (pvL (g Z))) fun Z => pvL (g Z)) :=
  toX h fun B σ H Z O Q R c q => ⟨B, Z, O, R, c.1, fun v H' s a => q v H' s (by rw [<- c.2]; exact a)⟩
def pvP : PV -> List PV
  | .lst xs => xs
  | _ => []
end
section
variable {P : Program} {w : World} {K : PySem.W.Frag} {mg : Str -> Option Value} {base : Heap} {G : Gx}
theorem okN {x : Str} {st : Stmt} {N ps : List Str} {k : Nat} {pre : List PV -> Prop} {F : List PV -> PV} (d : Def K mg x st ps) (S : FnScope N ps (defScope st)) (len : ∀ as, pre as -> as.length = ps.length)
    (hbody : ∀ (f : Addr) (cdv : Value) (A : Around) (outer : List Env) (s : Shared) (H : Hp) (E : XK), Room k (A.deeper (envOfC x (defScope st) s.heap.objs.size f cdv)) ->
      ∃ fs, PSs (cxOf CX0 P w K mg base N x (defScope st) f cdv A outer s H E).nox (defBody st) (ts K G ER0 fs) /\ ∀ as, pre as -> fs { nx := fun _ => False, rt := fun _ => False, rn := fun p => p = F as } (startR N as)) : Ok P w K mg base (k + 1) x ps (spN K G pre F) := by
  refine Def.ok d S (fun vs H Q E h => ?_) fun f cdv A outer s H vs Q E hr h => ?_
  . obtain ⟨as, al, hp, _⟩ := h
    rw [<- al.length]; exact len as hp
  obtain ⟨as, al, hp, q⟩ := h
  obtain ⟨fs, b, c⟩ := hbody f cdv A outer s H E hr
  refine ⟨_, b, ⟨H, fun _ => false⟩, startR N as, _, ⟨_, rep_start (fun _ z => by cases z) (by rw [mn_no]; exact al)⟩, c as hp, ⟨fun _ _ _ _ h => h.elim, fun _ _ _ _ _ h => h.elim, fun _ _ _ _ _ _ h => h.elim, fun v H' p s' a' h => ?_, fun _ _ _ _ h => h, fun _ _ _ _ h => h, fun _ _ _ h => h⟩⟩
  have h : p = F as := h
  subst h
  exact q v H' s' a'
end
def spNewW (C : Addr) : Sp := fun vs H Q _ => ∃ x dx : Addr, vs = [.ref x] /\ H x = some (.ins C dx []) /\ Q .non (upd H x (.ins C dx [("size", .int 0)]))
theorem mk_seen {H : Hp} {O : Addr -> Bool} {x : Addr} (hd : ∀ a, O a = true -> H a ≠ none) (hx : H x = none) {H' : Hp} : mn H' O x = H' x := mn_of (by
  cases z : O x with
  | false => rfl
  | true => exact absurd hx (hd x z))
theorem mk_grow {H : Hp} {x dx C : Addr} {fs : List (Str × V)} (hx : H x = none) (hd : H dx = none) : Same H (upd (upd (upd H dx (.own x)) x (.ins C dx [])) x (.ins C dx fs)) := fun b o e => by
  rw [upd_ne (ne_of_none e hx), upd_ne (ne_of_none e hx), upd_ne (ne_of_none e hd)]
  exact e
def KW (cW : Addr) (H : Hp) (a : Addr) (z : Int) : Prop := z = 0 /\ ∃ dx fs, H a = some (.ins cW dx fs) /\ fs.lookup ("size" : Str) = some (.int 0) /\ ∀ m ∈ kMeths, fs.lookup m = none
theorem KW.same {cW : Addr} {H H' : Hp} {a : Addr} {z : Int} (k : KW cW H a z) (s : Same H H') : KW cW H' a z := by
  obtain ⟨e0, dx, fs, e, r⟩ := k
  exact ⟨e0, dx, fs, s _ _ e, r⟩
def GkW (cW : Addr) : Gx := ⟨fun k H a z => k = 0 /\ KW cW H a z, fun _ _ _ _ _ s h => ⟨h.1, h.2.same s⟩⟩
theorem gkW {cW : Addr} (H : Hp) (a dx : Addr) (h : H a = some (.ins cW dx [("size", .int 0)])) : (GkW cW).ob 0 H a 0 := by
  have hm : ∀ m ∈ kMeths, List.lookup m [("size", V.int 0)] = none := by decide +kernel
  exact ⟨rfl, rfl, dx, _, h, rfl, hm⟩
section
variable {X : Cx} {G : Gx} {pos p : Pos} {j k : Nat} {x : Str} {C : Addr}
theorem xk_W (o : OkI X.prog X.w X.K X.mg X.base CX0 j x C ["self"] (spNewW C)) (hr : Room k X.A) (hG : ∀ (H : Hp) (a dx : Addr), H a = some (.ins C dx [("size", .int 0)]) -> G.ob 0 H a 0) (hj : j + 1 <= k := by decide) (hg : Gl X x := by rfl) (hdb : (x == ("__debug__" : Str)) = false := by decide) :
    PE X (.Call (.Name x p) [] [] pos) (tX X.K G (fun _ => True) fun _ => .ob 0 0) :=
  toX (pe_makeO0 o hr pass0 hj hg hdb) fun B σ H Z O Q R _ q => fun y dx hy hd hne => by
    refine ⟨y, dx, rfl, upd_same, rfl, q (.ref y) _ (mk_grow hy hd) ⟨y, rfl, hG _ _ dx ?_⟩⟩
    rw [mk_seen R.dom hy]
    exact upd_same
end
section
variable {K : PySem.W.Frag} {G : Gx} {B : Bs} {σ : L2.St} {H H1 : Hp} {Z : En} {O : Addr -> Bool} {D : Addr} {cap : List (Option Nat)}
variable {α : Type} {J : It} {g : TG} {C Ct : En -> Prop} {pt : En -> Prop} [∀ Z, Decidable (pt Z)] {gb : En -> PV} {Q : VK}
theorem lc_mainT (items : List α) (setσ : α -> V -> L2.St) (setr : α -> En) (val : α -> V) (R : Rep K G B σ H1 Z O) (hD : H1 D = none) (hlen : items.length <= 1000) (hgo : ∀ i H, i < items.length -> Same H1 H -> J.go i H)
    (hyld : ∀ i it x H H', items[i]? = some it -> Same H1 H -> J.yld i H x H' -> Same H H' /\ ∀ k : L2.St -> Hp -> Prop, k (setσ it (val it)) H' -> g x (capS cap σ) H' k) (hstop : ∀ H, Same H1 H -> J.stop items.length H)
    (hset : ∀ it H, it ∈ items -> Same H1 H -> Rep K G ⟨H1, O⟩ (capS cap σ) H (capR cap Z) (hide D O) -> Rep K G ⟨H1, O⟩ (setσ it (val it)) H (setr it) (hide D O)) (hext : ∀ it, ExtS (capS cap σ) (setσ it (val it))) (hCt : ∀ it ∈ items, Ct (setr it)) (hC : ∀ it ∈ items, pt (setr it) -> C (setr it))
    (hQ : ∀ H' ys, Same H1 H' -> H' D = some (.lst ys) -> AtL K G (mn H' (hide D O)) ((items.filter fun it => decide (pt (setr it))).map fun it => gb (setr it)) ys -> Q (.ref D) H') :
    ∃ W : Nat -> Nat -> List V -> Hp -> Prop, (∃ m, W 0 m [] (upd H1 D (.lst []))) /\ lcW D J (capS cap σ) g (tXT K G Ct pt) (tX K G C gb) Q W := by
  refine ⟨fun i m ys H => m = items.length - i /\ i <= items.length /\ Same H1 H /\ H D = some (.lst ys) /\ AtL K G (mn H (hide D O)) (((items.take i).filter fun it => decide (pt (setr it))).map fun it => gb (setr it)) ys, ⟨items.length, by simp, Nat.zero_le _, same_new hD _, upd_same, rfl⟩, ?_⟩
  rintro i m ys H ⟨rfl, hi, hs, hd, al⟩
  have hl : ys.length <= i := by
    rw [<- al.length, List.length_map]
    refine Nat.le_trans (List.length_filter_le _ _) ?_
    rw [List.length_take]; omega
  refine ⟨hd, small1000 (by omega), ?_⟩
  by_cases hlt : i < items.length
  . refine .inr ⟨hgo i H hlt hs, ?_⟩
    intro x H' hy
    have en : items[i]? = some items[i] := List.getElem?_eq_getElem hlt
    obtain ⟨s1, kk⟩ := hyld i _ x H H' en hs hy
    refine kk _ ⟨hext _, ?_⟩
    have hd' := s1 _ _ hd
    have R2 := hset items[i] H' (List.getElem_mem hlt) (hs.trans s1) (rep_block R hD (hs.trans s1) (by rw [hd']; exact fun z => by cases z))
    refine ⟨_, _, _, R2, hCt _ (List.getElem_mem hlt), fun H3 s3 => ?_⟩
    by_cases d : pt (setr items[i])
    . rw [decide_eq_true d]
      refine iteT ?_
      refine ⟨_, _, _, R2.grow s3, hC _ (List.getElem_mem hlt) d, fun v H2 s2 a2 => ⟨s2 _ _ (s3 _ _ hd'), items.length - (i + 1), by omega, rfl, hlt, ?_, upd_same, ?_⟩⟩
      . intro b o z
        rw [upd_ne (ne_of_none z hD)]
        exact s2 _ _ (s3 _ _ (s1 _ _ (hs b o z)))
      . rw [mn_upd hide_self, take_at en, List.filter_append, List.filter_cons_of_pos (by exact decide_eq_true d), List.map_append]
        exact AtL.snoc (AtL.mono (mn_same ((s1.trans s3).trans s2)) _ _ al) a2
    . rw [decide_eq_false d]
      refine iteF ?_
      refine ⟨items.length - (i + 1), by omega, rfl, hlt, hs.trans (s1.trans s3), s3 _ _ hd', ?_⟩
      rw [take_at en, List.filter_append, List.filter_cons_of_neg (by simpa using d), List.filter_nil, List.append_nil]
      exact AtL.mono (mn_same (s1.trans s3)) _ _ al
  . have e : i = items.length := by omega
    subst e
    refine .inl ⟨hstop H hs, hQ H ys hs hd ?_⟩
    rw [List.take_length] at al
    exact al
end
section
variable {K : PySem.W.Frag} {G : Gx} {σ : L2.St} {H : Hp} {Q : VK} {Cs Ct Cb : En -> Prop} {pt : En -> Prop} [∀ Z, Decidable (pt Z)] {gs hs : En -> List Int} {gi : En -> Int} {gp : En -> PV} {cap : List (Option Nat)}
theorem lc_LT (h : tXp K G (fun Z => Cs Z /\ (gs Z).length <= 1000 /\ ∀ n ∈ gs Z, Ct ((capR (none :: cap) Z).set 0 (.fr (.int n))) /\ (pt ((capR (none :: cap) Z).set 0 (.fr (.int n))) -> Cb ((capR (none :: cap) Z).set 0 (.fr (.int n)))))
      (fun Z => ((gs Z).filter fun n => decide (pt ((capR (none :: cap) Z).set 0 (.fr (.int n))))).map fun n => gp ((capR (none :: cap) Z).set 0 (.fr (.int n)))) σ H Q) :
    tLC (none :: cap) (iList K (tXr K G Cs fun Z => .ints (gs Z))) (gName 0) (tXT K G Ct pt) (tX K G Cb gp) σ H Q := by
  obtain ⟨B, Z, O, R, ⟨c1, c2, c3⟩, q⟩ := h
  refine ⟨B, Z, O, R, c1, fun v H1 s1 a1 => ?_⟩
  obtain ⟨a, rfl, hq⟩ := a1
  have hq1 : SqL K H1 a ((gs Z).map V.int) := .inl hq
  refine ⟨a, rfl, ⟨_, hq1⟩, fun D hD => ?_⟩
  refine lc_mainT (gs Z) (fun _ v => (capS (none :: cap) σ).set 0 (some v)) (fun n => (capR (none :: cap) Z).set 0 (.fr (.int n))) V.int (R.grow s1) hD c2 (fun i H hi s => ⟨_, .int (gs Z)[i], s.seq hq1, by simp [hi]⟩) ?_ (fun H s => ⟨_, s.seq hq1, by simp⟩) (fun n H _ s R' => R'.set (p := .int n) rfl) ?_ (fun n hn => (c3 n hn).1) (fun n hn => (c3 n hn).2) ?_
  . rintro i n x H H' en s ⟨rfl, hx⟩
    obtain ⟨n', rfl, hn⟩ := int_at (hx _ (s.seq hq1))
    rw [hn] at en
    cases en
    exact ⟨Same.refl _, fun k hk => hk⟩
  . intro n
    show ExtS (none :: capS cap σ) (some (.int n) :: capS cap σ)
    exact ext_refl _
  . intro H' ys s hd al
    exact q D ys H' (s1.trans s) (s1.free hD) hd al
theorem lc_Q (h : tXp K G (fun Z => Cs Z /\ (gs Z).length <= 1000 /\ ∀ n ∈ gs Z, Cb ((capR (none :: cap) Z).set 0 (.fr (.int n)))) (fun Z => (gs Z).map fun n => gp ((capR (none :: cap) Z).set 0 (.fr (.int n)))) σ H Q) :
    tLC (none :: cap) (iList K (tXr K G Cs fun Z => .ints (gs Z))) (gName 0) noTest (tX K G Cb gp) σ H Q := by
  obtain ⟨B, Z, O, R, ⟨c1, c2, c3⟩, q⟩ := h
  refine ⟨B, Z, O, R, c1, fun v H1 s1 a1 => ?_⟩
  obtain ⟨a, rfl, hq⟩ := a1
  have hq1 : SqL K H1 a ((gs Z).map V.int) := .inl hq
  refine ⟨a, rfl, ⟨_, hq1⟩, fun D hD => ?_⟩
  refine lc_main (gs Z) (fun _ v => (capS (none :: cap) σ).set 0 (some v)) (fun n => (capR (none :: cap) Z).set 0 (.fr (.int n))) V.int (R.grow s1) hD c2 (fun i H hi s => ⟨_, .int (gs Z)[i], s.seq hq1, by simp [hi]⟩) ?_ (fun H s => ⟨_, s.seq hq1, by simp⟩) (fun n H _ s R' => R'.set (p := .int n) rfl) ?_ c3 ?_
  . rintro i n x H H' en s ⟨rfl, hx⟩
    obtain ⟨n', rfl, hn⟩ := int_at (hx _ (s.seq hq1))
    rw [hn] at en
    cases en
    exact ⟨Same.refl _, fun k hk => hk⟩
  . intro n
    show ExtS (none :: capS cap σ) (some (.int n) :: capS cap σ)
    exact ext_refl _
  . intro H' ys s hd al
    exact q D ys H' (s1.trans s) (s1.free hD) hd al
theorem lc_Z {Cs' : En -> Prop} (h : tXp K G (fun Z => (Cs Z /\ Cs' Z) /\ (gs Z).length <= 1000 /\ ∀ n m, (n, m) ∈ (gs Z).zip (hs Z) -> Cb (((capR (none :: none :: cap) Z).set 0 (.fr (.int n))).set 1 (.fr (.int m))))
      (fun Z => ((gs Z).zip (hs Z)).map fun p => gp (((capR (none :: none :: cap) Z).set 0 (.fr (.int p.1))).set 1 (.fr (.int p.2)))) σ H Q) :
    tLC (none :: none :: cap) (iZip K (tCons (tXr K G Cs fun Z => .ints (gs Z)) (tCons (tXr K G Cs' fun Z => .ints (hs Z)) tNil))) (gTup K 2 (gCons (gName 0) (gCons (gName 1) gNil))) noTest (tX K G Cb gp) σ H Q := by
  obtain ⟨B, Z, O, R, ⟨⟨c1, c1'⟩, c2, c3⟩, q⟩ := h
  refine ⟨B, Z, O, R, c1, fun v H1 s1 a1 => ⟨B, Z, O, R.grow s1, c1', fun u H2 s2 a2 => ?_⟩⟩
  obtain ⟨a, rfl, hq⟩ := a1
  obtain ⟨b, rfl, hq'⟩ := a2
  have hq1 : SqL K H2 a ((gs Z).map V.int) := .inl (same_rd s2 hq)
  have hq2 : SqL K H2 b ((hs Z).map V.int) := .inl hq'
  refine ⟨a, b, rfl, ⟨_, hq1⟩, ⟨_, hq2⟩, fun D hD => ?_⟩
  have hz : ((gs Z).zip (hs Z)).length = min (gs Z).length (hs Z).length := List.length_zip
  have at1 : ∀ i, i < ((gs Z).zip (hs Z)).length -> i < (gs Z).length /\ i < (hs Z).length := fun i h => by rw [hz] at h; omega
  refine lc_main ((gs Z).zip (hs Z)) (fun p _ => ((capS (none :: none :: cap) σ).set 0 (some (.int p.1))).set 1 (some (.int p.2))) (fun p => ((capR (none :: none :: cap) Z).set 0 (.fr (.int p.1))).set 1 (.fr (.int p.2))) (fun p => .int p.1) ((R.grow s1).grow s2) hD (by rw [hz]; omega)
    (fun i H hi s => ⟨_, _, .int ((gs Z)[i]'(at1 i hi).1), .int ((hs Z)[i]'(at1 i hi).2), s.seq hq1, s.seq hq2, by simp [(at1 i hi).1], by simp [(at1 i hi).2]⟩) ?_ (fun H s => ⟨_, _, s.seq hq1, s.seq hq2, by rw [hz, List.length_map, List.length_map]; omega⟩) (fun p H _ s R' => (R'.set (p := .int p.1) rfl).set (p := .int p.2) rfl) ?_ ?_ ?_
  . rintro i ⟨n, m⟩ x H H' en s ⟨T, y, y', rfl, hT, rfl, hx, hx'⟩
    obtain ⟨n', rfl, hn⟩ := int_at (hx _ (s.seq hq1))
    obtain ⟨m', rfl, hm⟩ := int_at (hx' _ (s.seq hq2))
    have en : (n', m') = (n, m) := by
      rw [List.getElem?_zip_eq_some] at en
      have e1 := en.1
      have e2 := en.2
      rw [hn] at e1
      rw [hm] at e2
      rw [Option.some.inj e1, Option.some.inj e2]
    cases en
    exact ⟨same_new hT _, fun kk hk => ⟨T, _, rfl, SqT.of upd_same, rfl, _, _, rfl, _, _, rfl, rfl, hk⟩⟩
  . rintro ⟨n, m⟩
    show ExtS (none :: none :: capS cap σ) (some (.int n) :: some (.int m) :: capS cap σ)
    exact ext_refl _
  . rintro ⟨n, m⟩ hm
    exact c3 n m hm
  . intro H' ys s hd al
    exact q D ys H' ((s1.trans s2).trans s) ((s1.trans s2).free hD) hd al
end
section
variable {X : Cx} {G : Gx} {Er : ER} {N' : List Str} {sc : Scope} {cl : List (Str × Addr)} {cap : List (Option Nat)} {el tg src tst l l2 : Expr} {at' spos px p pos' : Pos} {Cs Cs' Ct Cb : En -> Prop} {pt : En -> Prop} [∀ Z, Decidable (pt Z)] {gs hs : En -> List Int} {gi : En -> Int} {gp : En -> PV} {i : Nat} {x : Str}
theorem xl_lcLT (L : LcOk X N' sc cl (none :: cap)) (hc : X.calm = true) (hi : PE X src (tXr X.K G Cs fun Z => .ints (gs Z))) (hg : ∀ s H fp, PG (cxComp X N' sc cl s H fp) tg (gName 0)) (ht : ∀ s H fp, PT (cxComp X N' sc cl s H fp) tst (tXT X.K G Ct pt)) (he : ∀ s H fp, PE (cxComp X N' sc cl s H fp) el (tXI X.K G Cb gi)) (hs : ∀ x, foldedSetIterable src X.env x = pure x := by intro _; rfl) :
    PE X (.ListComp el [⟨tg, src, [tst], 0⟩] sc at') (tXl X.K G (fun Z => Cs Z /\ (gs Z).length <= 1000 /\ ∀ n ∈ gs Z, Ct ((capR (none :: cap) Z).set 0 (.fr (.int n))) /\ (pt ((capR (none :: cap) Z).set 0 (.fr (.int n))) -> Cb ((capR (none :: cap) Z).set 0 (.fr (.int n)))))
      fun Z => ((gs Z).filter fun n => decide (pt ((capR (none :: cap) Z).set 0 (.fr (.int n))))).map fun n => gi ((capR (none :: cap) Z).set 0 (.fr (.int n)))) :=
  fun pins s σ H Q I h => pe_lc L hc (pi_list hi) hg (fun s H fp => pts_one (ht s H fp)) he hs pins s σ H Q I (lc_LT (p_of_l h))
theorem xl_lcQ (L : LcOk X N' sc cl (none :: cap)) (hc : X.calm = true) (hi : PE X src (tXr X.K G Cs fun Z => .ints (gs Z))) (hg : ∀ s H fp, PG (cxComp X N' sc cl s H fp) tg (gName 0)) (he : ∀ s H fp, PE (cxComp X N' sc cl s H fp) el (tXI X.K G Cb gi)) (hs : ∀ x, foldedSetIterable src X.env x = pure x := by intro _; rfl) :
    PE X (.ListComp el [⟨tg, src, [], 0⟩] sc at') (tXl X.K G (fun Z => Cs Z /\ (gs Z).length <= 1000 /\ ∀ n ∈ gs Z, Cb ((capR (none :: cap) Z).set 0 (.fr (.int n)))) fun Z => (gs Z).map fun n => gi ((capR (none :: cap) Z).set 0 (.fr (.int n)))) :=
  fun pins s σ H Q I h => pe_lc L hc (pi_list hi) hg (fun _ _ _ => pts_nil) he hs pins s σ H Q I (lc_Q (p_of_l h))
theorem xl_lcZ {kk : Nat} {tp : Pos} {els : List Expr} (L : LcOk X N' sc cl (none :: none :: cap)) (hc : X.calm = true) (hgl : Gl X "zip") (hm : X.mg "zip" = none) (h1 : PE X l (tXr X.K G Cs fun Z => .ints (gs Z))) (h2 : PE X l2 (tXr X.K G Cs' fun Z => .ints (hs Z))) (hg : ∀ s H fp, PG (cxComp X N' sc cl s H fp) (.Tuple els kk tp) (gTup X.K 2 (gCons (gName 0) (gCons (gName 1) gNil)))) (he : ∀ s H fp, PE (cxComp X N' sc cl s H fp) el (tXI X.K G Cb gi))
    (hst : starEach [l, l2] X.env = (false, eval l X.env) :: starEach [l2] X.env := by rfl) (hst2 : starEach [l2] X.env = [(false, eval l2 X.env)] := by rfl) (hpl : (backTo pos' (starEach [l2] X.env)).any (·.1) = false := by rfl) (hfs : ∀ x, foldedSetIterable (.Call (.Name "zip" p) [l, l2] [] pos') X.env x = pure x := by intro _; rfl) :
    PE X (.ListComp el [⟨.Tuple els kk tp, .Call (.Name "zip" p) [l, l2] [] pos', [], 0⟩] sc at') (tXl X.K G (fun Z => (Cs Z /\ Cs' Z) /\ (gs Z).length <= 1000 /\ ∀ n m, (n, m) ∈ (gs Z).zip (hs Z) -> Cb (((capR (none :: none :: cap) Z).set 0 (.fr (.int n))).set 1 (.fr (.int m))))
      fun Z => ((gs Z).zip (hs Z)).map fun p => gi (((capR (none :: none :: cap) Z).set 0 (.fr (.int p.1))).set 1 (.fr (.int p.2)))) :=
  fun pins s σ H Q I h => pe_lc L hc (pi_zip hgl hm (pa_cons h1 (pa_cons h2 pa_nil hst2) hst) hst hpl) hg (fun _ _ _ => pts_nil) he hfs pins s σ H Q I (lc_Z (p_of_l h))
end
end L3
namespace L2
open PySem PySem.Spec PyProof.Rows PySem.W PySem.Calls
theorem wl_all : ∀ (ns : List Int), ∀ n ∈ ns, WData.weight (.int n) <= WData.weightAll (ns.map WData.int)
  | [], n, h => by cases h
  | m :: r, n, h => by
    rw [List.map_cons]
    simp only [WData.weightAll]
    rcases List.mem_cons.mp h with rfl | h
    . omega
    . have := wl_all r n h
      omega
theorem wl_bits {ns : List Int} (h : WData.layableAll [WData.list (ns.map WData.int)] = true) {n : Int} (hn : n ∈ ns) : Builtin.Int.intBits n <= 2 ^ 20 := by
  have h1 : WData.layable (WData.list (ns.map WData.int)) = true := List.all_eq_true.mp h _ List.mem_cons_self
  unfold WData.layable at h1
  rw [Bool.and_eq_true] at h1
  have h2 := of_decide_eq_true h1.2
  have h3 := wl_all ns n hn
  simp only [WData.weight] at h2 h3
  exact Nat.le_trans h3 h2
theorem walk_of2 {l : PySem.W.OpenLaw} {n k : Nat} {q : Program} {loose : List Str} {XP : (Str -> Option Value) -> Heap -> Prop} {YP : World -> Heap -> Prop} {d : DefRec} {K : Params -> PySem.W.Frag} {CX : World -> CXT} {sp : World -> Sp} {x : Str}
    (hn : l.most = some n) (hn2 : n <= sizeLine) (hdf : d.params.defaults = []) (hr : Room k callerA) (hY : ∀ (w : World) (h : Heap), YP w h -> (K w.params).In h)
    (F : ∀ (w : World) (mg : Str -> Option Value) (fa : Addr) (h : Heap), (K w.params).In h -> h.Ns mainGlobals mg -> mg d.name = some (.ref fa) ->
      ∃ fd : FuncData, (∀ (s : Shared) (u : Value), BindsTo s fd ⟨[u], []⟩ [(x, u)]) /\ ∀ base : Heap, (K w.params).In base -> base.Ns mainGlobals mg -> FnOk l.prog w (K w.params) mg base (CX w) k fa fd [x] (sp w))
    (hsp : ∀ (w : World) (H : Hp) (a : Addr) (ns : List Int), ns.length <= n -> (∀ m ∈ ns, Builtin.Int.intBits m <= 2 ^ 20) -> SqL (K w.params) H a (ns.map V.int) -> sp w [.ref a] H (fun v _ => v = .bl true) fun _ _ _ => False)
    (hCX : ∀ (w : World) (H : Hp) (s : Shared) (e : Value) (s' : Shared), CX w [] H s (fun _ _ _ => False) e s' -> False) : PySem.W.WalkO q loose XP YP l.row.toRowW d [] (fun f vs => PySem.call f vs) := by
  intro w s₀ s₁ mg mb G Y fa o pm cd doc dV kV ho hd hcd hD hmg hg args vals as hpre hlay hrd hwl hlo
  obtain rfl : dV = .none := Dflts.none hD hdf
  obtain rfl : kV = .none := Dflts.noKw hD
  obtain ⟨a, vs, ns, rfl, rfl, hobj, hints, hlen⟩ := Att.script_of hn hpre hwl
  have KX := hY w _ Y
  obtain ⟨fd, hb, hF⟩ := F w mg fa _ KX G.T.g hmg
  refine enter_call (codeAny_mono (law_call KX G.T.g G.T.b G.T.builtins G.T.nolimit hg hobj hints (Nat.le_trans hlen hn2) hr hF hb (fun H hO hS => hsp w H a ns hlen (fun m hm => wl_bits hlay hm) hS) fun H e s' => hCX w H s₁ e s') fun r s' hq => ?_)
  obtain ⟨rfl, h2, h3, h4⟩ := hq
  exact ⟨.inl ⟨.bool true, .bool true, [], rfl, fun _ => rfl, .bool true, Att.post_true l _, fun _ => ⟨List.Pairwise.nil, fun _ hm => (nomatch hm)⟩⟩, h2, h3, h4⟩
def spLaw2 (K : PySem.W.Frag) : Sp := fun vs H Q _ => ∃ (a : Addr) (ns : List Int), vs = [.ref a] /\ SqL K H a (ns.map V.int) /\ ns.length <= 63 /\ (∀ m ∈ ns, Builtin.Int.intBits m <= 2 ^ 20) /\ ∀ H', Q (.bl true) H'
end L2
namespace L3
open PySem PySem.Spec PyProof.Rows L2
theorem lawF2 {P : Program} {w : World} {K : PySem.W.Frag} {mg : Str -> Option Value} {base : Heap} {G : Gx} {k : Nat} {x : Str} {st : Stmt} {N : List Str} {f : Addr} {fd : FuncData} {y : Str} (F : Fun K x x st f fd) (S : FnScope N [y] (defScope st))
    (hbody : ∀ (cdv : Value) (A : Around) (outer : List Env) (s : Shared) (H : Hp) (E : XK), Room k (A.deeper (envOfC x (defScope st) s.heap.objs.size f cdv)) ->
      ∃ fs, PSs (cxOf CX0 P w K mg base N x (defScope st) f cdv A outer s H E).nox (defBody st) (ts K G ER0 fs) /\ ∀ ns : List Int, ns.length <= 63 -> (∀ m ∈ ns, Builtin.Int.intBits m <= 2 ^ 20) -> fs { nx := fun _ => False, rt := fun p => p = .bl true } (startR N [.scr ns])) : FnOk P w K mg base CX0 (k + 1) f fd [y] (spLaw2 K) := by
  refine F.ok S (fun vs H Q E h => ?_) fun cdv A outer s H vs Q E hr h => ?_
  . obtain ⟨a, ns, rfl, _⟩ := h
    rfl
  obtain ⟨a, ns, rfl, hS, hl, hb, q⟩ := h
  obtain ⟨fs, b, c⟩ := hbody cdv A outer s H E hr
  have al : AtL K G (mn H fun _ => false) [.scr ns] [.ref a] := ⟨_, _, rfl, ⟨a, rfl, by rw [mn_no]; exact hS⟩, rfl⟩
  refine ⟨_, b, ⟨H, fun _ => false⟩, startR N [.scr ns], _, ⟨_, rep_start (fun _ z => by cases z) al⟩, c ns hl hb, ⟨fun _ _ _ _ h => h.elim, fun v H' p s' a' h => ?_, fun _ _ _ _ _ _ h => h.elim, fun _ _ _ _ _ h => h.elim, fun _ _ _ _ h => h, fun _ _ _ _ h => h, fun _ _ _ h => h⟩⟩
  have h : p = .bl true := h
  subst h
  have a' : v = .bl true := a'
  subst a'
  exact q H'
end L3
namespace FM
open L2
structure Eu (n z b r sb s : Int) : Prop where
  r0 : 0 <= r
  rb : r < b
  bz : b <= z
  db : z ∣ b - sb * n
  dr : z ∣ r - s * n
  gc : Int.gcd b r = Int.gcd n z
  sg : (sb <= 0 /\ 0 <= s) \/ (0 <= sb /\ s <= 0)
  id : (s.natAbs : Int) * b + (sb.natAbs : Int) * r = z
end FM
namespace L2
open PySem PySem.Spec PyProof.Rows
end L2
namespace L3
open PySem PySem.Spec PyProof.Rows L2
inductive Rs where
  | val (p : PV) | err (C : Addr)
section
variable {X : Cx} {G : Gx} {E : XK} {e : Expr} {es : List Expr} {pos p cpos np pos' : Pos} {i j k : Nat} {x y : Str} {ps : List Str} {pre : List PV -> Prop} {C : En -> Prop} {gs : En -> List PV} {F : List PV -> Rs} {Cc : Addr}
def Rs.get : Rs -> PV
  | .val p => p
  | .err _ => .non
end
end L3
namespace L2
open PySem PySem.Spec PyProof.Rows
structure ErrK (K : PySem.W.Frag) (C : Addr) : Prop where
  hg : PySem.W.findIn K (.ref C) "__getattribute__" = some (some (.builtin "BaseException.__getattribute__"))
  hk : PySem.W.findIn K (.ref C) "__getattr__" = some none
  hb : PySem.W.mroIn K C (.type "BaseException") = some true
  hd : PySem.W.hasDictIn K C = true
  ha : PySem.W.findIn K (.ref C) "__class__" = some (some (.builtin "object.__class__"))
  hn : PySem.W.specialIn K (.builtin "object.__class__") "__get__" = some (some (.builtin "getset_descriptor.__get__"))
  htk : PySem.W.takesIn K (.builtin "object.__class__") = some true
  hm : PySem.W.mroIn K C (.type "object") = some true
end L2
namespace L3
open PySem PySem.Spec PyProof.Rows L2
end L3
namespace L2
open PySem PySem.Spec PyProof.Rows
def ItrS (lo c : Int) (n : Nat) : It := ⟨fun i _ => i < n, fun i H x H' => H' = H /\ x = .int (lo + i * c), fun i _ => n <= i⟩
theorem turn_rangeS {P : Program} {w : World} {K : PySem.W.Frag} {tg : Expr} (it : Addr) (lo c : Int) (n : Nat) : Turn P w K tg (ItrS lo c n) [it] it (fun i h => IsRangeIter h it (lo + (i : Nat) * c) ((n : Int) - (i : Nat)) c) where
  mem := by simp
  obj := fun i h st b hb => by
    have e : b = it := by simpa using hb
    subst e
    exact ⟨_, st, fun v z => by
      have z' : Data.fields _ = Data.cell v := z
      cases z'⟩
  keep := fun i h h' st k => k it (by simp) _ st
  item := by
    intro X hP hw hK hc i pins s σ H E I hf st hg
    subst hP hw hK
    obtain ⟨f0, f1, f2, f3, f4, f5⟩ := hf it (by simp)
    have W := Walks.range (prog := X.prog) (w := X.w) (I.ok.hd hc) it lo c n
    refine W.item i s _ _ hg st fun v h' tk hv st' kk => ?_
    obtain ⟨t, rfl⟩ := hv
    have I1 : Inv X pins σ H { s with heap := h', toks := tk } := I.turned (fun b o hb e => kk b o (by simpa using hb) e) f0 f1 f3 f4 f5
    exact ⟨_, rfl, go_of (s := { s with heap := h', toks := tk }) (n := "range_iterator") st' rfl rfl (by decide) ⟨.int (lo + i * c), H, I1, ⟨t, rfl⟩, ⟨rfl, rfl⟩, st', fun b hb => (hf b hb).1⟩⟩
  done := by
    intro X hP hw hK hc i pins s σ H E I hf st hg
    subst hP hw hK
    obtain ⟨f0, f1, f2, f3, f4, f5⟩ := hf it (by simp)
    exact wpAny_pyNext_range_end (I.ok.hd hc) st (by have : n <= i := hg; omega) fun h' eb => ⟨rfl, I.turned (t' := s.toks) (fun b o hb e => eb b o hb e) f0 f1 f3 f4 f5⟩
  self := fun _ _ _ _ _ st h => wpAny_pyIter_rangeiter st h
def rngN (lo hi c : Int) : Nat := if lo < hi then ((hi - lo - 1) / c + 1).toNat else 0
theorem rngN_size {lo hi c : Int} (hc : 0 < c) : ((rngN lo hi c : Nat) : Int) = Builtin.Range.rangeSize lo hi c := by
  unfold rngN Builtin.Range.rangeSize
  rw [if_pos hc]
  split
  . have : 0 <= (hi - lo - 1) / c := Int.ediv_nonneg (by omega) (by omega)
    omega
  . rfl
def iRng3 (ta : TA) : TI := fun σ H R => ta σ H fun vs H1 => ∃ i j c : Int, vs = [.int i, .int j, .int c] /\ (0 < c /\ c < 1000 /\ -(2 ^ 62) <= i /\ i < 2 ^ 62 /\ -(2 ^ 62) <= j /\ j < 2 ^ 62) /\ R (ItrS i c (rngN i j c)) H1
theorem pi_range3 {X : Cx} {tg a b c : Expr} {ta : TA} {p pos : Pos} (hg : Gl X "range") (hm : X.mg "range" = none) (ha : PA X [a, b, c] ta) (hs : starEach [a, b, c] X.env = (false, eval a X.env) :: starEach [b, c] X.env := by rfl) (hpl : (backTo pos (starEach [b, c] X.env)).any (·.1) = false := by rfl) :
    PI X tg (.Call (.Name "range" p) [a, b, c] [] pos) (iRng3 ta) := by
  intro pins s σ H R I h
  refine Call_ (ld_blt I hg hm boot_range (PyProof.Rows.callWith_type1 (thn (ha pos pins s σ H _ I h) fun us s1 ⟨vs, H1, I1, r1, q1⟩ => ?_) hs hpl))
  obtain ⟨i, j, k, e, ⟨k1, k2, l1, l2, l3, l4⟩, q⟩ := q1
  subst e
  cases r1 with
  | cons r rr =>
    cases rr with
    | cons r' rr =>
      cases rr with
      | cons r'' rr =>
        cases rr
        obtain ⟨t, rfl⟩ := r
        obtain ⟨t', rfl⟩ := r'
        obtain ⟨t'', rfl⟩ := r''
        refine call_range_3 (by omega) ?_ (.inl (PyProof.noPylong_small (by omega)))
        have sz := rngN_size (lo := i) (hi := j) k1
        have le : ((rngN i j k : Nat) : Int) < 2 ^ 63 := by
          unfold rngN
          split
          . have h1 : (j - i - 1) / k <= (j - i - 1) := Int.ediv_le_self _ (by omega)
            have h2 : 0 <= (j - i - 1) / k := Int.ediv_nonneg (by omega) (by omega)
            omega
          . decide
        refine wpAny_pyIter_range (IsRange.new ..) ?_ ?_
        . unfold Builtin.Range.small
          rw [<- sz]
          have fits : ∀ x : Int, -(2 ^ 63) <= x -> x < 2 ^ 63 -> Builtin.Range.rangeFitsLong x = true := fun x h1 h2 => by
            unfold Builtin.Range.rangeFitsLong
            rw [Bool.and_eq_true, decide_eq_true_eq, decide_eq_true_eq]
            exact ⟨h1, h2⟩
          have n0 : (0 : Int) <= ((rngN i j k : Nat) : Int) := Int.natCast_nonneg _
          generalize ((rngN i j k : Nat) : Int) = nn at *
          simp only [fits i (by omega) (by omega), fits j (by omega) (by omega), fits k (by omega) (by omega), fits nn (by omega) (by omega), fits (j + (k - 1)) (by omega) (by omega), Bool.and_true, Bool.true_and, Bool.or_true, if_pos (show k > 0 by omega)]
        have I2 : Inv X pins σ H1 { s1 with heap := s1.heap.push { cls := .type "range", data := .fields #[.int i t, .int j t', .int k t''] }, toks := s1.toks } := I1.kept fun b o e => Heap.get?_push_of_some _ e
        refine ⟨(s1.heap.push { cls := .type "range", data := .fields #[.int i t, .int j t', .int k t''] }).objs.size, [(s1.heap.push { cls := .type "range", data := .fields #[.int i t, .int j t', .int k t''] }).objs.size], _, _, H1, rfl,
          I2.kept (t' := s1.toks) fun b o e => Heap.get?_push_of_some _ e, turn_rangeS _ i k (rngN i j k), ?_, fun b hb => ?_, q⟩
        . show IsRangeIter _ _ (i + ((0 : Nat) : Int) * k) (((rngN i j k : Nat) : Int) - ((0 : Nat) : Int)) k
          rw [sz, show i + ((0 : Nat) : Int) * k = i by simp, show Builtin.Range.rangeSize i j k - ((0 : Nat) : Int) = Builtin.Range.rangeSize i j k by simp]
          exact Heap.get?_push_size _ rfl
        . have e : b = (s1.heap.push { cls := .type "range", data := .fields #[.int i t, .int j t', .int k t''] }).objs.size := by simpa using hb
          subst e
          exact I2.fpOk (Nat.le_refl _) (I2.hok.fresh (Nat.le_refl _))
theorem for_rangeS {g : TG} {tb : TS} {D : Ends} {lo c : Int} {n : Nat} {σ : St} {H : Hp} (Pv : Nat -> St -> Hp -> Prop) (h0 : Pv 0 σ H) (hs : ∀ i σ H, i < n -> Pv i σ H -> g (.int (lo + i * c)) σ H fun σ2 H2 => tb { D with nx := Pv (i + 1), ct := Pv (i + 1), bk := D.nx } σ2 H2) (hd : ∀ σ H, Pv n σ H -> D.nx σ H) :
    ∃ W : Nat -> Nat -> St -> Hp -> Prop, (∃ m, W 0 m σ H) /\ ∀ i m σ H, W i m σ H ->
      ((ItrS lo c n).stop i H /\ D.nx σ H) \/ ((ItrS lo c n).go i H /\ ∃ N : St -> Hp -> Prop, (∀ σ' H', N σ' H' -> ∃ m', m' < m /\ W (i + 1) m' σ' H') /\ ∀ x H', (ItrS lo c n).yld i H x H' -> g x σ H' fun σ2 H2 => tb { D with nx := N, ct := N, bk := D.nx } σ2 H2) := by
  refine ⟨fun i m σ H => m = n - i /\ i <= n /\ Pv i σ H, ⟨n, by simp, Nat.zero_le _, h0⟩, ?_⟩
  rintro i m σ H ⟨rfl, hi, p⟩
  by_cases hlt : i < n
  . refine .inr ⟨hlt, Pv (i + 1), fun σ' H' p' => ⟨n - (i + 1), by omega, rfl, hlt, p'⟩, fun x H' y => ?_⟩
    obtain ⟨rfl, rfl⟩ := y
    exact hs i σ _ hlt p
  . have e : i = n := by omega
    subst e
    exact .inl ⟨Nat.le_refl _, hd σ H p⟩
end L2
namespace L3
open PySem PySem.Spec PyProof.Rows L2
mutual
def dat : PV -> PyData
  | .int n => .int n
  | .bl b => .bool b
  | .non => .none
  | .str s => .str s
  | .ints ns => .list (ns.map PyData.int)
  | .lst xs => .list (dats xs)
  | .tup xs => .tuple (dats xs)
  | _ => .none
def dats : List PV -> List PyData
  | [] => []
  | p :: ps => dat p :: dats ps
end
mutual
def isDat : PV -> Prop
  | .int _ => True
  | .bl _ => True
  | .non => True
  | .str _ => True
  | .ints _ => True
  | .lst xs => areDat xs
  | .tup xs => areDat xs
  | _ => False
def areDat : List PV -> Prop
  | [] => True
  | p :: ps => isDat p /\ areDat ps
end
section
variable {X : Cx} {pins : List (Addr × Obj)} {σ : L2.St} {H : Hp} {s : Shared} {G : Gx}
mutual
theorem reads_at (I : Inv X pins σ H s) : ∀ (p : PV) (v : V) (u : Value), At X.K G H p v -> isDat p -> RelV v u -> ∃ as, Reads s.heap u (dat p) as
  | .int n, v, u, h, _, r => by
    have h : v = .int n := h
    subst h
    obtain ⟨t, rfl⟩ := r
    exact ⟨_, .int n t⟩
  | .bl b, v, u, h, _, r => by
    have h : v = .bl b := h
    subst h
    obtain rfl : u = .bool b := r
    exact ⟨_, .bool b⟩
  | .non, v, u, h, _, r => by
    have h : v = .non := h
    subst h
    obtain rfl : u = .none := r
    exact ⟨_, .none⟩
  | .str x, v, u, h, _, r => by
    have h : v = .str x := h
    subst h
    obtain ⟨t, rfl⟩ := r
    exact ⟨_, .str x t⟩
  | .ints ns, v, u, h, _, r => by
    obtain ⟨a, rfl, hr⟩ := h
    obtain rfl : u = .ref a := r
    obtain ⟨_, its, n, rv, _, e⟩ := Inv.lstR I hr
    exact ⟨_, reads_newData ⟨_, e, rfl, _, rfl⟩ (PySem.W.ke_carried (ints_are rv))⟩
  | .lst xs, v, u, h, d, r => by
    obtain ⟨a, vs, rfl, hr, al⟩ := h
    obtain rfl : u = .ref a := r
    obtain ⟨_, its, n, rv, _, e⟩ := Inv.lstR I hr
    obtain ⟨as, q⟩ := readsAll_at I xs vs its al d rv
    exact ⟨_, .list e rfl rfl q⟩
  | .tup xs, v, u, h, d, r => by
    obtain ⟨a, vs, rfl, hr, al⟩ := h
    obtain rfl : u = .ref a := r
    obtain ⟨_, its, rv, ⟨o, ho, hc, m, hd⟩⟩ := I.hok a _ hr
    obtain ⟨as, q⟩ := readsAll_at I xs vs its al d rv
    exact ⟨_, .tuple ho hc hd q⟩
  | .scr _, _, _, _, d, _ => d.elim
  | .ob _ _, _, _, _, d, _ => d.elim
  | .ty _, _, _, _, d, _ => d.elim
  | .cls _, _, _, _, d, _ => d.elim
theorem readsAll_at (I : Inv X pins σ H s) : ∀ (ps : List PV) (vs : List V) (us : List Value), AtL X.K G H ps vs -> areDat ps -> Vals vs us -> ∃ as, ReadsAll s.heap us (dats ps) as
  | [], vs, us, h, _, r => by
    have h : vs = [] := h
    subst h
    cases r
    exact ⟨_, .nil⟩
  | p :: ps, vs, us, h, d, r => by
    obtain ⟨v, t, rfl, h1, h2⟩ := h
    cases r with
    | cons r1 r2 =>
      obtain ⟨as, q⟩ := reads_at I p v _ h1 d.1 r1
      obtain ⟨bs, q2⟩ := readsAll_at I ps t _ h2 d.2 r2
      exact ⟨_, .cons q q2⟩
end
end
structure DatOk (p q : PV) : Prop where
  a : isDat p
  b : isDat q
  sa : SeqAt.shaped (dat p) = true
  sb : SeqAt.shaped (dat q) = true
  mix : SeqAt.noMix (dat p) (dat q) = true
def eqD (p q : PV) : Prop := PySem.Spec.same (dat p) (dat q) = true
instance (p q : PV) : Decidable (eqD p q) := inferInstanceAs (Decidable (_ = true))
section
variable {X : Cx} {G : Gx} {Er : ER} {a b : Expr} {pos : Pos} {Ca Cb : En -> Prop} {ga gb : En -> PV}
def rEqD (K : PySem.W.Frag) (G : Gx) (f : PV -> PV -> Bool) : R2 := fun x y H Q => ∃ p q, At K G H p x /\ At K G H q y /\ DatOk p q /\ Q (.bl (f p q)) H
theorem op_neD (hu : X.A.units + 64 < cLine) : OpR X (compareOp .NotEq) (rEqD X.K G fun p q => decide (¬ eqD p q)) := by
  intro pins s σ H x y v u Q I rx ry h
  obtain ⟨p, q, ap, aq, d, k⟩ := h
  obtain ⟨as, r1⟩ := reads_at I p x v ap d.a rx
  obtain ⟨bs, r2⟩ := reads_at I q y u aq d.b ry
  refine ne_dataH_same r1 r2 d.sa d.sb hu d.mix ⟨.bl _, H, I, rfl, ?_⟩
  have e : decide (eqD p q) = PySem.Spec.same (dat p) (dat q) := by unfold eqD; exact Bool.decide_eq_true
  have k : Q (.bl (decide (¬ eqD p q))) H := k
  rw [decide_not, e] at k
  exact k
theorem two_d {r : R2} {σ : L2.St} {H : Hp} {B : Bs} {Z : En} {O : Addr -> Bool} {Q : VK} (R : Rep X.K G B σ H Z O) (ca : Ca Z) (cb : Cb Z) (q : ∀ v u H1 H2, Same H H1 -> Same H1 H2 -> At X.K G H2 (ga Z) v -> At X.K G H2 (gb Z) u -> r v u H2 Q) :
    tOp r (tXr X.K G Ca ga) (tXr X.K G Cb gb) σ H Q :=
  ⟨B, Z, O, R, ca, fun v H1 s1 a1 => ⟨B, Z, O, R.grow s1, cb, fun u H2 s2 a2 => q v u H1 H2 s1 s2 (At.mono s2 _ _ a1) a2⟩⟩
theorem xt_neD (hu : X.A.units + 64 < cLine) (ha : PE X a (tXr X.K G Ca ga)) (hb : PE X b (tXr X.K G Cb gb)) : PT X (.Compare a [.NotEq] [b] pos) (tXT X.K G (fun Z => Ca Z /\ Cb Z /\ DatOk (ga Z) (gb Z)) fun Z => ¬ eqD (ga Z) (gb Z)) :=
  fun pins s σ H Q I ⟨_, _, _, R, c, q⟩ => pt_cmpR (op_neD (G := G) hu) ha hb (nomark _) pins s σ H Q I (two_d R c.1 c.2.1 fun v u _ H2 s1 s2 a1 a2 => ⟨_, _, a1, a2, c.2.2, _, rfl, q H2 (s1.trans s2)⟩)
end
theorem datOk2 (a b c d : List Int) : DatOk (.lst [.ints a, .ints b]) (.lst [.ints c, .ints d]) := by
  have sh : ∀ a b : List Int, SeqAt.shaped (dat (.lst [.ints a, .ints b])) = true := fun a b => by
    simp [dat, dats, SeqAt.shaped, PyData.canLay0, PyData.canLayAll0, PyData.depth, PyData.depthAll, PySem.W.ke_canLayAll0, PySem.W.ke_depthAll]
  have hs : ∀ a b : List Int, (Shape.list (.list .int)).has (dat (.lst [.ints a, .ints b])) = true := fun a b => by
    have h : ∀ l : List Int, (Shape.list .int).has (.list (l.map PyData.int)) = true := fun l => list_map_has fun _ => rfl
    simp only [dat, dats]
    simp only [Shape.has, List.all_cons, List.all_nil, Bool.and_true]
    have h1 := h a
    have h2 := h b
    simp only [Shape.has] at h1 h2
    rw [h1, h2]
    rfl
  exact ⟨⟨tT, tT, tT⟩, ⟨tT, tT, tT⟩, sh a b, sh c d, SeqAt.noMix_of_shape (.list (.list .int)) rfl _ _ (hs a b) (hs c d)⟩
theorem eqD2 (a b c d : List Int) : eqD (.lst [.ints a, .ints b]) (.lst [.ints c, .ints d]) ↔ a = c /\ b = d := by
  unfold eqD
  simp only [dat, dats, PySem.Spec.same, PySem.Spec.sameAll, PySem.W.ke_sameAll, Bool.and_true, Bool.and_eq_true, decide_eq_true_eq]
theorem xst_forR3 {X : Cx} {G : Gx} {Er : ER} {f : FS} {C Cb Cc : En -> Prop} {pos : Pos} {k : Nat} {x : Str} {a b c : Expr} {body : List Stmt} {g h st : En -> Int} {p px pos' : Pos} (hp : PassesOwn (model X.prog X.w) X.A X.env X.xe) (hc : X.calm = true) (hg : Gl X "range") (hm : X.mg "range" = none) (ha : PE X a (tXI X.K G C g)) (hb' : PE X b (tXI X.K G Cb h)) (hc' : PE X c (tXI X.K G Cc st)) (hN : X.N.Nodup) (hi : X.N[k]? = some x) (hx : Loc X.env.scope x)
    (hb : PSs X body (ts X.K G Er f)) (hs : starEach [a, b, c] X.env = (false, eval a X.env) :: starEach [b, c] X.env := by rfl) (hs2 : starEach [b, c] X.env = (false, eval b X.env) :: starEach [c] X.env := by rfl) (hs3 : starEach [c] X.env = [(false, eval c X.env)] := by rfl) (hpl : (backTo pos' (starEach [b, c] X.env)).any (·.1) = false := by rfl) (hfs : ∀ x, foldedSetIterable (.Call (.Name "range" p) [a, b, c] [] pos') X.env x = pure x := by intro _; rfl)
    (hf : X.fn x = true \/ X.env.scope.names.lookup x = some .local := by first | exact .inl rfl | exact .inr rfl | assumption) :
    PS X (.For (.Name x px) (.Call (.Name "range" p) [a, b, c] [] pos') body [] pos) (ts X.K G Er fun P Z => (C Z /\ Cb Z /\ Cc Z) /\ (0 < st Z /\ st Z < 1000 /\ -(2 ^ 62) <= g Z /\ g Z < 2 ^ 62 /\ -(2 ^ 62) <= h Z /\ h Z < 2 ^ 62) /\
      ∃ W : Nat -> En -> Prop, W 0 Z /\ (∀ i Z', i < rngN (g Z) (h Z) (st Z) -> W i Z' -> f { P with nx := W (i + 1), ct := W (i + 1), bk := P.nx } (Z'.set k (.fr (.int (g Z + i * st Z))))) /\ ∀ Z', W (rngN (g Z) (h Z) (st Z)) Z' -> P.nx Z') :=
  toS (ps_for hp hc (pi_range3 hg hm (pa_cons ha (pa_cons hb' (pa_cons hc' pa_nil hs3) hs2) hs) hs hpl) (pg_name hN hi hx hf) hb hfs) fun B σ H Z O P D R cc w => by
    obtain ⟨⟨c1, c2, c3⟩, l, W, w0, stp, nd⟩ := cc
    refine ⟨B, Z, O, R, c1, fun v H1 s1 a1 => ⟨B, Z, O, R.grow s1, c2, fun u H2 s2 a2 => ⟨B, Z, O, (R.grow s1).grow s2, c3, fun t H3 s3 a3 => ?_⟩⟩⟩
    have a1 : v = .int (g Z) := a1
    have a2 : u = .int (h Z) := a2
    have a3 : t = .int (st Z) := a3
    subst a1 a2 a3
    refine ⟨g Z, h Z, st Z, rfl, l, for_rangeS (fun i σ H => ∃ Z', RepE X.K G B σ H Z' /\ W i Z') ⟨Z, ⟨O, ((R.grow s1).grow s2).grow s3⟩, w0⟩ ?_ ?_⟩
    . rintro i σ H hi ⟨Z', ⟨O', R'⟩, hw⟩
      exact ⟨B, _, _, ⟨O', R'.set (p := .int _) rfl⟩, stp i Z' hi hw, ⟨fun σ' H' Z' R' h => ⟨Z', R', h⟩, w.rt, w.rl, w.rn, w.nx, fun σ' H' Z' R' h => ⟨Z', R', h⟩, w.er⟩⟩
    . rintro σ H ⟨Z', R', hw⟩
      exact w.nx σ H Z' R' (nd Z' hw)
section
variable {X : Cx} {G : Gx} {Er : ER} {E : XK} {e : Expr} {es : List Expr} {pos p pos' : Pos} {i j k l : Nat} {x y n : Str} {ps : List Str} {pre : List PV -> Prop} {C : En -> Prop} {gs : En -> List PV} {g : En -> PV} {F : List PV -> Rs} {FE : En -> Rs} {Cc Cl : Addr} {px py pn hp p1 p2 : Pos}
def isNonP : PV -> Bool
  | .non => true
  | _ => false
def nonOr : PV -> Prop
  | .non => True
  | .ob _ _ => True
  | .ints _ => True
  | _ => False
theorem xt_isN {k2 : Nat} (he : PE X e (tX X.K G C g)) : PT X (.Compare e [.Is] [.Constant .none k2 p] pos) (tXT X.K G (fun Z => C Z /\ nonOr (g Z)) fun Z => isNonP (g Z) = true) :=
  fun pins s σ H Q I ⟨B, Z, O, R, c, q⟩ => pt_cmpR op_isN he pe_non (nomark _) pins s σ H Q I ⟨B, Z, O, R, c.1, fun v H1 s1 a1 => ⟨rfl, _, rfl, by
    have z := q H1 s1
    have key : decide (v = V.non) = decide (isNonP (g Z) = true) := by
      have h := c.2
      revert a1 h
      generalize g Z = pg
      intro a1 h
      cases pg <;> first | exact h.elim | skip
      . have a1 : v = .non := a1
        rw [a1]; rfl
      . obtain ⟨a, rfl, _⟩ := a1
        rfl
      . obtain ⟨a, rfl, _⟩ := a1
        rfl
    rw [key]
    exact z⟩⟩
end
end L3
namespace L2
open PySem PySem.Spec PyProof.Rows
end L2
namespace L3
open PySem PySem.Spec PyProof.Rows L2
end L3
namespace L2
open PySem PySem.Spec PyProof.Rows
end L2
namespace L3
open PySem PySem.Spec PyProof.Rows L2
end L3
namespace L2
open PySem PySem.Spec PyProof.Rows
end L2
namespace L3
open PySem PySem.Spec PyProof.Rows L2
end L3
namespace L2
open PySem PySem.Spec PyProof.Rows
end L2
namespace L3
open PySem PySem.Spec PyProof.Rows L2
end L3
namespace L2
open PySem PySem.Spec PyProof.Rows
end L2
namespace L3
open PySem PySem.Spec PyProof.Rows L2
section
variable {X : Cx} {G : Gx} {Er : ER} {f : FS} {a b c e : Expr} {pos p : Pos} {C Ca Cb Cc Cs : En -> Prop} {ga gb gs : En -> Str} {gi gj gk : En -> Int} {g : En -> PV} {i k : Nat} {x : Str}
def fstP : PV -> PV
  | .tup [a, _] => a
  | _ => .non
def sndP : PV -> PV
  | .tup [_, b] => b
  | _ => .non
def isPair (q : PV) : Prop := q = .tup [fstP q, sndP q]
end
def isGo (q : PV) : Prop := ∃ g o, q = .tup [.ints g, .int o]
end L3
namespace L2
open PySem PySem.Spec PyProof.Rows
end L2
namespace L3
open PySem PySem.Spec PyProof.Rows L2
section
variable {X : Cx} {G : Gx} {Er : ER} {a b c e : Expr} {pos p : Pos} {C Ca : En -> Prop} {gl : En -> List Int} {g : En -> PV} {gp : En -> List PV} {i : Nat} {x : Str} {px pa pc : Pos}
def isOP (Z : En) (i : Nat) : Prop := Z[i]? = some (.ow (.lst (pvP (getP Z i))))
theorem xst_appP (i : Nat) {x : Str} (he : PE X e (tX X.K G C g)) (hN : X.N[i]? = some x := by rfl) (hv : Vis X.env.scope x := by first | exact Or.inl rfl | exact Or.inr (Or.inl rfl) | exact Or.inr (Or.inr rfl))
    (hd : (x == ("__debug__" : Str)) = false := by decide) (hcd : (x == ("__classdict__" : Str)) = false := by decide)
    (hbase : attributeBase (.Name x px) "append" X.env (eval (.Name x px) X.env) = eval (.Name x px) X.env := by rfl)
    (hfew : ((backTo pc (starEach (e :: []) X.env)).all (fun x => !x.1) && (backToKw pc (keywordEach [] X.env)).all (fun x => x.1.isSome)
      && decide ((e :: []).length + ([] : List Keyword).length + (if ([] : List Keyword).isEmpty then 0 else 1) < 30)) = true := by rfl)
    (hline : (pa.endLine == pc.line) = true := by rfl) (hs : starEach (e :: []) X.env = (false, eval e X.env) :: starEach [] X.env := by rfl) (hplain : (backTo pc (starEach [] X.env)).any (·.1) = false := by rfl)
    (hsw : swapsWith (.Call (.Attribute (.Name x px) "append" pa) [e] [] pc) none pos.line X.env = pure false := by rfl) :
    PS X (.Expr (.Call (.Attribute (.Name x px) "append" pa) [e] [] pc) pos) (ts X.K G Er fun P Z => isOP Z i /\ C Z /\ (pvP (getP Z i)).length < sizeLine /\ P.nx (Z.set i (.ow (.lst (pvP (getP Z i) ++ [g Z]))))) :=
  toS (ps_expr (pe_bm PySem.F.plainAttrs_list PySem.F.slot_list_append PySem.F.type_list_append mt_append (pe_var hN hv hd hcd) (pa_cons he pa_nil hs) hbase hfew hline hs hplain) hsw) fun B σ H Z O P D R c w => by
    obtain ⟨c0, c1, c2, c3⟩ := c
    obtain ⟨a, vs, e1, e2, e3, e4, e5⟩ := R.ow i _ c0
    have e5 : AtL X.K G (mn H O) (pvP (getP Z i)) vs := e5
    have el := e5.length
    refine ⟨_, e1, .inl ⟨rfl, _, SqL.of e4⟩, B, Z, O, R, c1, fun v H1 s1 a1 => ?_⟩
    refine ⟨a, _, _, rfl, rfl, s1 _ _ e4, by rw [<- el]; exact c2, w.nx σ _ _ ⟨O, (R.grow s1).change c0 e1 (p' := .lst (pvP (getP Z i) ++ [g Z])) ?_⟩ c3⟩
    show AtL X.K G (mn H1 O) (pvP (getP Z i) ++ [g Z]) _
    exact AtL.snoc (AtL.mono (mn_same s1) _ _ e5) a1
end
section
variable {X : Cx} {G : Gx} {Er : ER} {a b e : Expr} {pos p px : Pos} {C Ca Cb : En -> Prop} {gb : En -> Int} {g : En -> PV} {gp : En -> List PV} {i : Nat} {x : Str}
theorem xp_itemO (i : Nat) {x : Str} (hb : PE X b (tXI X.K G Cb gb)) (hs : PlainIx b) (hN : X.N[i]? = some x := by rfl) (hv : Vis X.env.scope x := by first | exact Or.inl rfl | exact Or.inr (Or.inl rfl) | exact Or.inr (Or.inr rfl))
    (hd : (x == ("__debug__" : Str)) = false := by decide) (hcd : (x == ("__classdict__" : Str)) = false := by decide) :
    PE X (.Subscript (.Name x px) b pos) (tX X.K G (fun Z => isOP Z i /\ Cb Z /\ -((pvP (getP Z i)).length : Int) <= gb Z /\ gb Z < ((pvP (getP Z i)).length : Int)) fun Z => (pvP (getP Z i)).getD (ixO (pvP (getP Z i)).length (gb Z)) .non) :=
  toX (pe_ix ix_list (pe_var hN hv hd hcd) hb hs) fun B σ H Z O Q R c q => by
    obtain ⟨l, vs, e1, e2, e3, e4, e5⟩ := R.ow i _ c.1
    have e5 : AtL X.K G (mn H O) (pvP (getP Z i)) vs := e5
    refine ⟨_, e1, B, Z, O, R, c.2.1, fun u H1 s1 a1 => ?_⟩
    obtain ⟨v', e', a'⟩ := (AtL.mono (mn_same s1) _ _ e5).item c.2.2.1 c.2.2.2
    exact ⟨l, vs, _, v', rfl, a1, s1.seq (SqL.of e4), e', q _ H1 s1 a'⟩
end
def KR (cR : Addr) (H : Hp) (a : Addr) (z : Int) : Prop := 0 < z /\ ∃ dx fs, H a = some (.ins cR dx fs) /\ fs.lookup ("size" : Str) = some (.int z) /\ ∀ m ∈ kMeths, fs.lookup m = none
def tabP (t : List (List Int)) : PV := .lst (t.map PV.ints)
end L3
namespace L3
open PySem L2 PyProof.Rows
end L3
namespace L2
open PySem PySem.Spec PyProof.Rows
end L2
namespace L3
open PySem PySem.Spec PyProof.Rows L2
end L3
namespace K62
open PySem L2 L3 PyProof.Rows FM
abbrev s_cut_noughts : Stmt := top 5
theorem sc_cut_noughts : FnScope ["numbers"] ["numbers"] (defScope s_cut_noughts) := ⟨rfl, rfl, rfl, by decide +kernel, rfl, by decide +kernel, by decide +kernel⟩
abbrev s_trimmed : Stmt := top 6
theorem sc_trimmed : FnScope ["kind", "f", "numbers"] ["kind", "f"] (defScope s_trimmed) := ⟨rfl, rfl, rfl, by decide +kernel, rfl, by decide +kernel, by decide +kernel⟩
abbrev s_common_divisor : Stmt := top 8
theorem sc_common_divisor : FnScope ["a", "b", "before", "rest", "behind"] ["a", "b"] (defScope s_common_divisor) := ⟨rfl, rfl, rfl, by decide +kernel, rfl, by decide +kernel, by decide +kernel⟩
abbrev s_bared : Stmt := top 9
theorem sc_bared : FnScope ["f", "whole", "content", "number"] ["f"] (defScope s_bared) := ⟨rfl, rfl, rfl, by decide +kernel, rfl, by decide +kernel, by decide +kernel⟩
abbrev s_steps : Stmt := top 10
theorem sc_steps : FnScope ["f", "c", "rest", "divisor", "lead", "quotient", "often", "taken"] ["f", "c"] (defScope s_steps) := ⟨rfl, rfl, rfl, by decide +kernel, rfl, by decide +kernel, by decide +kernel⟩
abbrev s_whole_common : Stmt := top 11
theorem sc_whole_common : FnScope ["f", "g", "before", "rest", "behind"] ["f", "g"] (defScope s_whole_common) := ⟨rfl, rfl, rfl, by decide +kernel, rfl, by decide +kernel, by decide +kernel⟩
abbrev s_cell_at : Stmt := top 13
theorem sc_cell_at : FnScope ["_law_script", "_law_k"] ["_law_script", "_law_k"] (defScope s_cell_at) := ⟨rfl, rfl, rfl, by decide +kernel, rfl, by decide +kernel, by decide +kernel⟩
abbrev s_whole : Stmt := top 14
theorem sc_whole : FnScope ["_law_found"] ["_law_found"] (defScope s_whole) := ⟨rfl, rfl, rfl, by decide +kernel, rfl, by decide +kernel, by decide +kernel⟩
abbrev s_divisor : Stmt := top 15
theorem sc_divisor : FnScope ["_law_one", "_law_other", "_law_rest"] ["_law_one", "_law_other"] (defScope s_divisor) := ⟨rfl, rfl, rfl, by decide +kernel, rfl, by decide +kernel, by decide +kernel⟩
abbrev s_form : Stmt := top 16
theorem sc_form : FnScope ["_law_row_here"] ["_law_row_here"] (defScope s_form) := ⟨rfl, rfl, rfl, by decide +kernel, rfl, by decide +kernel, by decide +kernel⟩
abbrev s_times : Stmt := top 17
theorem sc_times : FnScope ["_law_one", "_law_other", "_law_row_here", "_law_i", "_law_k"] ["_law_one", "_law_other"] (defScope s_times) := ⟨rfl, rfl, rfl, by decide +kernel, rfl, by decide +kernel, by decide +kernel⟩
abbrev s_goes : Stmt := top 18
theorem sc_goes : FnScope ["_law_f", "_law_by", "_law_left", "_law_found", "_law_at", "_law_k"] ["_law_f", "_law_by"] (defScope s_goes) := ⟨rfl, rfl, rfl, by decide +kernel, rfl, by decide +kernel, by decide +kernel⟩
abbrev s_number_by : Stmt := top 19
theorem sc_number_by : FnScope ["_law_cell", "_law_way"] ["_law_cell", "_law_way"] (defScope s_number_by) := ⟨rfl, rfl, rfl, by decide +kernel, rfl, by decide +kernel, by decide +kernel⟩
abbrev s_row : Stmt := top 20
theorem sc_row : FnScope ["_law_script", "_law_at", "_law_many", "_law_way", "_law_row_here", "_law_k", "_law_place"] ["_law_script", "_law_at", "_law_many", "_law_way"] (defScope s_row) := ⟨rfl, rfl, rfl, by decide +kernel, rfl, by decide +kernel, by decide +kernel⟩
abbrev s_long : Stmt := top 21
theorem sc_long : FnScope ["_law_script", "_law_at", "_law_many"] ["_law_script", "_law_at", "_law_many"] (defScope s_long) := ⟨rfl, rfl, rfl, by decide +kernel, rfl, by decide +kernel, by decide +kernel⟩
abbrev s_bare : Stmt := top 22
theorem sc_bare : FnScope ["_law_row_here", "_law_content", "_law_number"] ["_law_row_here"] (defScope s_bare) := ⟨rfl, rfl, rfl, by decide +kernel, rfl, by decide +kernel, by decide +kernel⟩
abbrev s_law : Stmt := top 23
theorem sc_law : FnScope ["_law_script", "_law_way", "_law_rows", "_law_at", "_law_many", "_law_f", "_law_g", "_law_tail", "_law_handed", "_law_found", "_law_turn"] ["_law_script"] (defScope s_law) := ⟨rfl, rfl, rfl, by decide +kernel, rfl, by decide +kernel, by decide +kernel⟩
abbrev s_Kind_init : Stmt := inClass (top 2) 0
theorem sc_Kind_init : FnScope ["self", "size"] ["self", "size"] (defScope s_Kind_init) := ⟨rfl, rfl, rfl, by decide +kernel, rfl, by decide +kernel, by decide +kernel⟩
abbrev s_Wholes_init : Stmt := inClass (top 3) 0
theorem sc_Wholes_init : FnScope ["self"] ["self"] (defScope s_Wholes_init) := ⟨rfl, rfl, rfl, by decide +kernel, rfl, by decide +kernel, by decide +kernel⟩
abbrev s_Wholes_plain : Stmt := inClass (top 3) 1
theorem sc_Wholes_plain : FnScope ["self", "number"] ["self", "number"] (defScope s_Wholes_plain) := ⟨rfl, rfl, rfl, by decide +kernel, rfl, by decide +kernel, by decide +kernel⟩
structure Top (K : W.Frag) (mg : Str -> Option Value) (cK : Addr) (cW : Addr) : Prop where
  d_cut_noughts : Def K mg "cut_noughts" s_cut_noughts ["numbers"]
  d_trimmed : Def K mg "trimmed" s_trimmed ["kind", "f"]
  d_common_divisor : Def K mg "common_divisor" s_common_divisor ["a", "b"]
  d_bared : Def K mg "bared" s_bared ["f"]
  d_steps : Def K mg "steps" s_steps ["f", "c"]
  d_whole_common : Def K mg "whole_common" s_whole_common ["f", "g"]
  d_cell_at : Def K mg "_law_cell_at" s_cell_at ["_law_script", "_law_k"]
  d_whole : Def K mg "_law_whole" s_whole ["_law_found"]
  d_divisor : Def K mg "_law_divisor" s_divisor ["_law_one", "_law_other"]
  d_form : Def K mg "_law_form" s_form ["_law_row_here"]
  d_times : Def K mg "_law_times" s_times ["_law_one", "_law_other"]
  d_goes : Def K mg "_law_goes" s_goes ["_law_f", "_law_by"]
  d_number_by : Def K mg "_law_number_by" s_number_by ["_law_cell", "_law_way"]
  d_row : Def K mg "_law_row" s_row ["_law_script", "_law_at", "_law_many", "_law_way"]
  d_long : Def K mg "_law_long" s_long ["_law_script", "_law_at", "_law_many"]
  d_bare : Def K mg "_law_bare" s_bare ["_law_row_here"]
  b_len : mg "len" = none
  b_range : mg "range" = none
  b_isinstance : mg "isinstance" = none
  b_bool : mg "bool" = none
  b_int : mg "int" = none
  b_list : mg "list" = none
  b_abs : mg "abs" = none
  b_min : mg "min" = none
  b_max : mg "max" = none
  b_zip : mg "zip" = none
  i_int_int : W.kitOne K (.type "int") (.type "int") = some true
  i_int_bool : W.kitOne K (.type "int") (.type "bool") = some false
  i_list_list : W.kitOne K (.type "list") (.type "list") = some true
  m_Kind : mg "Kind" = some (.ref cK)
  m_Wholes : mg "Wholes" = some (.ref cW)
  cl_Wholes : Cls K cW
  na_Wholes_size : NoAttr K cW "size"
  f_Kind_init : ∃ f fd, Fun K "__init__" "Kind.__init__" s_Kind_init f fd /\ Binds K fd ["self", "size"] [] /\ ClsFn K cK "__init__" f
  f_Wholes_init : ∃ f fd, Fun K "__init__" "Wholes.__init__" s_Wholes_init f fd /\ Binds K fd ["self"] [] /\ Mk K cW f
  f_Wholes_plain : ∃ f fd, Fun K "plain" "Wholes.plain" s_Wholes_plain f fd /\ Binds K fd ["self", "number"] [] /\ Meth K cW "plain" f
local macro_rules | `(tactic| walk_at "pn0") => `(tactic| first | omega | (dsimp only; omega) | (dsimp only [List.length_cons, List.length_nil]; omega) | (simp [L2.gI, L2.start] <;> omega))
local macro_rules | `(tactic| walk_at "pn1") => `(tactic| first | exact tT | rfl | assumption | decide | decide +kernel | exact L2.mul_okR (by decide) | exact L2.mul_okL (by decide) | exact ⟨by decide, by decide +kernel⟩ | exact ⟨by decide, by decide, by decide⟩ | walk_at "pn0" | exact L2.mul_okR ⟨by walk_at "pn0", by walk_at "pn0"⟩ | exact L2.mul_okL ⟨by walk_at "pn0", by walk_at "pn0"⟩)
local macro_rules | `(tactic| walk_at "pn") => `(tactic| first | (refine ⟨?_, ?_⟩ <;> walk_at "pn") | walk_at "pn1" | (intro _; walk_at "pn"))
local macro_rules | `(tactic| walk_at "xs1") => `(tactic| first | exact tT | exact (rfl : _ = some _) | exact (rfl : L3.isI _ _) | exact (rfl : L3.isL _ _) | exact (rfl : L3.isF _ _) | exact (rfl : L3.isK _ _) | exact (rfl : L3.isO _ _) | exact (Or.inl rfl : L3.isLO _ _) | exact (Or.inr (Or.inl rfl) : L3.isLO _ _) | exact (Or.inr (Or.inr rfl) : L3.isLO _ _) | walk_at "pn1")
local macro_rules | `(tactic| walk_at "xs") => `(tactic| first | (refine And.intro ?_ ?_ <;> walk_at "xs") | walk_at "xs1")
section
variable {P : Program} {w : World} {K : PySem.W.Frag} {mg : Str -> Option Value} {base : Heap} {cK cW : Addr}
def spKInit (K : PySem.W.Frag) : Sp := fun vs H Q _ => ∃ (p C dx : Addr) (z : Int), vs = [.ref p, .int z] /\ H p = some (.ins C dx []) /\ Cls K C /\ NoAttr K C "size" /\ Q .non (upd H p (.ins C dx [("size", .int z)]))
theorem oc_Kind_init (T : Top K mg cK cW) : OkC P w K mg base CX0 1 "Kind" cK "__init__" ["self", "size"] (spKInit K) := by
  obtain ⟨f, fd, F, b, c⟩ := T.f_Kind_init
  refine ⟨f, fd, F.ok sc_Kind_init (fun vs H Q E h => ?_) (fun cdv A outer s H vs Q E hr h => ?_), b, c, T.m_Kind⟩
  . obtain ⟨p, C, dx, z, rfl, _⟩ := h
    rfl
  obtain ⟨p, C, dx, z, rfl, hp, cl, na, k⟩ := h
  refine ⟨_, (pss_one (ps_fld (pv 0) (pn_var 1) rfl)), ?_⟩
  exact ⟨rfl, _, rfl, p, C, dx, [], rfl, hp, cl, na, by decide, k⟩
theorem oi_Wholes (T : Top K mg cK cW) : OkI P w K mg base CX0 2 "Wholes" cW ["self"] (spNewW cW) := by
  obtain ⟨f, fd, F, b, c⟩ := T.f_Wholes_init
  refine ⟨f, fd, F.ok sc_Wholes_init (fun vs H Q E h => ?_) (fun cdv A outer s H vs Q E hr h => ?_), b, c, T.m_Wholes⟩
  . obtain ⟨p, dx, rfl, _⟩ := h
    rfl
  obtain ⟨p, dx, rfl, hp, k⟩ := h
  refine ⟨_, (pss_one (ps_expr (pe_clsO (oc_Kind_init T) hr pass0 (pa_cons (pv 0) (pa_cons pn_int pa_nil))))), ?_⟩
  exact ⟨_, rfl, tT, p, cW, dx, 0, rfl, hp, T.cl_Wholes, T.na_Wholes_size, k⟩
def F_plain : Int -> List Int -> Int := fun z ns => match ns with
  | [n] => pl z n
  | _ => 0
abbrev anyK : Int -> List Int -> Prop := fun _ _ => True
theorem km_plain (T : Top K mg cK cW) : KM P w K mg base 1 (KW cW) "plain" 1 anyK F_plain := by
  refine ⟨fun H a z ka => ?_⟩
  obtain ⟨q0, dx, fs, e, hz, hm⟩ := ka
  subst q0
  refine ⟨cW, dx, fs, ["self", "number"], e, hm "plain" (by decide +kernel), ?_⟩
  obtain ⟨f, fd, F, b, m1⟩ := T.f_Wholes_plain
  refine ⟨f, fd, F.ok sc_Wholes_plain (fun vs H Q E h => ?_) (fun cdv A outer s H vs Q E hr h => ?_), b, m1, T.cl_Wholes⟩
  . obtain ⟨ns, hl, rfl, _⟩ := h
    show (ns.map V.int).length + 1 = 2
    rw [List.length_map, hl]
  . obtain ⟨ns, hl, rfl, _, _, k⟩ := h
    obtain ⟨n, rfl⟩ := len1 hl
    refine ⟨_, (pss_one (ps_ret (pn_var 1))), ?_⟩
    exact ⟨rfl, k⟩
def preCell : List Int -> List Int -> Prop := fun _ is => match is with
  | [k] => 0 <= k
  | _ => False
def F_cell : List Int -> List Int -> Int := fun xs is => match is with
  | [k] => xs.getD k.toNat 0
  | _ => 0
theorem ok_cell_at (T : Top K mg cK cW) : Ok P w K mg base 1 "_law_cell_at" ["_law_script", "_law_k"] (spS K 1 preCell F_cell) := by
  refine Def.ok T.d_cell_at sc_cell_at (fun vs H Q E h => ?_) (fun f cdv A outer s H vs Q E hr h => ?_)
  . obtain ⟨a, xs, is, hl, rfl, _⟩ := h
    show (is.map V.int).length + 1 = 2
    rw [List.length_map, hl]
  obtain ⟨sa, ns, is, hl, rfl, hS, hp, k⟩ := h
  obtain ⟨i, rfl⟩ := len1 hl
  have hp : 0 <= i := hp
  have k : Q (.int (ns.getD i.toNat 0)) H := k
  refine ⟨_, (pss_cons (ps_ifP (ptn_lt (pn_var 1) (pn_len 0 sa (ns.map V.int) T.b_len))
 (pss_one (ps_ret (pn_item 0 sa ns (pn_var 1) (fun _ _ => rfl))))
 pss_nil)
 (pss_one (ps_ret pn_int))), ?_⟩
  have el : (ns.map V.int).length = ns.length := List.length_map _
  refine ⟨⟨rfl, ⟨rfl, hS⟩⟩, fun q => ?_, fun q => ?_⟩
  . have q : i < ((ns.map V.int).length : Int) := q
    refine ⟨⟨rfl, rfl, hS, ?_, ?_⟩, ?_⟩
    . show -(ns.length : Int) <= i
      omega
    . show i < (ns.length : Int)
      omega
    . show Q (.int (ns.getD (if 0 <= i then i else i + ns.length).toNat 0)) H
      rw [if_pos hp]
      exact k
  . have q : ¬ i < ((ns.map V.int).length : Int) := q
    have e : ns.getD i.toNat 0 = 0 := by
      rw [gQ, List.getElem?_eq_none (by omega)]; rfl
    rw [e] at k
    exact ⟨tT, k⟩
theorem kx_cell_at (T : Top K mg cK cW) : Ok P w K mg base 1 "_law_cell_at" ["_law_script", "_law_k"] (spFI K (GkW cW) (L3.preS 1 preCell) fun as => F_cell (scrI as) (allI as.tail)) := liftS (ok_cell_at T)
theorem kx_whole (T : Top K mg cK cW) : Ok P w K mg base 1 "_law_whole" ["_law_found"] (spFB K (GkW cW) (fun as => ∃ n, as = [.int n]) fun _ => true) := by
  refine okF T.d_whole sc_whole (fun as ⟨c, h⟩ => by rw [h]; rfl) (fun f cdv A outer s H E hr => ⟨_, (xss_one (xst_ret (xe_and (xe_isinst T.b_isinstance (xv 0) (xv_bltn (by rfl) T.b_int bt_int)) (pe_one (xe_not (xe_isinst T.b_isinstance (xv 0) (xv_bltn (by rfl) T.b_bool bt_bool))))))), fun as hp => ?_⟩)
  obtain ⟨n, rfl⟩ := hp
  have h1 : instP K (.int n) (.ty "int") = true := instP_of rfl rfl T.i_int_int
  have h2 : instP K (.int n) (.ty "bool") = false := instP_of rfl rfl T.i_int_bool
  refine ⟨⟨⟨rfl, tT, _, _, _, rfl, rfl, T.i_int_int⟩, fun _ => ⟨rfl, tT, _, _, _, rfl, rfl, T.i_int_bool⟩⟩, ?_⟩
  show PV.bl (decide (instP K (.int n) (.ty "int") = true /\ ¬ instP K (.int n) (.ty "bool") = true)) = PV.bl true
  rw [h1, h2]
  rfl
theorem trimZ_step {ns : List Int} (h : ns ≠ []) (h0 : ns.getD (ns.length - 1) 0 = 0) : trimZ ns.dropLast = trimZ ns := by
  have e : ns = ns.dropLast ++ [0] := by
    have e1 := List.dropLast_concat_getLast h
    have e2 : ns.getLast h = 0 := by
      rw [List.getLast_eq_getElem]
      rw [gQ, List.getElem?_eq_getElem (by have := lP h; omega)] at h0
      exact h0
    rw [e2] at e1
    exact e1.symm
  rw [e, trimZ_zero, List.dropLast_concat]
theorem trimZ_done {ns : List Int} (h : ¬ (ns ≠ [] /\ ns.getD (ns.length - 1) 0 = 0)) : trimZ ns = ns := by
  by_cases c : ns = []
  . rw [c]; rfl
  . have h0 : ¬ ns.getD (ns.length - 1) 0 = 0 := fun z => h ⟨c, z⟩
    have e1 := List.dropLast_concat_getLast c
    have e2 : ns.getLast c ≠ 0 := by
      rw [List.getLast_eq_getElem]
      rw [gQ, List.getElem?_eq_getElem (by have := lP c; omega)] at h0
      exact h0
    rw [<- e1, trimZ_ne _ e2]
theorem last_at (ns : List Int) (h : ns ≠ []) : ixO ns.length (-1) = ns.length - 1 := by
  have := lP h
  unfold ixO
  rw [if_neg (by omega)]
  omega
theorem kx_cut_noughts (T : Top K mg cK cW) : Ok P w K mg base 1 "cut_noughts" ["numbers"] (spM (fun _ => True) trimZ) := by
  refine Def.ok T.d_cut_noughts sc_cut_noughts (fun vs H Q E h => ?_) (fun f cdv A outer s H vs Q E hr h => ?_)
  . obtain ⟨a, ns, rfl, _⟩ := h
    rfl
  obtain ⟨a, ns, rfl, hH, _, q⟩ := h
  refine ⟨_, (pss_one (ps_while PassesOwn.never (pw_and (pt_truth (pv 0) (fun _ => rfl)) (pw_and1 (pt_cmpR op_eq (pe_item 0 (pn_neg pn_int) (fun _ _ => rfl)) pn_int (nomark _)))).pt
 (pss_one (ps_expr (pe_bm0 PySem.F.plainAttrs_list PySem.F.slot_list_pop PySem.F.type_list_pop mt_pop (pv 0)))))), ?_⟩
  refine ⟨fun m σ H' => σ = [some (.ref a)] /\ ∃ ms, m = ms.length /\ H' = upd H a (.lst (ms.map V.int)) /\ trimZ ms = trimZ ns, ⟨ns.length, rfl, ns, rfl, ?_, rfl⟩, ?_⟩
  . funext b
    by_cases c : b = a
    . rw [c, upd_same, hH]
    . rw [upd_ne c]
  rintro m σ H' ⟨rfl, ms, rfl, rfl, hm⟩
  refine ⟨_, rfl, _, .inl ⟨_, SqL.of upd_same, rfl⟩, ?_⟩
  by_cases c : ms = []
  . subst c
    refine iteF ?_
    refine iteF ?_
    refine q _ (fun b o hb e => ?_) ?_
    . rw [upd_ne hb]; exact e
    . rw [upd_same, <- hm]; rfl
  . have hlen := lP c
    have e1 : (!(ms.map V.int).isEmpty) = true := by cases ms <;> simp at c ⊢
    rw [e1]
    refine iteT ?_
    refine ⟨tT, a, ms, ms.getD (ms.length - 1) 0, rfl, SqL.of upd_same, ?_, ?_⟩
    . have z := getD_at (ns := ms) (i := -1) (by omega) (by omega)
      show atI (ms.map V.int) (-1) = _
      rw [z, if_neg (by omega)]
      have : (-1 + (ms.length : Int)).toNat = ms.length - 1 := by omega
      rw [this]
    refine ⟨tT, rfl, _, rfl, ?_⟩
    by_cases d : ms.getD (ms.length - 1) 0 = 0
    . have e2 : decide (V.int (ms.getD (ms.length - 1) 0) = V.int 0) = true := decide_eq_true (by rw [d])
      rw [e2]
      refine iteT ?_
      refine ⟨fun σ H' => σ = [some (.ref a)] /\ H' = upd H a (.lst (ms.dropLast.map V.int)), ?_, ?_⟩
      . rintro σ' H' ⟨rfl, rfl⟩
        refine ⟨ms.dropLast.length, by rw [List.length_dropLast]; omega, rfl, _, rfl, rfl, ?_⟩
        rw [<- hm]; exact trimZ_step c d
      . refine ⟨_, rfl, .inl ⟨rfl, _, SqL.of upd_same⟩, a, _, V.int (ms[ms.length - 1]'(by omega)), rfl, rfl, upd_same, ?_, rfl, ?_⟩
        . rw [List.length_map, List.getElem?_map, List.getElem?_eq_getElem (by omega)]
          rfl
        . rw [upd_upd, List.map_dropLast]
    . have e2 : decide (V.int (ms.getD (ms.length - 1) 0) = V.int 0) = false := decide_eq_false (by intro z; exact d (by injection z))
      rw [e2]
      refine iteF ?_
      refine q _ (fun b o hb e => ?_) ?_
      . rw [upd_ne hb]; exact e
      . rw [upd_same, <- hm, trimZ_done fun z => d z.2]
theorem kx_trimmed (T : Top K mg cK cW) : Ok P w K mg base 2 "trimmed" ["kind", "f"] (spL K (GkW cW) (fun as => ∃ z f, as = [.ob 0 z, .ints f] /\ f.length <= 1000) fun as => match as with
    | [.ob 0 z, .ints f] => trimZ (f.map (pl z))
    | _ => []) := by
  refine okL T.d_trimmed sc_trimmed (fun as ⟨a, b, h, _⟩ => by rw [h]; rfl) (fun f cdv A outer s H E hr => ⟨_, (xss_cons (xst_lcL (i := 2) sc_trimmed.nd rfl rfl (N' := ["number", "kind"]) (cap := [some 0]) (lc_ok rfl rfl rfl rfl ⟨⟨rfl, Or.inr (Or.inl rfl), (fun z => nomatch (show (some NameKind.cell : Option NameKind) = some NameKind.local from z)), Or.inl rfl, _, rfl, rfl⟩, tT⟩ ⟨rfl, tT⟩ rfl) rfl (xl 1) (fun _ _ _ => (pg_name (i := 0) (show (["number", "kind"] : List Str).Nodup by decide +kernel) rfl (Or.inl rfl) (.inr rfl))) (fun _ _ _ => (xn_kmeth 1 (km_plain T) hr (xa_cons (xn 0) xa_nil))) rfl)
 (xss_cons (xst_mut 2 (kx_cut_noughts T) hr)
 (xss_one (xst_retO 2)))), fun as hp => ?_⟩)
  obtain ⟨z, f, rfl, hf⟩ := hp
  refine ⟨⟨rfl, hf, fun n _ => ⟨rfl, ⟨rfl, tT⟩, tT, tT⟩⟩, fun ns e => ?_⟩
  have e : ns = f.map (pl z) := e
  refine ⟨rfl, tT, rfl, ?_⟩
  show trimZ ns = trimZ (f.map (pl z))
  rw [e]
def addL (f g : List Int) : List Int := (List.range (max f.length g.length)).map fun n => f.getD n 0 + g.getD n 0
theorem addL_get (f g : List Int) (n : Nat) : (addL f g).getD n 0 = f.getD n 0 + g.getD n 0 := by
  unfold addL
  by_cases h : n < max f.length g.length
  . rw [getD_lt (by rw [List.length_map, List.length_range]; exact h), List.getElem_map, List.getElem_range]
  . rw [getD_ge (by rw [List.length_map, List.length_range]; omega), getD_ge (by omega), getD_ge (by omega)]
    rfl
theorem pl_iff (z a b : Int) : pl z a = pl z b ↔ z ∣ a - b := by
  unfold pl
  split
  . rename_i h
    subst h
    rw [Int.zero_dvd]
    omega
  . rw [Int.emod_eq_emod_iff_emod_sub_eq_zero, Int.dvd_iff_emod_eq_zero]
theorem pl_dvd (z a : Int) : z ∣ pl z a - a := (pl_iff z _ _).mp (pl_pl z a)
def lastI (xs : List Int) : Int := xs.getD (xs.length - 1) 0
theorem sm_dvd {z : Int} {f : Nat -> Int} : ∀ {N : Nat}, (∀ j, j < N -> z ∣ f j) -> z ∣ sm N f
  | 0, _ => Int.dvd_zero z
  | N + 1, h => Int.dvd_add (sm_dvd fun j hj => h j (by omega)) (h N (by omega))
theorem sm_one {z : Int} {f : Nat -> Int} {i : Nat} : ∀ {N : Nat}, i < N -> (∀ j, j < N -> j ≠ i -> z ∣ f j) -> z ∣ sm N f - f i
  | 0, h, _ => by omega
  | N + 1, h, k => by
    show z ∣ sm N f + f N - f i
    by_cases c : i = N
    . subst c
      have e : sm i f + f i - f i = sm i f := by omega
      rw [e]
      exact sm_dvd fun j hj => k j (by omega) (by omega)
    . have e : sm N f + f N - f i = (sm N f - f i) + f N := by omega
      rw [e]
      exact Int.dvd_add (sm_one (by omega) fun j hj hne => k j (by omega) hne) (k N (by omega) (by omega))
theorem sm_upd {f g : Nat -> Int} {k : Nat} : ∀ {N : Nat}, (∀ i, i < N -> i ≠ k -> f i = g i) -> sm N f = sm N g + if k < N then f k - g k else 0
  | 0, _ => by show (0 : Int) = 0 + _; rw [if_neg (by omega)]; rfl
  | N + 1, h => by
    show sm N f + f N = sm N g + g N + _
    rw [sm_upd (f := f) (g := g) (k := k) fun i hi hne => h i (by omega) hne]
    by_cases c : k = N
    . subst c
      rw [if_neg (by omega), if_pos (by omega)]
      omega
    . rw [h N (by omega) (by omega)]
      by_cases d : k < N
      . rw [if_pos d, if_pos (by omega)]; omega
      . rw [if_neg d, if_neg (by omega)]; omega
theorem cm_set {q d : List Int} {g : Nat} {c : Int} (hg : g < q.length) (h0 : q.getD g 0 = 0) (n : Nat) : cm (q.set g c) d n = cm q d n + if g <= n then c * d.getD (n - g) 0 else 0 := by
  unfold cm
  rw [sm_upd (f := fun i => (q.set g c).getD i 0 * d.getD (n - i) 0) (g := fun i => q.getD i 0 * d.getD (n - i) 0) (k := g) fun i hi hne => by
    show (q.set g c).getD i 0 * d.getD (n - i) 0 = _
    rw [set_get _ _ _ _ hg, if_neg hne]]
  congr 1
  by_cases k : g < n + 1
  . rw [if_pos k, if_pos (by omega)]
    show (q.set g c).getD g 0 * d.getD (n - g) 0 - q.getD g 0 * d.getD (n - g) 0 = _
    rw [set_get _ _ _ _ hg, if_pos rfl, h0]
    omega
  . rw [if_neg k, if_neg (by omega)]
def subL (a b : List Int) : List Int := (List.range (max a.length b.length)).map fun i => a.getD i 0 - b.getD i 0
theorem sm_sub (f g : Nat -> Int) : ∀ N, sm N (fun i => f i - g i) = sm N f - sm N g
  | 0 => rfl
  | N + 1 => by
    show sm N (fun i => f i - g i) + (f N - g N) = sm N f + f N - (sm N g + g N)
    rw [sm_sub f g N]
    omega
theorem form_len {xs : List Int} {L : Nat} (hf : InForm xs) (h : ∀ n, L <= n -> xs.getD n 0 = 0) : xs.length <= L := by
  by_cases c : xs.length <= L
  . exact c
  . exact absurd (h (xs.length - 1) (by omega)) (hf fun e => by rw [e] at c; exact c (Nat.zero_le _))
def nextR (z : Int) (d r : List Int) (c : Int) : List Int := trimZ ((List.range r.length).map fun n => if r.length - d.length <= n then pl z (r.getD n 0 - c * d.getD (n - (r.length - d.length)) 0) else r.getD n 0)
theorem nextR_get {z : Int} {d r : List Int} {c : Int} (hd : d.length <= r.length) (n : Nat) : (nextR z d r c).getD n 0 = if r.length - d.length <= n then pl z (r.getD n 0 - c * d.getD (n - (r.length - d.length)) 0) else r.getD n 0 := by
  unfold nextR
  rw [trim_get]
  by_cases h : n < r.length
  . rw [getD_lt (by rw [List.length_map, List.length_range]; exact h), List.getElem_map, List.getElem_range]
  . rw [getD_ge (by rw [List.length_map, List.length_range]; omega), if_pos (by omega), getD_ge (xs := r) (by omega), getD_ge (xs := d) (by omega), Int.mul_zero, Int.sub_zero, pl_0]
structure DInv (z : Int) (f d q r : List Int) : Prop where
  eq : ∀ n, z ∣ cm q d n + r.getD n 0 - f.getD n 0
  rr : ∀ n, pl z (r.getD n 0) = r.getD n 0
  rf : InForm r
  qr : ∀ n, pl z (q.getD n 0) = q.getD n 0
  ql : q.length = f.length + 1 - d.length
  rl : r.length <= f.length
  q0 : ∀ n, n + d.length <= r.length -> q.getD n 0 = 0
  qt : r.length < f.length -> q.getD (f.length - d.length) 0 ≠ 0
theorem DInv.start {z : Int} {f d : List Int} (hf : InForm f) (hr : ∀ n, pl z (f.getD n 0) = f.getD n 0) : DInv z f d (List.replicate (f.length + 1 - d.length) 0) f := by
  have g0 : ∀ n, (List.replicate (f.length + 1 - d.length) (0 : Int)).getD n 0 = 0 := fun n => by
    by_cases h : n < f.length + 1 - d.length
    . rw [getD_lt (by rw [List.length_replicate]; exact h), List.getElem_replicate]
    . rw [getD_ge (by rw [List.length_replicate]; omega)]
  refine ⟨fun n => ?_, hr, hf, fun n => ?_, List.length_replicate, Nat.le_refl _, fun n _ => g0 n, fun h => absurd h (Nat.lt_irrefl _)⟩
  . have e : cm (List.replicate (f.length + 1 - d.length) 0) d n = 0 := sm_zero fun i _ => by rw [g0, Int.zero_mul]
    rw [e]
    have : (0 : Int) + f.getD n 0 - f.getD n 0 = 0 := by omega
    rw [this]
    exact Int.dvd_zero z
  . rw [g0, pl_0]
theorem DInv.step {z : Int} {f d q r : List Int} {c : Int} (I : DInv z f d q r) (hd : 0 < d.length) (hl : d.length <= r.length) (hc : pl z (c * lastI d) = lastI r) (hp : pl z c = c) : DInv z f d (q.set (r.length - d.length) c) (nextR z d r c) /\ (nextR z d r c).length < r.length := by
  have hg : r.length - d.length < q.length := by rw [I.ql]; have := I.rl; omega
  have h0 : q.getD (r.length - d.length) 0 = 0 := I.q0 _ (by omega)
  have rne : r ≠ [] := fun e => by rw [e] at hl; exact absurd hl (by show ¬ d.length <= 0; omega)
  have l0 : lastI r ≠ 0 := I.rf rne
  have hc2 : c ≠ 0 := fun e => by
    rw [e, Int.zero_mul, pl_0] at hc
    exact l0 hc.symm
  have hlen : (nextR z d r c).length < r.length := by
    have : (nextR z d r c).length <= r.length - 1 := by
      refine form_len (trim_form _) fun n hn => ?_
      rw [nextR_get hl, if_pos (by omega)]
      by_cases k : n = r.length - 1
      . subst k
        have e1 : r.length - 1 - (r.length - d.length) = d.length - 1 := by omega
        rw [e1]
        show pl z (lastI r - c * lastI d) = 0
        rw [<- pl_0 z]
        refine (pl_iff z _ _).mpr ?_
        have h1 := pl_dvd z (c * lastI d)
        rw [hc] at h1
        rw [Int.sub_zero]
        exact h1
      . rw [getD_ge (xs := r) (by omega), getD_ge (xs := d) (by omega), Int.mul_zero, Int.sub_zero, pl_0]
    omega
  refine ⟨⟨fun n => ?_, fun n => ?_, trim_form _, fun n => ?_, by rw [List.length_set]; exact I.ql, by have := I.rl; omega, fun n hn => ?_, fun _ => ?_⟩, hlen⟩
  . rw [cm_set hg h0, nextR_get hl]
    have e := I.eq n
    by_cases k : r.length - d.length <= n
    . rw [if_pos k, if_pos k]
      have p := pl_dvd z (r.getD n 0 - c * d.getD (n - (r.length - d.length)) 0)
      have s := Int.dvd_add e p
      generalize pl z (r.getD n 0 - c * d.getD (n - (r.length - d.length)) 0) = u at s ⊢
      generalize c * d.getD (n - (r.length - d.length)) 0 = v at s ⊢
      have q : cm q d n + v + u - f.getD n 0 = cm q d n + r.getD n 0 - f.getD n 0 + (u - (r.getD n 0 - v)) := by omega
      rw [q]
      exact s
    . rw [if_neg k, if_neg k, Int.add_zero]
      exact e
  . rw [nextR_get hl]
    split
    . exact pl_pl z _
    . exact I.rr n
  . rw [set_get _ _ _ _ hg]
    split
    . exact hp
    . exact I.qr n
  . rw [set_get _ _ _ _ hg, if_neg (by omega)]
    exact I.q0 n (by omega)
  . rw [set_get _ _ _ _ hg]
    split
    . exact hc2
    . have := I.rl
      exact I.qt (by omega)
theorem getD_b {xs : List Int} {B : Nat} (h : ∀ m ∈ xs, m.natAbs <= B) (n : Nat) : (xs.getD n 0).natAbs <= B := by
  by_cases c : n < xs.length
  . exact h _ (FM.getD_mem c)
  . rw [getD_ge (by omega)]; exact Nat.zero_le _
def TakeAt (z : Int) (d r : List Int) (c : Int) (i : Nat) (row : List Int) : Prop := row.length = r.length /\ ∀ n, row.getD n 0 = if r.length - d.length <= n /\ n - (r.length - d.length) < i then pl z (r.getD n 0 - c * d.getD (n - (r.length - d.length)) 0) else r.getD n 0
theorem take_start (z : Int) (d r : List Int) (c : Int) : TakeAt z d r c 0 r := ⟨rfl, fun n => by rw [if_neg (by omega)]⟩
theorem take_step {z : Int} {d r row : List Int} {c : Int} {i : Nat} (h : TakeAt z d r c i row) (hl : d.length <= r.length) (hi : i < d.length) : TakeAt z d r c (i + 1) (row.set (r.length - d.length + i) (pl z (row.getD (r.length - d.length + i) 0 - c * d.getD i 0))) := by
  obtain ⟨h1, h2⟩ := h
  refine ⟨by rw [List.length_set]; exact h1, fun n => ?_⟩
  rw [set_get _ _ _ _ (by omega)]
  by_cases k : n = r.length - d.length + i
  . subst k
    rw [if_pos rfl, if_pos (by omega), h2, if_neg (by omega), show r.length - d.length + i - (r.length - d.length) = i by omega]
  . rw [if_neg k, h2]
    by_cases q : r.length - d.length <= n /\ n - (r.length - d.length) < i
    . rw [if_pos q, if_pos (by omega)]
    . rw [if_neg q, if_neg (by omega)]
theorem take_end {z : Int} {d r row : List Int} {c : Int} (h : TakeAt z d r c d.length row) (hl : d.length <= r.length) : trimZ row = nextR z d r c := by
  unfold nextR
  refine trim_ext fun n => ?_
  rw [h.2 n]
  by_cases k : n < r.length
  . rw [getD_lt (xs := (List.range r.length).map _) (by rw [List.length_map, List.length_range]; exact k), List.getElem_map, List.getElem_range]
    by_cases q : r.length - d.length <= n
    . rw [if_pos ⟨q, by omega⟩, if_pos q]
    . rw [if_neg (by omega), if_neg q]
  . rw [getD_ge (xs := (List.range r.length).map _) (by rw [List.length_map, List.length_range]; omega), if_neg (by omega), getD_ge (by omega)]
theorem last_ix (ns : List Int) (h : 0 < ns.length) : ns.getD (ixO ns.length (-1)) 0 = lastI ns := by
  have e : ixO ns.length (-1) = ns.length - 1 := by
    unfold ixO
    rw [if_neg (by omega)]
    omega
  rw [e]
  rfl
theorem sm_add (f g : Nat -> Int) : ∀ N, sm N (fun i => f i + g i) = sm N f + sm N g
  | 0 => rfl
  | N + 1 => by
    show sm N (fun i => f i + g i) + (f N + g N) = sm N f + f N + (sm N g + g N)
    rw [sm_add f g N]
    omega
theorem sm_mulL (l : Int) (f : Nat -> Int) : ∀ n, sm n (fun i => l * f i) = l * sm n f
  | 0 => (Int.mul_zero l).symm
  | n + 1 => by
    show sm n (fun i => l * f i) + l * f n = l * (sm n f + f n)
    rw [sm_mulL l f n, Int.mul_add]
theorem cm_consL (o : Int) (q d : List Int) (i : Nat) : cm (o :: q) d i = o * d.getD i 0 + if i = 0 then 0 else cm q d (i - 1) := by
  unfold cm
  rw [sm_head]
  have e1 : ((o :: q).getD 0 0 : Int) = o := rfl
  rw [e1, Nat.sub_zero]
  congr 1
  by_cases c : i = 0
  . subst c; rfl
  . rw [if_neg c]
    obtain ⟨k, rfl⟩ : ∃ k, i = k + 1 := ⟨i - 1, by omega⟩
    refine sm_congr fun j hj => ?_
    have e2 : ((o :: q).getD (j + 1) 0 : Int) = q.getD j 0 := rfl
    have e3 : k + 1 - (j + 1) = k - j := by omega
    have e4 : k + 1 - 1 - j = k - j := by omega
    show (o :: q).getD (j + 1) 0 * d.getD (k + 1 - (j + 1)) 0 = q.getD j 0 * d.getD (k + 1 - 1 - j) 0
    rw [e2, e3, e4]
theorem cm_nil (d : List Int) (n : Nat) : cm [] d n = 0 := sm_zero fun i _ => by
  show ([] : List Int).getD i 0 * _ = 0
  rw [getD_ge (Nat.zero_le _), Int.zero_mul]
theorem cm_zero {f g : List Int} (h : ∀ n, f.getD n 0 = 0) (n : Nat) : cm f g n = 0 := sm_zero fun i _ => by rw [h i, Int.zero_mul]
theorem cm_same {f f' g g' : List Int} (h : ∀ n, f.getD n 0 = f'.getD n 0) (k : ∀ n, g.getD n 0 = g'.getD n 0) (n : Nat) : cm f g n = cm f' g' n := sm_congr fun i _ => by rw [h, k]
theorem cm_step {a u g h : List Int} {o : Int} (ha : ∀ i, a.getD i 0 = o * g.getD i 0 + if i = 0 then 0 else u.getD (i - 1) 0) (n : Nat) : cm a h n = o * cm g h n + if n = 0 then 0 else cm u h (n - 1) := by
  unfold cm
  have e : sm (n + 1) (fun i => a.getD i 0 * h.getD (n - i) 0) = sm (n + 1) fun i => o * (g.getD i 0 * h.getD (n - i) 0) + (if i = 0 then 0 else u.getD (i - 1) 0) * h.getD (n - i) 0 := sm_congr fun i _ => by rw [ha, Int.add_mul, Int.mul_assoc]
  rw [e, sm_add, sm_mulL]
  congr 1
  rw [sm_head]
  have e0 : (if (0 : Nat) = 0 then (0 : Int) else u.getD (0 - 1) 0) * h.getD (n - 0) 0 = 0 := by rw [if_pos rfl, Int.zero_mul]
  rw [e0, Int.zero_add]
  by_cases c : n = 0
  . subst c; rfl
  . rw [if_neg c]
    obtain ⟨k, rfl⟩ : ∃ k, n = k + 1 := ⟨n - 1, by omega⟩
    refine sm_congr fun j _ => ?_
    have e3 : k + 1 - (j + 1) = k + 1 - 1 - j := by omega
    show (if j + 1 = 0 then 0 else u.getD (j + 1 - 1) 0) * h.getD (k + 1 - (j + 1)) 0 = _
    rw [if_neg (by omega), e3]
    rfl
theorem cm_assoc (g h : List Int) : ∀ (f : List Int) (n : Nat), cm (convL f g) h n = cm f (convL g h) n
  | [], n => by
    rw [cm_nil, cm_zero]
    intro i
    rw [convL_get, cm_nil]
  | o :: q, n => by
    rw [cm_consL, cm_step (u := convL q g) (g := g) (o := o) (fun i => by
      rw [convL_get, cm_consL]
      congr 1
      by_cases c : i = 0
      . rw [if_pos c, if_pos c]
      . rw [if_neg c, if_neg c, convL_get])]
    rw [convL_get]
    congr 1
    by_cases c : n = 0
    . rw [if_pos c, if_pos c]
    . rw [if_neg c, if_neg c, cm_assoc g h q]
def mu (f g : List Int) : List Int := trimZ (convL f g)
def EqM (p : Int) (d a b : List Int) : Prop := ∃ Q : List Int, ∀ n, p ∣ a.getD n 0 - b.getD n 0 - cm Q d n
theorem cm_addL (a b d : List Int) (n : Nat) : cm (addL a b) d n = cm a d n + cm b d n := by
  unfold cm
  rw [<- sm_add]
  exact sm_congr fun i _ => by rw [addL_get, Int.add_mul]
open Classical in
def Bare (f : List Int) : Prop := ∀ d : Nat, (∀ n, (d : Int) ∣ f.getD n 0) -> d = 1
theorem small_prime : ∀ (n d : Nat), d <= n -> 2 <= d -> ∃ q : Nat, 2 <= q /\ q ∣ d /\ ∀ e : Nat, e ∣ q -> e = 1 \/ e = q := by
  intro n
  induction n with
  | zero => intro d h h2; omega
  | succ n ih =>
    intro d h h2
    by_cases c : ∃ e : Nat, e ∣ d /\ e ≠ 1 /\ e ≠ d
    . obtain ⟨e, h1, h3, h4⟩ := c
      have le := Nat.le_of_dvd (by omega) h1
      have e0 : e ≠ 0 := fun z => by
        rw [z] at h1
        have := Nat.eq_zero_of_zero_dvd h1
        omega
      obtain ⟨q, k1, k2, k3⟩ := ih e (by omega) (by omega)
      exact ⟨q, k1, Nat.dvd_trans k2 h1, k3⟩
    . refine ⟨d, h2, Nat.dvd_refl d, fun e he => ?_⟩
      by_cases e1 : e = 1
      . exact .inl e1
      . by_cases e2 : e = d
        . exact .inr e2
        . exact absurd ⟨e, he, e1, e2⟩ c
theorem prime_mul {q : Nat} (hq : ∀ e : Nat, e ∣ q -> e = 1 \/ e = q) {a b : Int} (h : (q : Int) ∣ a * b) : (q : Int) ∣ a \/ (q : Int) ∣ b := by
  have d := Int.natAbs_dvd_natAbs.mpr h
  rw [Int.natAbs_mul, Int.natAbs_natCast] at d
  rcases hq _ (Nat.gcd_dvd_left q a.natAbs) with g | g
  . refine .inr (Int.natAbs_dvd_natAbs.mp ?_)
    rw [Int.natAbs_natCast]
    exact Nat.Coprime.dvd_of_dvd_mul_left g d
  . refine .inl (Int.natAbs_dvd_natAbs.mp ?_)
    rw [Int.natAbs_natCast, <- g]
    exact Nat.gcd_dvd_right ..
theorem first_not {z : Int} {f : List Int} (h : ¬ ∀ n, z ∣ f.getD n 0) : ∃ i, ¬ z ∣ f.getD i 0 /\ ∀ j, j < i -> z ∣ f.getD j 0 := by
  obtain ⟨m, hm⟩ := Classical.not_forall.mp h
  induction m using Nat.strongRecOn with
  | ind m ih =>
    by_cases c : ∃ j, j < m /\ ¬ z ∣ f.getD j 0
    . obtain ⟨j, h1, h2⟩ := c
      exact ih j h1 h2
    . exact ⟨m, hm, fun j hj => Classical.byContradiction fun k => c ⟨j, hj, k⟩⟩
theorem gauss {f g : List Int} (hf : Bare f) (hg : Bare g) : Bare (convL f g) := by
  intro d h
  refine Classical.byContradiction fun c => ?_
  have ex : ∃ q : Nat, 2 <= q /\ (∀ e : Nat, e ∣ q -> e = 1 \/ e = q) /\ ∀ n, (q : Int) ∣ (convL f g).getD n 0 := by
    by_cases z : d = 0
    . obtain ⟨q, k1, _, k3⟩ := small_prime 2 2 (Nat.le_refl 2) (Nat.le_refl 2)
      refine ⟨q, k1, k3, fun n => Int.dvd_trans ?_ (h n)⟩
      rw [z]
      exact Int.dvd_zero _
    . obtain ⟨q, k1, k2, k3⟩ := small_prime d d (Nat.le_refl d) (by omega)
      exact ⟨q, k1, k3, fun n => Int.dvd_trans (Int.natCast_dvd_natCast.mpr k2) (h n)⟩
  obtain ⟨q, q2, qp, hq⟩ := ex
  obtain ⟨i, i1, i2⟩ := first_not (z := (q : Int)) (f := f) fun k => by have := hf q k; omega
  obtain ⟨j, j1, j2⟩ := first_not (z := (q : Int)) (f := g) fun k => by have := hg q k; omega
  have k := sm_one (z := (q : Int)) (f := fun n => f.getD n 0 * g.getD (i + j - n) 0) (i := i) (N := i + j + 1) (by omega) fun n hn ne => by
    by_cases c : n < i
    . exact Int.dvd_mul_of_dvd_left (i2 n c)
    . exact Int.dvd_mul_of_dvd_right (j2 _ (by omega))
  have t := hq (i + j)
  rw [convL_get] at t
  have t : (q : Int) ∣ sm (i + j + 1) fun n => f.getD n 0 * g.getD (i + j - n) 0 := t
  have e : i + j - i = j := by omega
  rw [e] at k
  have := Int.dvd_sub t k
  have e2 : (sm (i + j + 1) fun n => f.getD n 0 * g.getD (i + j - n) 0) - ((sm (i + j + 1) fun n => f.getD n 0 * g.getD (i + j - n) 0) - f.getD i 0 * g.getD j 0) = f.getD i 0 * g.getD j 0 := by omega
  rw [e2] at this
  rcases prime_mul qp this with c | c
  . exact i1 c
  . exact j1 c
theorem bare_ex : ∀ (N : Nat) (f : List Int) (i : Nat), f.getD i 0 ≠ 0 -> (f.getD i 0).natAbs <= N -> ∃ (d : Nat) (g : List Int), 0 < d /\ Bare g /\ ∀ n, f.getD n 0 = (d : Int) * g.getD n 0 := by
  intro N
  induction N with
  | zero => intro f i h1 h2; omega
  | succ N ih =>
    intro f i h1 h2
    by_cases c : Bare f
    . exact ⟨1, f, by decide, c, fun n => by rw [show ((1 : Nat) : Int) = 1 from rfl, Int.one_mul]⟩
    obtain ⟨d, hd⟩ := Classical.not_forall.mp c
    obtain ⟨hd, d1⟩ := Classical.not_imp.mp hd
    have d0 : d ≠ 0 := fun z => by
      have := hd i
      rw [z] at this
      exact h1 (Int.zero_dvd.mp this)
    have fg : ∀ n, f.getD n 0 = (d : Int) * (f.map fun x => x / (d : Int)).getD n 0 := fun n => by
      rw [getD_map (fun x => x / (d : Int)) (Int.zero_ediv _)]
      exact (Int.mul_ediv_cancel' (hd n)).symm
    have ei := fg i
    generalize (f.map fun x => x / (d : Int)) = g at *
    have g0 : g.getD i 0 ≠ 0 := fun z => by
      rw [z, Int.mul_zero] at ei
      exact h1 ei
    have lt : (g.getD i 0).natAbs <= N := by
      have e := congrArg Int.natAbs ei
      rw [Int.natAbs_mul, Int.natAbs_natCast] at e
      have : 2 * (g.getD i 0).natAbs <= d * (g.getD i 0).natAbs := Nat.mul_le_mul_right _ (by omega)
      have : (g.getD i 0).natAbs ≠ 0 := fun z => g0 (Int.natAbs_eq_zero.mp z)
      omega
    obtain ⟨e, x, h3, h4, h5⟩ := ih g i g0 lt
    refine ⟨d * e, x, Nat.mul_pos (by omega) h3, h4, fun n => ?_⟩
    rw [fg n, h5 n, Int.natCast_mul, Int.mul_assoc]
theorem dvd_bare {k d : Nat} {x : List Int} (k0 : 0 < k) (hx : Bare x) (h : ∀ n, (k : Int) ∣ (d : Int) * x.getD n 0) : k ∣ d := by
  have g0 : 0 < Nat.gcd k d := Nat.gcd_pos_of_pos_left _ k0
  have e1 : k / Nat.gcd k d = 1 := hx _ fun n => by
    have d1 := Int.natAbs_dvd_natAbs.mpr (h n)
    rw [Int.natAbs_mul, Int.natAbs_natCast, Int.natAbs_natCast] at d1
    refine Int.natAbs_dvd_natAbs.mp ?_
    rw [Int.natAbs_natCast]
    refine Nat.Coprime.dvd_of_dvd_mul_left (Nat.coprime_div_gcd_div_gcd g0) ?_
    refine Nat.dvd_of_mul_dvd_mul_left g0 ?_
    rw [Nat.mul_div_cancel' (Nat.gcd_dvd_left k d), <- Nat.mul_assoc, Nat.mul_div_cancel' (Nat.gcd_dvd_right k d)]
    exact d1
  have e2 := Nat.mul_div_cancel' (Nat.gcd_dvd_left k d)
  rw [e1, Nat.mul_one] at e2
  rw [<- e2]
  exact Nat.gcd_dvd_right k d
theorem bare_goes {c r u : List Int} {k : Int} (hc : Bare c) (k0 : k ≠ 0) (h : ∀ n, k * r.getD n 0 = cm u c n) : ∃ v : List Int, ∀ n, r.getD n 0 = cm v c n := by
  by_cases z : ∀ n, u.getD n 0 = 0
  . refine ⟨[], fun n => ?_⟩
    have e := h n
    have : cm u c n = 0 := sm_zero fun i _ => by rw [z i, Int.zero_mul]
    rw [this] at e
    rw [cm_nil]
    exact (Int.mul_eq_zero.mp e).resolve_left k0
  obtain ⟨i, hi⟩ := Classical.not_forall.mp z
  obtain ⟨d, x, d0, hx, hu⟩ := bare_ex _ u i hi (Nat.le_refl _)
  have cu : ∀ n, cm u c n = (d : Int) * cm x c n := fun n => by
    unfold cm
    rw [<- sm_mulL]
    exact sm_congr fun i _ => by rw [hu i, Int.mul_assoc]
  have kd : k.natAbs ∣ d := dvd_bare (x := convL x c) (by omega) (gauss hx hc) fun n => by
    rw [convL_get, <- cu n, <- h n]
    exact Int.dvd_trans (Int.natAbs_dvd.mpr (Int.dvd_refl k)) (Int.dvd_mul_right _ _)
  have kd : k ∣ (d : Int) := Int.natAbs_dvd.mp (Int.natCast_dvd_natCast.mpr kd)
  obtain ⟨t, ht⟩ := kd
  refine ⟨x.map fun y => t * y, fun n => ?_⟩
  have e := h n
  rw [cu n, ht, Int.mul_assoc] at e
  have e := Int.eq_of_mul_eq_mul_left k0 e
  rw [e]
  unfold cm
  rw [<- sm_mulL]
  exact sm_congr fun i _ => by rw [getD_map _ (Int.mul_zero t), Int.mul_assoc]
theorem pigeon : ∀ (n : Nat) (φ : Nat -> Nat), (∀ i, i <= n -> φ i < n) -> ∃ i j, i < j /\ j <= n /\ φ i = φ j := by
  intro n
  induction n with
  | zero => intro φ h; exact absurd (h 0 (Nat.le_refl 0)) (by omega)
  | succ n ih =>
    intro φ h
    by_cases c : ∃ i, i <= n /\ φ i = φ (n + 1)
    . obtain ⟨i, h1, h2⟩ := c
      exact ⟨i, n + 1, by omega, Nat.le_refl _, h2⟩
    have c : ∀ i, i <= n -> φ i ≠ φ (n + 1) := fun i hi e => c ⟨i, hi, e⟩
    obtain ⟨i, j, h1, h2, h3⟩ := ih (fun i => if φ i = n then φ (n + 1) else φ i) fun i hi => by
      have a1 := h i (by omega)
      have a2 := h (n + 1) (by omega)
      have a3 := c i hi
      show (if φ i = n then φ (n + 1) else φ i) < n
      split <;> omega
    refine ⟨i, j, h1, by omega, ?_⟩
    have a1 := c i (by omega)
    have a2 := c j h2
    have h3 : (if φ i = n then φ (n + 1) else φ i) = if φ j = n then φ (n + 1) else φ j := h3
    by_cases k1 : φ i = n
    . by_cases k2 : φ j = n
      . rw [k1, k2]
      . rw [if_pos k1, if_neg k2] at h3
        exact absurd h3.symm a2
    . by_cases k2 : φ j = n
      . rw [if_neg k1, if_pos k2] at h3
        exact absurd h3 a1
      . rw [if_neg k1, if_neg k2] at h3
        exact h3
def dig (b k i : Nat) : Nat := k / b ^ i % b
theorem dig_inj {b : Nat} (hb : 0 < b) : ∀ (N k l : Nat), k < b ^ N -> l < b ^ N -> (∀ i, i < N -> dig b k i = dig b l i) -> k = l := by
  intro N
  induction N with
  | zero => intro k l h1 h2 _; rw [Nat.pow_zero] at h1 h2; omega
  | succ N ih =>
    intro k l h1 h2 h
    have h0 := h 0 (by omega)
    unfold dig at h0
    rw [Nat.pow_zero, Nat.div_one, Nat.div_one] at h0
    have up : ∀ m i, dig b (m / b) i = dig b m (i + 1) := fun m i => by
      unfold dig
      rw [Nat.div_div_eq_div_mul, Nat.pow_succ, Nat.mul_comm b]
    rw [Nat.pow_succ] at h1 h2
    have e := ih (k / b) (l / b) (Nat.div_lt_of_lt_mul (by rw [Nat.mul_comm]; exact h1)) (Nat.div_lt_of_lt_mul (by rw [Nat.mul_comm]; exact h2)) fun i hi => by rw [up, up]; exact h (i + 1) (by omega)
    have a := Nat.div_add_mod k b
    have c := Nat.div_add_mod l b
    rw [e, h0] at a
    omega
def cod (b : Nat) (y : Nat -> Nat) : Nat -> Nat
  | 0 => 0
  | M + 1 => cod b y M + y M * b ^ M
theorem cod_lt {b : Nat} {y : Nat -> Nat} : ∀ {M : Nat}, (∀ j, j < M -> y j < b) -> cod b y M < b ^ M
  | 0, _ => by show 0 < b ^ 0; rw [Nat.pow_zero]; decide
  | M + 1, h => by
    have a := cod_lt (M := M) fun j hj => h j (by omega)
    have c := h M (by omega)
    show cod b y M + y M * b ^ M < b ^ (M + 1)
    rw [Nat.pow_succ, Nat.mul_comm (b ^ M) b]
    have d : (y M + 1) * b ^ M <= b * b ^ M := Nat.mul_le_mul_right _ c
    rw [Nat.succ_mul] at d
    omega
theorem cod_inj {b : Nat} {y z : Nat -> Nat} : ∀ {M : Nat}, (∀ j, j < M -> y j < b) -> (∀ j, j < M -> z j < b) -> cod b y M = cod b z M -> ∀ j, j < M -> y j = z j
  | 0, _, _, _ => fun j hj => absurd hj (by omega)
  | M + 1, hy, hz, h => fun j hj => by
    have a := cod_lt (M := M) fun j hj => hy j (by omega)
    have c := cod_lt (M := M) fun j hj => hz j (by omega)
    have h : cod b y M + y M * b ^ M = cod b z M + z M * b ^ M := h
    have e1 : y M = z M := by
      have q : (cod b y M + y M * b ^ M) / b ^ M = (cod b z M + z M * b ^ M) / b ^ M := by rw [h]
      rw [Nat.add_mul_div_right _ _ (by omega), Nat.add_mul_div_right _ _ (by omega), Nat.div_eq_of_lt a, Nat.div_eq_of_lt c] at q
      omega
    rw [e1] at h
    by_cases k : j = M
    . rw [k]; exact e1
    . exact cod_inj (M := M) (fun j hj => hy j (by omega)) (fun j hj => hz j (by omega)) (by omega) j (by omega)
theorem siegel {N M B C : Nat} (φ : (Nat -> Nat) -> Nat -> Int) (hφ : ∀ x, (∀ i, x i <= B) -> ∀ j, j < M -> (φ x j).natAbs <= C) (hc : (2 * C + 1) ^ M < (B + 1) ^ N) :
    ∃ x y : Nat -> Nat, (∀ i, x i <= B) /\ (∀ i, y i <= B) /\ (∃ i, i < N /\ x i ≠ y i) /\ ∀ j, j < M -> φ x j = φ y j := by
  have db : ∀ k i, dig (B + 1) k i <= B := fun k i => Nat.le_of_lt_succ (Nat.mod_lt _ (by omega))
  have yb : ∀ k j, j < M -> (φ (dig (B + 1) k) j + C).toNat < 2 * C + 1 := fun k j hj => by
    have := hφ (dig (B + 1) k) (db k) j hj
    omega
  obtain ⟨k, l, h1, h2, h3⟩ := pigeon ((2 * C + 1) ^ M) (fun k => cod (2 * C + 1) (fun j => (φ (dig (B + 1) k) j + C).toNat) M) fun k _ => cod_lt fun j hj => yb k j hj
  have eq := cod_inj (fun j hj => yb k j hj) (fun j hj => yb l j hj) h3
  refine ⟨dig (B + 1) k, dig (B + 1) l, db k, db l, ?_, fun j hj => ?_⟩
  . refine Classical.byContradiction fun c => ?_
    have := dig_inj (by omega) N k l (by omega) (by omega) fun i hi => Classical.byContradiction fun z => c ⟨i, hi, z⟩
    omega
  . have a := hφ (dig (B + 1) k) (db k) j hj
    have b := hφ (dig (B + 1) l) (db l) j hj
    have := eq j hj
    omega
def zxS : Setoid (List Int) := ⟨fun a b => ∀ n, a.getD n 0 = b.getD n 0, fun _ _ => rfl, fun h n => (h n).symm, fun h k n => (h n).trans (k n)⟩
def Zx : Type := Quotient zxS
namespace Zx
def mk (a : List Int) : Zx := Quotient.mk zxS a
theorem mk_eq {a b : List Int} : mk a = mk b ↔ ∀ n, a.getD n 0 = b.getD n 0 := ⟨fun h => Quotient.exact (s := zxS) h, fun h => Quotient.sound (s := zxS) h⟩
theorem ext {a b : List Int} (h : ∀ n, a.getD n 0 = b.getD n 0) : mk a = mk b := mk_eq.mpr h
theorem rep (x : Zx) : ∃ a, x = mk a := Quotient.inductionOn (s := zxS) x fun a => ⟨a, rfl⟩
def cf (x : Zx) (n : Nat) : Int := Quotient.lift (s := zxS) (fun a => a.getD n 0) (fun _ _ h => h n) x
theorem cf_mk (a : List Int) (n : Nat) : cf (mk a) n = a.getD n 0 := rfl
theorem cfx {x y : Zx} (h : ∀ n, cf x n = cf y n) : x = y := by
  obtain ⟨a, rfl⟩ := rep x
  obtain ⟨b, rfl⟩ := rep y
  exact ext h
def scZ (c : Int) (a : List Int) : List Int := a.map fun n => c * n
theorem scZ_get (c : Int) (a : List Int) (n : Nat) : (scZ c a).getD n 0 = c * a.getD n 0 := getD_map (fun n => c * n) (Int.mul_zero c) a n
def add (x y : Zx) : Zx := Quotient.lift₂ (s₁ := zxS) (s₂ := zxS) (fun a b => mk (addL a b)) (fun a b c d h k => ext fun n => by rw [addL_get, addL_get, h n, k n]) x y
def mul (x y : Zx) : Zx := Quotient.lift₂ (s₁ := zxS) (s₂ := zxS) (fun a b => mk (convL a b)) (fun a b c d h k => ext fun n => by rw [convL_get, convL_get]; exact cm_same h k n) x y
def neg (x : Zx) : Zx := Quotient.lift (s := zxS) (fun a => mk (scZ (-1) a)) (fun a b h => ext fun n => by rw [scZ_get, scZ_get, h n]) x
def con (c : Int) : Zx := mk [c]
instance : Add Zx := ⟨add⟩
instance : Mul Zx := ⟨mul⟩
instance : Neg Zx := ⟨neg⟩
instance : Sub Zx := ⟨fun a b => a + -b⟩
instance : NatCast Zx := ⟨fun k => con (k : Int)⟩
instance : IntCast Zx := ⟨con⟩
instance (k : Nat) : OfNat Zx k := ⟨con (k : Int)⟩
instance : SMul Nat Zx := ⟨fun k a => con (k : Int) * a⟩
instance : SMul Int Zx := ⟨fun k a => con k * a⟩
def pow (a : Zx) : Nat -> Zx
  | 0 => con 1
  | n + 1 => pow a n * a
instance : HPow Zx Nat Zx := ⟨pow⟩
theorem mk_add (a b : List Int) : mk a + mk b = mk (addL a b) := rfl
theorem mk_mul (a b : List Int) : mk a * mk b = mk (convL a b) := rfl
theorem mk_neg (a : List Int) : -mk a = mk (scZ (-1) a) := rfl
theorem zero_def : (0 : Zx) = mk [0] := rfl
theorem cm_con (c : Int) (f : List Int) (n : Nat) : cm [c] f n = c * f.getD n 0 := by
  rw [cm_consL]
  split
  . rw [Int.add_zero]
  . rw [cm_nil, Int.add_zero]
theorem mul_comm (x y : Zx) : x * y = y * x := by
  obtain ⟨a, rfl⟩ := rep x
  obtain ⟨b, rfl⟩ := rep y
  rw [mk_mul, mk_mul]
  exact ext fun n => by rw [convL_get, convL_get, cm_comm]
theorem mul_assoc (x y z : Zx) : x * y * z = x * (y * z) := by
  obtain ⟨a, rfl⟩ := rep x
  obtain ⟨b, rfl⟩ := rep y
  obtain ⟨c, rfl⟩ := rep z
  rw [mk_mul, mk_mul, mk_mul, mk_mul]
  exact ext fun n => by rw [convL_get, convL_get, cm_assoc]
theorem con_mk (c : Int) (a : List Int) : con c * mk a = mk (scZ c a) := by
  unfold con
  rw [mk_mul]
  exact ext fun n => by rw [convL_get, scZ_get, cm_con]
theorem get0 (n : Nat) : ([0] : List Int).getD n 0 = 0 := by cases n <;> rfl
theorem one_mul (x : Zx) : 1 * x = x := by
  obtain ⟨a, rfl⟩ := rep x
  show con 1 * mk a = mk a
  rw [con_mk]
  exact ext fun n => by rw [scZ_get, Int.one_mul]
theorem zero_mul (x : Zx) : 0 * x = 0 := by
  obtain ⟨a, rfl⟩ := rep x
  show con 0 * mk a = mk [0]
  rw [con_mk]
  exact ext fun n => by rw [scZ_get, Int.zero_mul, get0]
theorem distrib (x y z : Zx) : x * (y + z) = x * y + x * z := by
  obtain ⟨a, rfl⟩ := rep x
  obtain ⟨b, rfl⟩ := rep y
  obtain ⟨c, rfl⟩ := rep z
  rw [mk_add, mk_mul, mk_mul, mk_mul, mk_add]
  exact ext fun n => by rw [convL_get, addL_get, convL_get, convL_get, cm_comm, cm_addL, cm_comm b a, cm_comm c a]
theorem add_comm (x y : Zx) : x + y = y + x := by
  obtain ⟨a, rfl⟩ := rep x
  obtain ⟨b, rfl⟩ := rep y
  rw [mk_add, mk_add]
  exact ext fun n => by rw [addL_get, addL_get, Int.add_comm]
theorem getc (c d : Int) (n : Nat) : ([c + d] : List Int).getD n 0 = ([c] : List Int).getD n 0 + ([d] : List Int).getD n 0 := by cases n <;> rfl
theorem con_add (c d : Int) : con (c + d) = con c + con d := by
  unfold con
  rw [mk_add]
  exact ext fun n => by rw [addL_get, getc]
theorem con_neg (c : Int) : con (-c) = -con c := by
  unfold con
  rw [mk_neg]
  exact ext fun n => by
    rw [scZ_get]
    cases n with
    | zero => show -c = -1 * c; omega
    | succ n => rfl
instance : Lean.Grind.CommRing Zx where
  add_zero x := by
    obtain ⟨a, rfl⟩ := rep x
    rw [zero_def, mk_add]
    exact ext fun n => by rw [addL_get, get0, Int.add_zero]
  add_comm := add_comm
  add_assoc x y z := by
    obtain ⟨a, rfl⟩ := rep x
    obtain ⟨b, rfl⟩ := rep y
    obtain ⟨c, rfl⟩ := rep z
    rw [mk_add, mk_add, mk_add, mk_add]
    exact ext fun n => by rw [addL_get, addL_get, addL_get, addL_get, Int.add_assoc]
  mul_assoc := mul_assoc
  mul_one x := by rw [mul_comm, one_mul]
  one_mul := one_mul
  left_distrib := distrib
  right_distrib a b c := by rw [mul_comm, distrib, mul_comm c, mul_comm c]
  mul_zero x := by rw [mul_comm, zero_mul]
  zero_mul := zero_mul
  pow_zero _ := rfl
  pow_succ _ _ := rfl
  ofNat_succ k := by
    show con ((k + 1 : Nat) : Int) = con (k : Int) + con 1
    rw [<- con_add]
    rfl
  ofNat_eq_natCast _ := rfl
  nsmul_eq_natCast_mul _ _ := rfl
  neg_add_cancel x := by
    obtain ⟨a, rfl⟩ := rep x
    rw [zero_def, mk_neg, mk_add]
    exact ext fun n => by rw [addL_get, scZ_get, get0]; omega
  sub_eq_add_neg _ _ := rfl
  neg_zsmul i x := by
    show con (-i) * x = -(con i * x)
    obtain ⟨a, rfl⟩ := rep x
    rw [con_mk, con_mk, mk_neg]
    exact ext fun n => by rw [scZ_get, scZ_get, scZ_get, <- Int.mul_assoc, Int.neg_one_mul]
  zsmul_natCast_eq_nsmul _ _ := rfl
  intCast_ofNat _ := rfl
  intCast_neg i := con_neg i
  mul_comm := mul_comm
theorem con_mul (c d : Int) : con c * con d = con (c * d) := con_mk c [d]
theorem cf_add (x y : Zx) (n : Nat) : cf (x + y) n = cf x n + cf y n := by
  obtain ⟨a, rfl⟩ := rep x
  obtain ⟨b, rfl⟩ := rep y
  exact addL_get a b n
theorem cf_neg (x : Zx) (n : Nat) : cf (-x) n = -cf x n := by
  obtain ⟨a, rfl⟩ := rep x
  rw [mk_neg, cf_mk, cf_mk, scZ_get]
  omega
theorem cf_sub (x y : Zx) (n : Nat) : cf (x - y) n = cf x n - cf y n := by
  have e : x - y = x + -y := rfl
  rw [e, cf_add, cf_neg]
  omega
theorem cf_con (c : Int) (x : Zx) (n : Nat) : cf (con c * x) n = c * cf x n := by
  obtain ⟨a, rfl⟩ := rep x
  rw [con_mk, cf_mk, scZ_get]
  rfl
theorem cf_zero (n : Nat) : cf 0 n = 0 := get0 n
def Bw (k : Nat) (x : Zx) : Prop := ∀ n, k <= n -> cf x n = 0
theorem Bw.mono {k l : Nat} {x : Zx} (h : Bw k x) (e : k <= l) : Bw l x := fun n hn => h n (Nat.le_trans e hn)
theorem Bw.add {k : Nat} {x y : Zx} (h : Bw k x) (g : Bw k y) : Bw k (x + y) := fun n hn => by rw [cf_add, h n hn, g n hn]; rfl
theorem Bw.sub {k : Nat} {x y : Zx} (h : Bw k x) (g : Bw k y) : Bw k (x - y) := fun n hn => by rw [cf_sub, h n hn, g n hn]; rfl
theorem Bw.con {k : Nat} {x : Zx} (c : Int) (h : Bw k x) : Bw k (con c * x) := fun n hn => by rw [cf_con, h n hn, Int.mul_zero]
theorem Bw.zero (k : Nat) : Bw k 0 := fun n _ => cf_zero n
theorem Bw.nil {x : Zx} (h : Bw 0 x) : x = 0 := cfx fun n => by rw [h n (Nat.zero_le n), cf_zero]
theorem Bw.len (a : List Int) : Bw a.length (mk a) := fun n hn => by rw [cf_mk, getD_ge hn]
theorem Bw.c (c : Int) : Bw 1 (Zx.con c) := Bw.len [c]
theorem Bw.mul {a b k : Nat} {x y : Zx} (h : Bw a x) (g : Bw b y) (e : b = 0 \/ a + b <= k + 1) : Bw k (x * y) := fun n hn => by
  rcases e with rfl | e
  . rw [g.nil, mul_comm, zero_mul, cf_zero]
  obtain ⟨u, rfl⟩ := rep x
  obtain ⟨v, rfl⟩ := rep y
  rw [mk_mul, cf_mk, convL_get]
  refine sm_zero fun i hi => ?_
  by_cases c : a <= i
  . have h1 : u.getD i 0 = 0 := h i c
    rw [h1, Int.zero_mul]
  . have g1 : v.getD (n - i) 0 = 0 := g (n - i) (by omega)
    rw [g1, Int.mul_zero]
theorem top_mul {i j : Nat} {x y : Zx} (h : Bw (i + 1) x) (g : Bw (j + 1) y) : cf (x * y) (i + j) = cf x i * cf y j := by
  obtain ⟨u, rfl⟩ := rep x
  obtain ⟨v, rfl⟩ := rep y
  rw [mk_mul, cf_mk, convL_get]
  have k := sm_one (z := 0) (f := fun n => u.getD n 0 * v.getD (i + j - n) 0) (i := i) (N := i + j + 1) (by omega) fun n hn ne => by
    by_cases c : n < i
    . have g1 : v.getD (i + j - n) 0 = 0 := g (i + j - n) (by omega)
      show (0 : Int) ∣ u.getD n 0 * v.getD (i + j - n) 0
      rw [g1, Int.mul_zero]
      exact Int.dvd_zero 0
    . have h1 : u.getD n 0 = 0 := h n (by omega)
      show (0 : Int) ∣ u.getD n 0 * v.getD (i + j - n) 0
      rw [h1, Int.zero_mul]
      exact Int.dvd_zero 0
  have k := Int.zero_dvd.mp k
  have e : i + j - i = j := by omega
  rw [e] at k
  show cm u v (i + j) = u.getD i 0 * v.getD j 0
  unfold cm
  omega
theorem top : ∀ (k : Nat) {x : Zx}, Bw k x -> x ≠ 0 -> ∃ i, i < k /\ cf x i ≠ 0 /\ Bw (i + 1) x
  | 0, x, h, hx => absurd h.nil hx
  | k + 1, x, h, hx => by
    by_cases c : cf x k = 0
    . obtain ⟨i, h1, h2, h3⟩ := top k (x := x) (fun n hn => by
        by_cases d : n = k
        . rw [d]; exact c
        . exact h n (by omega)) hx
      exact ⟨i, by omega, h2, h3⟩
    . exact ⟨k, by omega, c, h⟩
theorem exBw (x : Zx) : ∃ k, Bw k x := by
  obtain ⟨a, rfl⟩ := rep x
  exact ⟨_, Bw.len a⟩
theorem short {m : Nat} {f y : Zx} (hf : Bw (m + 1) f) (h0 : cf f m ≠ 0) (h : Bw m (f * y)) : y = 0 := by
  refine Classical.byContradiction fun hy => ?_
  obtain ⟨k, hk⟩ := exBw y
  obtain ⟨i, _, h2, h3⟩ := top k hk hy
  have e := top_mul hf h3
  rw [h (m + i) (by omega)] at e
  rcases Int.mul_eq_zero.mp e.symm with z | z
  . exact h0 z
  . exact h2 z
theorem dom {x y : Zx} (h : x * y = 0) : x = 0 \/ y = 0 := by
  by_cases c : x = 0
  . exact .inl c
  obtain ⟨k, hk⟩ := exBw x
  obtain ⟨i, _, h2, h3⟩ := top k hk c
  exact .inr (short h3 h2 (by rw [h]; exact Bw.zero i))
theorem con_ne {c : Int} (h : c ≠ 0) : con c ≠ 0 := fun e => h (by
  have := congrArg (fun x => cf x 0) e
  exact this)
def BareZ (x : Zx) : Prop := ∀ d : Nat, (∀ n, (d : Int) ∣ cf x n) -> d = 1
theorem goes {c r u : Zx} {k : Int} (hc : BareZ c) (k0 : k ≠ 0) (h : con k * r = u * c) : ∃ v, r = v * c := by
  obtain ⟨a, rfl⟩ := rep c
  obtain ⟨b, rfl⟩ := rep r
  obtain ⟨d, rfl⟩ := rep u
  have e := congrArg cf h
  obtain ⟨v, hv⟩ := bare_goes (c := a) (r := b) (u := d) (k := k) hc k0 fun n => by
    have e := congrFun e n
    rw [cf_con, mk_mul, cf_mk, cf_mk, convL_get] at e
    exact e
  exact ⟨mk v, by rw [mk_mul]; exact ext fun n => by rw [convL_get]; exact hv n⟩
end Zx
namespace Zx
structure St (F G b r : Zx) (lf lg lb lr : Nat) (L1 W : Int) (s0 t0 s1 t1 : Zx) : Prop where
  l1 : L1 ≠ 0
  w : W ≠ 0
  e1 : con L1 * r = s1 * F + t1 * G
  cr : s0 * t1 - s1 * t0 = con W
  d2 : Bw (lg + 1 - lb) s1
  d3 : Bw (lf + 1 - lb) t1
theorem cfm (a b : List Int) (n : Nat) : cf (mk a * mk b) n = cm a b n := by rw [mk_mul, cf_mk, convL_get]
theorem wc_alg {F G c s t s1 t1 : Zx} {L : Zx} (e1 : L * c = s1 * F + t1 * G) : F * (s * t1 - s1 * t) = (s * F + t * G) * t1 - L * c * t := by
  rw [e1]
  grind
theorem wc_alg2 {F G c s t s1 t1 : Zx} {L : Zx} (e1 : L * c = s1 * F + t1 * G) (z : s * t1 - s1 * t = 0) : (s * F + t * G) * s1 - L * c * s = 0 := by
  rw [e1]
  have : (s * F + t * G) * s1 - (s1 * F + t1 * G) * s = -(G * (s * t1 - s1 * t)) := by grind
  rw [this, z]
  grind
theorem wc_alg3 {r c s t s0 t0 s1 t1 L W : Zx} (h1 : r * t1 - L * c * t = 0) (h2 : r * s1 - L * c * s = 0) (cr : s0 * t1 - s1 * t0 = W) : W * r = L * (s0 * t - t0 * s) * c := by
  rw [<- cr]
  have a : r * t1 = L * c * t := by grind
  have b : r * s1 = L * c * s := by grind
  grind
theorem wc_bound {F G b c s t s0 t0 s1 t1 : Zx} {lf lg lb lr C : Nat} {L1 W : Int} (S : St F G b c lf lg lb lr L1 W s0 t0 s1 t1)
    (hF : Bw lf F) (tF : cf F (lf - 1) ≠ 0) (hc : Bw lr c) (tc : cf c (lr - 1) ≠ 0) (bc : BareZ c) (r1 : 1 <= lr) (rb : lr + 1 <= lb) (rf : lr + 1 <= lf) (rg : lr + 1 <= lg)
    (hs : Bw (lg - lr) s) (ht : Bw (lf - lr) t) (hr : Bw lr (s * F + t * G)) (hC : ∀ n, (cf (s * F + t * G) n).natAbs <= C) (n0 : ¬ (s = 0 /\ t = 0)) : ∀ n, (cf c n).natAbs <= C := by
  have z : s * t1 - s1 * t = 0 := by
    have hF' : Bw (lf - 1 + 1) F := by rw [Nat.sub_add_cancel (by omega)]; exact hF
    refine short hF' tF ?_
    rw [wc_alg S.e1]
    refine Bw.sub (Bw.mul hr (S.d3.mono (show lf + 1 - lb <= lf - lr by omega)) (.inr (by omega))) (Bw.mul (Bw.con L1 hc) ht (.inr (by omega)))
  have h1 : (s * F + t * G) * t1 - con L1 * c * t = 0 := by
    rw [<- wc_alg S.e1, z]
    grind
  have h2 := wc_alg2 S.e1 z
  generalize s * F + t * G = r at *
  obtain ⟨v, hv⟩ := goes bc S.w (wc_alg3 h1 h2 S.cr)
  have ne : ∀ x : Zx, con L1 * c * x = 0 -> x = 0 := fun x hx => by
    rcases dom hx with a | a
    . rcases dom a with a | a
      . exact absurd a (con_ne S.l1)
      . rw [a, cf_zero] at tc
        exact absurd rfl tc
    . exact a
  have v0 : v ≠ 0 := fun z => by
    rw [z] at hv
    have r0 : r = 0 := by rw [hv]; grind
    rw [r0] at h1 h2
    exact n0 ⟨ne s (by grind), ne t (by grind)⟩
  obtain ⟨k, hk⟩ := exBw v
  obtain ⟨i, _, i2, i3⟩ := top k hk v0
  have hc' : Bw (lr - 1 + 1) c := by rw [Nat.sub_add_cancel r1]; exact hc
  have tm := top_mul i3 hc'
  rw [<- hv] at tm
  have i0 : i = 0 := Classical.byContradiction fun q => by
    rw [hr (i + (lr - 1)) (by omega)] at tm
    rcases Int.mul_eq_zero.mp tm.symm with z | z
    . exact i2 z
    . exact tc z
  subst i0
  have ve : v = con (cf v 0) := cfx fun n => by
    match n with
    | 0 => rfl
    | n + 1 => rw [i3 (n + 1) (by omega)]; rfl
  intro n
  have e := hC n
  rw [hv, ve, cf_con, Int.natAbs_mul] at e
  have : 1 <= (cf v 0).natAbs := by omega
  exact Nat.le_trans (Nat.le_mul_of_pos_left _ this) e
theorem wc_small {f g : List Int} {lr l H : Nat} (rf : lr + 1 <= f.length) (rg : lr + 1 <= g.length) (lf : f.length <= l) (lg : g.length <= l) (bf : ∀ m ∈ f, m.natAbs <= H) (bg : ∀ m ∈ g, m.natAbs <= H) (h1 : 1 <= H) :
    ∃ s t : Zx, Bw (g.length - lr) s /\ Bw (f.length - lr) t /\ Bw lr (s * mk f + t * mk g) /\ (∀ n, (cf (s * mk f + t * mk g) n).natAbs <= (4 * l * H) ^ (2 * l)) /\ ¬ (s = 0 /\ t = 0) := by
  obtain ⟨M, hM⟩ : ∃ M, M + 1 = (g.length - lr) + (f.length - lr) := ⟨(g.length - lr) + (f.length - lr) - 1, by omega⟩
  have q1 : 1 <= 4 * l * H := Nat.mul_pos (Nat.mul_pos (by decide) (by omega)) h1
  have gen : ∀ (B : Nat) (a b : List Int), (∀ m ∈ a, m.natAbs <= B) -> (∀ m ∈ b, m.natAbs <= B) -> ∀ n, (cf (mk a * mk f + mk b * mk g) n).natAbs <= 2 * (l * (H * B)) := fun B a b ha hb n => by
    rw [cf_add, cfm, cfm]
    have c1 := cm_abs ha bf n
    have c2 := cm_abs hb bg n
    have c3 : f.length * (H * B) <= l * (H * B) := Nat.mul_le_mul_right _ lf
    have c4 : g.length * (H * B) <= l * (H * B) := Nat.mul_le_mul_right _ lg
    omega
  have lst : ∀ (k : Nat) (x : Nat -> Int) (B : Nat), (∀ i, (x i).natAbs <= B) -> ∀ m ∈ (List.range k).map x, m.natAbs <= B := fun k x B h m hm => by
    obtain ⟨i, _, rfl⟩ := List.mem_map.mp hm
    exact h i
  have lget : ∀ (k : Nat) (x : Nat -> Int) (i : Nat), i < k -> ((List.range k).map x).getD i 0 = x i := fun k x i hi => by
    rw [getD_lt (by rw [List.length_map, List.length_range]; exact hi), List.getElem_map, List.getElem_range]
  have llen : ∀ (k : Nat) (x : Nat -> Int), ((List.range k).map x).length = k := fun k x => by rw [List.length_map, List.length_range]
  obtain ⟨x, y, hx, hy, ⟨i, hi, ne⟩, same⟩ := siegel (N := M + 1) (M := M) (B := (4 * l * H) ^ M) (C := 2 * (l * (H * (4 * l * H) ^ M))) (fun x j => cf (mk ((List.range (g.length - lr)).map fun i => (x i : Int)) * mk f + mk ((List.range (f.length - lr)).map fun i => (x (g.length - lr + i) : Int)) * mk g) (lr + j)) (fun x hx j _ => gen _ _ _ (lst _ _ _ fun i => by rw [Int.natAbs_natCast]; exact hx i) (lst _ _ _ fun i => by rw [Int.natAbs_natCast]; exact hx _) _) (by
    generalize hB : (4 * l * H) ^ M = B
    have e : 2 * (2 * (l * (H * B))) = 4 * l * H * B := by rw [<- Nat.mul_assoc, <- Nat.mul_assoc, <- Nat.mul_assoc]
    rw [e]
    have s1 : 4 * l * H * B + 1 <= 4 * l * H * (B + 1) := by rw [Nat.mul_succ]; omega
    have s2 : (4 * l * H * B + 1) ^ M <= (4 * l * H) ^ M * (B + 1) ^ M := by
      rw [<- Nat.mul_pow]
      exact Nat.pow_le_pow_left s1 M
    rw [hB] at s2
    have s3 : (B + 1) ^ (M + 1) = B * (B + 1) ^ M + (B + 1) ^ M := by rw [Nat.pow_succ, Nat.mul_comm, Nat.succ_mul]
    have s4 : 0 < (B + 1) ^ M := Nat.pow_pos (by omega)
    omega)
  have dxy : ∀ i, ((x i : Int) - (y i : Int)).natAbs <= (4 * l * H) ^ M := fun i => by
    have := hx i
    have := hy i
    omega
  have es : mk ((List.range (g.length - lr)).map fun i => (x i : Int) - (y i : Int)) = mk ((List.range (g.length - lr)).map fun i => (x i : Int)) - mk ((List.range (g.length - lr)).map fun i => (y i : Int)) := cfx fun n => by
    rw [cf_sub, cf_mk, cf_mk, cf_mk]
    by_cases c : n < g.length - lr
    . rw [lget _ _ _ c, lget _ _ _ c, lget _ _ _ c]
    . rw [getD_ge (by rw [llen]; omega), getD_ge (by rw [llen]; omega), getD_ge (by rw [llen]; omega)]
      rfl
  have et : mk ((List.range (f.length - lr)).map fun i => (x (g.length - lr + i) : Int) - (y (g.length - lr + i) : Int)) = mk ((List.range (f.length - lr)).map fun i => (x (g.length - lr + i) : Int)) - mk ((List.range (f.length - lr)).map fun i => (y (g.length - lr + i) : Int)) := cfx fun n => by
    rw [cf_sub, cf_mk, cf_mk, cf_mk]
    by_cases c : n < f.length - lr
    . rw [lget _ _ _ c, lget _ _ _ c, lget _ _ _ c]
    . rw [getD_ge (by rw [llen]; omega), getD_ge (by rw [llen]; omega), getD_ge (by rw [llen]; omega)]
      rfl
  have hs : Bw (g.length - lr) (mk ((List.range (g.length - lr)).map fun i => (x i : Int) - (y i : Int))) := by
    have := Bw.len ((List.range (g.length - lr)).map fun i => (x i : Int) - (y i : Int))
    rw [llen] at this
    exact this
  have ht : Bw (f.length - lr) (mk ((List.range (f.length - lr)).map fun i => (x (g.length - lr + i) : Int) - (y (g.length - lr + i) : Int))) := by
    have := Bw.len ((List.range (f.length - lr)).map fun i => (x (g.length - lr + i) : Int) - (y (g.length - lr + i) : Int))
    rw [llen] at this
    exact this
  refine ⟨_, _, hs, ht, fun n hn => ?_, fun n => ?_, fun z => ?_⟩
  . by_cases c : n < lr + M
    . have q := same (n - lr) (by omega)
      rw [show lr + (n - lr) = n by omega, cf_add, cf_add] at q
      have a : ∀ a b c d F G : Zx, (a - b) * F + (c - d) * G = (a * F + c * G) - (b * F + d * G) := fun a b c d F G => by grind
      rw [es, et, a, cf_sub, cf_add, cf_add]
      omega
    . have B1 : Bw (lr + M) (mk ((List.range (g.length - lr)).map fun i => (x i : Int) - (y i : Int)) * mk f) := Bw.mul hs (Bw.len f) (.inr (by omega))
      have B2 : Bw (lr + M) (mk ((List.range (f.length - lr)).map fun i => (x (g.length - lr + i) : Int) - (y (g.length - lr + i) : Int)) * mk g) := Bw.mul ht (Bw.len g) (.inr (by omega))
      exact B1.add B2 n (by omega)
  . refine Nat.le_trans (gen _ _ _ (lst _ _ _ fun i => dxy i) (lst _ _ _ fun i => dxy _) n) ?_
    have e : 2 * (l * (H * (4 * l * H) ^ M)) <= (4 * l * H) ^ (M + 1) := by
      rw [Nat.pow_succ, Nat.mul_comm _ (4 * l * H)]
      generalize (4 * l * H) ^ M = B
      have a : 4 * l * H * B = 2 * (2 * (l * (H * B))) := by
        rw [<- Nat.mul_assoc, <- Nat.mul_assoc, <- Nat.mul_assoc]
      omega
    exact Nat.le_trans e (Nat.pow_le_pow_right q1 (by omega))
  . obtain ⟨z1, z2⟩ := z
    by_cases c : i < g.length - lr
    . have q := congrArg (fun w => cf w i) z1
      rw [cf_mk, lget _ _ _ c, cf_zero] at q
      omega
    . have q := congrArg (fun w => cf w (i - (g.length - lr))) z2
      rw [cf_mk, lget _ _ _ (by omega), cf_zero, show g.length - lr + (i - (g.length - lr)) = i by omega] at q
      omega
end Zx
def Br (x : List Int) : Prop := InForm x /\ (x ≠ [] -> Bare x /\ 0 < lastI x)
namespace Zx
def Dz (h x : Zx) : Prop := ∃ v, x = v * h
structure Iv (l H : Nat) (f g b r : List Int) : Prop where
  hb : Br b
  nb : b ≠ []
  hr : Br r
  com : ∀ h : Zx, BareZ h -> ((Dz h (mk b) /\ Dz h (mk r)) ↔ (Dz h (mk f) /\ Dz h (mk g)))
  lg : r.length <= g.length
  lm : b.length <= f.length \/ r.length <= f.length
  st : r ≠ [] -> ∃ (L0 L1 W : Int) (s0 t0 s1 t1 : Zx), L0 ≠ 0 /\ con L0 * mk b = s0 * mk f + t0 * mk g /\ Bw (g.length + 1 - r.length) s0 /\ Bw (f.length + 1 - r.length) t0 /\ St (mk f) (mk g) (mk b) (mk r) f.length g.length b.length r.length L1 W s0 t0 s1 t1
  bb : ∀ n, (b.getD n 0).natAbs <= (4 * l * H) ^ (2 * l)
  br : ∀ n, (r.getD n 0).natAbs <= (4 * l * H) ^ (2 * l)
  l1 : b.length <= l
  l2 : r.length <= l
theorem Br.top {x : List Int} (h : Br x) (ne : x ≠ []) : cf (mk x) (x.length - 1) ≠ 0 := h.1 ne
theorem one_pow {l H : Nat} (hl : 1 <= l) (hH : 1 <= H) : H <= (4 * l * H) ^ (2 * l) := by
  have h1 : 1 <= 4 * l := by omega
  have h2 : H <= 4 * l * H := Nat.le_mul_of_pos_left _ h1
  refine Nat.le_trans h2 ?_
  have : (4 * l * H) ^ 1 <= (4 * l * H) ^ (2 * l) := Nat.pow_le_pow_right (by omega) (by omega)
  rw [Nat.pow_one] at this
  exact this
theorem iv_start {l H : Nat} {f g : List Int} (hf : Br f) (hg : Br g) (nf : f ≠ []) (ng : g ≠ []) (lf : f.length <= l) (lg : g.length <= l) (bf : ∀ n, (f.getD n 0).natAbs <= H) (bg : ∀ n, (g.getD n 0).natAbs <= H) : Iv l H f g f g := by
  have hl : 1 <= l := Nat.le_trans (lP nf) lf
  have hH : 1 <= H := Nat.le_trans (by have := hf.1 nf; omega) (bf (f.length - 1))
  have up := one_pow hl hH
  refine ⟨hf, nf, hg, fun h _ => Iff.rfl, Nat.le_refl _, .inl (Nat.le_refl _), fun _ => ⟨1, 1, 1, 1, 0, 0, 1, by decide, ?_, ?_, Bw.zero _, ⟨by decide, by decide, ?_, ?_, Bw.zero _, ?_⟩⟩, fun n => Nat.le_trans (bf n) up, fun n => Nat.le_trans (bg n) up, lf, lg⟩
  . show (1 : Zx) * mk f = _
    grind
  . exact (Bw.c 1).mono (by omega)
  . show (1 : Zx) * mk g = _
    grind
  . show _ = (1 : Zx)
    grind
  . exact (Bw.c 1).mono (by omega)
theorem step_alg {b r q h s0 t0 s1 t1 F G L0 L1 lk cc : Zx} (e : lk * b = q * r + cc * h) (e0 : L0 * b = s0 * F + t0 * G) (e1 : L1 * r = s1 * F + t1 * G) :
    L0 * L1 * cc * h = (L1 * lk * s0 - L0 * q * s1) * F + (L1 * lk * t0 - L0 * q * t1) * G := by
  have a : L0 * L1 * cc * h = L0 * L1 * (lk * b) - L0 * L1 * (q * r) := by rw [e]; grind
  have c : L0 * L1 * (lk * b) = L1 * lk * (L0 * b) := by grind
  have d : L0 * L1 * (q * r) = L0 * q * (L1 * r) := by grind
  rw [a, c, d, e0, e1]
  grind
theorem step_cr {s0 t0 s1 t1 L0 L1 lk q W : Zx} (cr : s0 * t1 - s1 * t0 = W) : s1 * (L1 * lk * t0 - L0 * q * t1) - (L1 * lk * s0 - L0 * q * s1) * t1 = -(L1 * lk * W) := by
  rw [<- cr]
  grind
theorem Dz.sum {p x y : Zx} (h : Dz p x) (k : Dz p y) (u v : Zx) : Dz p (u * x + v * y) := by
  obtain ⟨a, rfl⟩ := h
  obtain ⟨b, rfl⟩ := k
  exact ⟨u * a + v * b, by grind⟩
theorem Dz.con {p x : Zx} {k : Int} (hp : BareZ p) (k0 : k ≠ 0) (h : Dz p (con k * x)) : Dz p x := by
  obtain ⟨v, h⟩ := h
  exact goes hp k0 h
theorem iv_step {l H : Nat} {f g b r q h : List Int} {lk cc : Int} (hf : Br f) (hg : Br g) (nf : f ≠ []) (ng : g ≠ []) (lf : f.length <= l) (lg : g.length <= l) (bf : ∀ n, (f.getD n 0).natAbs <= H) (bg : ∀ n, (g.getD n 0).natAbs <= H)
    (I : Iv l H f g b r) (nr : r ≠ []) (k0 : lk ≠ 0) (c0 : cc ≠ 0) (e : con lk * mk b = mk q * mk r + con cc * mk h) (hh : Br h)
    (hl : (h.length < r.length /\ r.length <= b.length /\ q.length <= b.length + 1 - r.length) \/ (b.length < r.length /\ q = [] /\ h.length = b.length /\ ∀ n, (h.getD n 0).natAbs <= (b.getD n 0).natAbs)) : Iv l H f g r h := by
  have hH : 1 <= H := Nat.le_trans (by have := hf.1 nf; omega) (bf (f.length - 1))
  obtain ⟨L0, L1, W, s0, t0, s1, t1, l0, e0, d0, d1, S⟩ := I.st nr
  have i1 := I.lg
  have i2 := I.lm
  have i3 := I.l1
  have i4 := I.l2
  have hb : h.length <= b.length := by omega
  have qm : ∀ (x : Zx) (n : Nat), Bw (n + 1 - b.length) x -> Bw (n + 1 - r.length) (con L0 * mk q * x) := fun x n hx => by
    rcases hl with hl | hl
    . exact Bw.mul (Bw.con L0 (Bw.len q)) hx (by omega)
    . have z : con L0 * mk q * x = 0 := by
        have : mk q = 0 := by rw [hl.2.1]; exact ext fun n => by cases n <;> rfl
        rw [this]
        grind
      rw [z]
      exact Bw.zero _
  have cmul : ∀ (a b : Int) (x : Zx), con a * con b * x = con (a * b) * x := fun a b x => by rw [con_mul]
  have S' : St (mk f) (mk g) (mk r) (mk h) f.length g.length r.length h.length (L0 * L1 * cc) (-(L1 * lk * W)) s1 t1 (con L1 * con lk * s0 - con L0 * mk q * s1) (con L1 * con lk * t0 - con L0 * mk q * t1) := by
    refine ⟨Int.mul_ne_zero (Int.mul_ne_zero l0 S.l1) c0, ?_, ?_, ?_, ?_, ?_⟩
    . have := Int.mul_ne_zero (Int.mul_ne_zero S.l1 k0) S.w
      omega
    . rw [<- con_mul, <- con_mul]
      exact step_alg e e0 S.e1
    . rw [con_neg, <- con_mul, <- con_mul]
      exact step_cr S.cr
    . refine Bw.sub ?_ (qm _ _ S.d2)
      rw [cmul]
      exact Bw.con _ d0
    . refine Bw.sub ?_ (qm _ _ S.d3)
      rw [cmul]
      exact Bw.con _ d1
  refine ⟨I.hr, nr, hh, fun p hp => ?_, by omega, by omega, fun _ => ⟨L1, _, _, s1, t1, _, _, S.l1, S.e1, S.d2.mono (by omega), S.d3.mono (by omega), S'⟩, I.br, fun n => ?_, i4, by omega⟩
  . rw [<- I.com p hp]
    refine ⟨fun z => ⟨?_, z.1⟩, fun z => ⟨z.2, ?_⟩⟩
    . refine Dz.con hp k0 ?_
      rw [e]
      exact z.1.sum z.2 _ _
    . refine Dz.con hp c0 ?_
      have a : con cc * mk h = con lk * mk b + (-mk q) * mk r := by rw [e]; grind
      rw [a]
      exact z.1.sum z.2 _ _
  . rcases hl with hl | hl
    . by_cases nh : h = []
      . rw [nh]
        exact Nat.zero_le _
      have h1 := lP nh
      obtain ⟨s, t, a1, a2, a3, a4, a5⟩ := wc_small (f := f) (g := g) (lr := h.length) (l := l) (H := H) (by omega) (by omega) lf lg (fun m hm => by
        obtain ⟨n, _, rfl⟩ := FM.mem_getD hm
        exact bf n) (fun m hm => by
        obtain ⟨n, _, rfl⟩ := FM.mem_getD hm
        exact bg n) hH
      exact wc_bound S' (Bw.len f) (Br.top hf nf) (Bw.len h) (Br.top hh nh) (hh.2 nh).1 h1 (by omega) (by omega) (by omega) a1 a2 a3 a4 a5 n
    . exact Nat.le_trans (hl.2.2.2 n) (I.bb n)
end Zx
open Zx in
def WC (f g c : List Int) : Prop := Br c /\ ∀ h : Zx, BareZ h -> (Dz h (Zx.mk c) ↔ Dz h (Zx.mk f) /\ Dz h (Zx.mk g))
open Zx in
theorem WC.nil {f g c : List Int} (h : WC f g c) (e : c = []) : Zx.mk f = 0 /\ Zx.mk g = 0 := by
  have key : ∀ x : Zx, (∀ k : Nat, ∃ i, k <= i /\ Dz (Zx.mk (List.replicate i 0 ++ [1])) x) -> x = 0 := fun x hx => by
    obtain ⟨k, hk⟩ := exBw x
    obtain ⟨i, hi, v, rfl⟩ := hx k
    have l1 : (List.replicate i (0 : Int) ++ [1]).length = i + 1 := by rw [List.length_append, List.length_replicate]; rfl
    have b1 := Bw.len (List.replicate i (0 : Int) ++ [1])
    rw [l1] at b1
    have c1 : cf (Zx.mk (List.replicate i (0 : Int) ++ [1])) i ≠ 0 := by
      rw [cf_mk, snoc_get, if_pos (by rw [List.length_replicate])]
      decide
    rw [Zx.mul_comm] at hk
    rw [short b1 c1 (hk.mono hi), Zx.zero_mul]
  have bz : ∀ i : Nat, BareZ (Zx.mk (List.replicate i 0 ++ [1])) := fun i d hd => by
    have := hd i
    rw [cf_mk, snoc_get, if_pos (by rw [List.length_replicate])] at this
    have := Int.natCast_dvd_natCast.mp (show (d : Int) ∣ ((1 : Nat) : Int) from this)
    exact Nat.dvd_one.mp this
  have all : ∀ i : Nat, Dz (Zx.mk (List.replicate i 0 ++ [1])) (Zx.mk f) /\ Dz (Zx.mk (List.replicate i 0 ++ [1])) (Zx.mk g) := fun i => (h.2 _ (bz i)).mp ⟨0, by
    rw [e, Zx.zero_mul]
    exact ext fun n => by cases n <;> rfl⟩
  exact ⟨key _ fun k => ⟨k, Nat.le_refl k, (all k).1⟩, key _ fun k => ⟨k, Nat.le_refl k, (all k).2⟩⟩
open Zx in
theorem Dz.len {a b : List Int} (h : Dz (Zx.mk a) (Zx.mk b)) (fa : InForm a) (fb : InForm b) (nb : b ≠ []) : a.length <= b.length /\ ∃ w : Int, lastI b = w * lastI a \/ a.length < b.length := by
  obtain ⟨v, hv⟩ := h
  have v0 : v ≠ 0 := fun z => by
    rw [z, Zx.zero_mul] at hv
    have := fb nb
    have e := congrArg (fun x => cf x (b.length - 1)) hv
    rw [cf_mk, cf_zero] at e
    exact this e
  have na : a ≠ [] := fun z => by
    have : Zx.mk a = 0 := by rw [z]; exact ext fun n => by cases n <;> rfl
    rw [this, Zx.mul_comm, Zx.zero_mul] at hv
    have e := congrArg (fun x => cf x (b.length - 1)) hv
    rw [cf_mk, cf_zero] at e
    exact fb nb e
  have la := lP na
  have lb := lP nb
  obtain ⟨k, hk⟩ := exBw v
  obtain ⟨i, _, i2, i3⟩ := Zx.top k hk v0
  have ba := Bw.len a
  rw [show a.length = a.length - 1 + 1 by omega] at ba
  have t := top_mul i3 ba
  rw [<- hv] at t
  have ta : cf (Zx.mk a) (a.length - 1) ≠ 0 := fa na
  have tn := Int.mul_ne_zero i2 ta
  rw [<- t] at tn
  have lt : i + (a.length - 1) < b.length := Classical.byContradiction fun c => tn (Bw.len b _ (by omega))
  refine ⟨by omega, cf v i, ?_⟩
  by_cases c : a.length < b.length
  . exact .inr c
  . have i0 : i = 0 := by omega
    refine .inl ?_
    rw [i0, show 0 + (a.length - 1) = b.length - 1 by omega] at t
    rw [i0]
    exact t
open Zx in
theorem WC.uniq {f g c d : List Int} (h : WC f g c) (k : WC f g d) : c = d := by
  by_cases nc : c = []
  . by_cases nd : d = []
    . rw [nc, nd]
    have z := WC.nil h nc
    have q := ((k.2 (Zx.mk (List.replicate d.length 0 ++ [1])) fun e hd => by
      have := hd d.length
      rw [cf_mk, snoc_get, if_pos (by rw [List.length_replicate])] at this
      exact Nat.dvd_one.mp (Int.natCast_dvd_natCast.mp (show (e : Int) ∣ ((1 : Nat) : Int) from this))).mpr ⟨⟨0, by rw [z.1, Zx.zero_mul]⟩, ⟨0, by rw [z.2, Zx.zero_mul]⟩⟩)
    have := (Dz.len q (fun _ => by
      rw [List.length_append, List.length_replicate, snoc_get, if_pos (by rw [List.length_replicate, List.length_singleton]; omega)]
      decide) k.1.1 nd).1
    rw [List.length_append, List.length_replicate, List.length_singleton] at this
    omega
  by_cases nd : d = []
  . have z := WC.nil k nd
    have q := ((h.2 (Zx.mk (List.replicate c.length 0 ++ [1])) fun e hd => by
      have := hd c.length
      rw [cf_mk, snoc_get, if_pos (by rw [List.length_replicate])] at this
      exact Nat.dvd_one.mp (Int.natCast_dvd_natCast.mp (show (e : Int) ∣ ((1 : Nat) : Int) from this))).mpr ⟨⟨0, by rw [z.1, Zx.zero_mul]⟩, ⟨0, by rw [z.2, Zx.zero_mul]⟩⟩)
    have := (Dz.len q (fun _ => by
      rw [List.length_append, List.length_replicate, snoc_get, if_pos (by rw [List.length_replicate, List.length_singleton]; omega)]
      decide) h.1.1 nc).1
    rw [List.length_append, List.length_replicate, List.length_singleton] at this
    omega
  obtain ⟨bc, pc⟩ := h.1.2 nc
  obtain ⟨bd, pd⟩ := k.1.2 nd
  have d1 : Dz (Zx.mk c) (Zx.mk d) := (k.2 (Zx.mk c) bc).mpr ((h.2 (Zx.mk c) bc).mp ⟨1, by rw [Zx.one_mul]⟩)
  have d2 : Dz (Zx.mk d) (Zx.mk c) := (h.2 (Zx.mk d) bd).mpr ((k.2 (Zx.mk d) bd).mp ⟨1, by rw [Zx.one_mul]⟩)
  obtain ⟨v, hv⟩ := d1
  obtain ⟨u, hu⟩ := d2
  have l1 := (Dz.len ⟨v, hv⟩ h.1.1 k.1.1 nd).1
  have l2 := (Dz.len ⟨u, hu⟩ k.1.1 h.1.1 nc).1
  have cn : Zx.mk c ≠ 0 := fun z => by
    have := congrArg (fun x => cf x (c.length - 1)) z
    rw [cf_mk, cf_zero] at this
    exact h.1.1 nc this
  have uv : u * v = 1 := by
    have : (u * v - 1) * Zx.mk c = 0 := by
      have : u * v * Zx.mk c = Zx.mk c := by rw [Zx.mul_assoc, <- hv, <- hu]
      grind
    rcases dom this with z | z
    . grind
    . exact absurd z cn
  have lc := lP nc
  have v0 : v ≠ 0 := fun z => by
    rw [z, Zx.mul_comm, Zx.zero_mul] at uv
    have := congrArg (fun x => cf x 0) uv
    exact absurd this (by decide)
  obtain ⟨m, hm⟩ := exBw v
  obtain ⟨i, _, i2, i3⟩ := Zx.top m hm v0
  have ba := Bw.len c
  rw [show c.length = c.length - 1 + 1 by omega] at ba
  have t := top_mul i3 ba
  rw [<- hv] at t
  have ta : cf (Zx.mk c) (c.length - 1) ≠ 0 := h.1.1 nc
  have i0 : i = 0 := Classical.byContradiction fun q => by
    have := Int.mul_ne_zero i2 ta
    rw [<- t] at this
    exact this (Bw.len d _ (by omega))
  subst i0
  have ve : v = con (cf v 0) := cfx fun n => by
    match n with
    | 0 => rfl
    | n + 1 => rw [i3 (n + 1) (by omega)]; rfl
  have dn : ∀ n, d.getD n 0 = cf v 0 * c.getD n 0 := fun n => by
    have := congrArg (fun x => cf x n) hv
    rw [ve, cf_con] at this
    exact this
  have v1 : (cf v 0).natAbs = 1 := bd _ fun n => by
    rw [dn n]
    exact Int.dvd_trans (Int.natAbs_dvd.mpr (Int.dvd_refl _)) (Int.dvd_mul_right _ _)
  have ldn : lastI d = cf v 0 * lastI c := by
    unfold lastI
    rw [show d.length - 1 = c.length - 1 by omega]
    exact dn _
  have vp : cf v 0 = 1 := by
    rcases Int.natAbs_eq (cf v 0) with z | z
    . rw [z, v1]; rfl
    . rw [v1] at z
      rw [z] at ldn
      omega
  refine form_ext h.1.1 k.1.1 fun n => ?_
  rw [dn n, vp, Int.one_mul]
open Zx in
theorem WC.swap {f g c : List Int} (h : WC f g c) : WC g f c := ⟨h.1, fun p hp => by rw [h.2 p hp]; exact ⟨fun z => ⟨z.2, z.1⟩, fun z => ⟨z.2, z.1⟩⟩⟩
open Classical in
def wcF (f g : List Int) : List Int := if h : ∃ c, WC f g c then h.choose else []
theorem wcF_eq {f g c : List Int} (h : WC f g c) : wcF f g = c := by
  have e : ∃ c, WC f g c := ⟨c, h⟩
  unfold wcF
  rw [dif_pos e]
  exact WC.uniq e.choose_spec h
theorem gcd_nat_step {x y : Int} (hx : 0 <= x) (hy : 0 <= y) : Int.gcd y (x % y) = Int.gcd x y := by
  obtain ⟨m, rfl⟩ := Int.eq_ofNat_of_zero_le hx
  obtain ⟨n, rfl⟩ := Int.eq_ofNat_of_zero_le hy
  rw [<- Int.natCast_emod]
  show Nat.gcd n (m % n) = Nat.gcd m n
  rw [Nat.gcd_comm n, <- Nat.gcd_rec, Nat.gcd_comm]
theorem gcd_f_step (x y : Int) : Int.gcd y (x.fmod y) = Int.gcd x y := by
  have e : x = x.fmod y + y * x.fdiv y := by have := Int.fmod_add_mul_fdiv x y; omega
  have d1 : (Int.gcd y (x.fmod y) : Int) ∣ (Int.gcd x y : Int) := by
    refine Int.dvd_coe_gcd ?_ (Int.gcd_dvd_left ..)
    rw [e]
    refine Int.dvd_add ?_ ?_
    . have := Int.gcd_dvd_right (a := y) (b := x.fmod y)
      rw [<- e]
      exact this
    . exact Int.dvd_mul_of_dvd_left (Int.gcd_dvd_left ..)
  have d2 : (Int.gcd x y : Int) ∣ (Int.gcd y (x.fmod y) : Int) := by
    refine Int.dvd_coe_gcd (Int.gcd_dvd_right ..) ?_
    have e2 : x.fmod y = x - y * x.fdiv y := by omega
    rw [e2]
    exact Int.dvd_sub (Int.gcd_dvd_left ..) (Int.dvd_mul_of_dvd_left (Int.gcd_dvd_right ..))
  exact Nat.dvd_antisymm (Int.natCast_dvd_natCast.mp d1) (Int.natCast_dvd_natCast.mp d2)
theorem fmod_small (x y : Int) (h : y ≠ 0) : (x.fmod y).natAbs < y.natAbs := by
  rcases Int.lt_or_gt_of_ne h with h | h
  . have e : x.fmod y = -((-x) % (-y)) := by
      rw [<- Int.fmod_eq_emod_of_nonneg (-x) (by omega : 0 <= -y)]
      rw [Int.neg_fmod_neg]
      omega
    have h1 := Int.emod_nonneg (-x) (show -y ≠ 0 by omega)
    have h2 := Int.emod_lt_of_pos (-x) (show 0 < -y by omega)
    omega
  . rw [Int.fmod_eq_emod_of_nonneg x (by omega : 0 <= y)]
    have h1 := Int.emod_nonneg x (show y ≠ 0 by omega)
    have h2 := Int.emod_lt_of_pos x h
    omega
def gcdF (c : Int) (w : List Int) : Int := w.foldl (fun c n => (Int.gcd c n : Int)) c
theorem gcdF_dvd : ∀ (w : List Int) (c : Int), gcdF c w ∣ c /\ ∀ n ∈ w, gcdF c w ∣ n
  | [], c => ⟨Int.dvd_refl _, fun n h => by cases h⟩
  | m :: r, c => by
    have ih := gcdF_dvd r (Int.gcd c m : Int)
    have e : gcdF c (m :: r) = gcdF (Int.gcd c m : Int) r := rfl
    rw [e]
    refine ⟨Int.dvd_trans ih.1 (Int.gcd_dvd_left ..), fun n h => ?_⟩
    rcases List.mem_cons.mp h with rfl | h
    . exact Int.dvd_trans ih.1 (Int.gcd_dvd_right ..)
    . exact ih.2 n h
theorem gcdF_nn : ∀ (w : List Int) (c : Int), 0 <= c -> 0 <= gcdF c w
  | [], c, h => h
  | m :: r, c, _ => gcdF_nn r _ (Int.natCast_nonneg _)
theorem gcdF_app (c : Int) (a b : List Int) : gcdF c (a ++ b) = gcdF (gcdF c a) b := by unfold gcdF; rw [List.foldl_append]
theorem trimZ_last {xs : List Int} (h : trimZ xs ≠ []) : (trimZ xs).getLast h ≠ 0 := by
  unfold trimZ at h ⊢
  have h2 : xs.reverse.dropWhile (fun x : Int => x == 0) ≠ [] := fun z => h (by rw [z]; rfl)
  rw [List.getLast_reverse]
  have := List.head_dropWhile_not (fun x : Int => x == 0) (l := xs.reverse) h2
  simpa using this
theorem mul_fdiv_dvd {c n : Int} (h : c ∣ n) : c * n.fdiv c = n := by
  have := Int.fmod_add_mul_fdiv n c
  rw [Int.fmod_eq_zero_of_dvd h] at this
  omega
theorem sign_div {c n : Int} (h : c ∣ n) (hn : (n < 0 /\ c < 0) \/ (0 < n /\ 0 < c)) : 1 <= n.fdiv c := by
  have e := mul_fdiv_dvd h
  generalize n.fdiv c = q at *
  rcases Int.lt_or_le q 1 with hq | hq
  . exfalso
    rcases hn with ⟨h1, h2⟩ | ⟨h1, h2⟩
    . have := Int.mul_nonneg_of_nonpos_of_nonpos (Int.le_of_lt h2) (by omega : q <= 0)
      omega
    . have := Int.mul_nonpos_of_nonneg_of_nonpos (Int.le_of_lt h2) (by omega : q <= 0)
      omega
  . exact hq
theorem kx_common_divisor (T : Top K mg cK cW) : Ok P w K mg base 1 "common_divisor" ["a", "b"] (spFI K (GkW cW) (fun as => ∃ a b, as = [.int a, .int b]) fun as => match as with
    | [.int a, .int b] => (Int.gcd a b : Int)
    | _ => 0) := by
  refine okF T.d_common_divisor sc_common_divisor (fun as ⟨a, b, h⟩ => by rw [h]; rfl) (fun f cdv A outer s H E hr => ⟨_, (xss_cons (xst_setI (i := 2) sc_common_divisor.nd rfl (Or.inl rfl) (xn_abs T.b_abs (xn 0)))
 (xss_cons (xst_setI (i := 3) sc_common_divisor.nd rfl (Or.inl rfl) (xn_abs T.b_abs (xn 1)))
 (xss_cons (xst_while PassesOwn.never (xt_ne (xn 3) xn_int)
 (xss_cons (xst_setI (i := 4) sc_common_divisor.nd rfl (Or.inl rfl) (xn_mod (xn 2) (xn 3)))
 (xss_cons (xst_setI (i := 2) sc_common_divisor.nd rfl (Or.inl rfl) (xn 3))
 (xss_one (xst_setI (i := 3) sc_common_divisor.nd rfl (Or.inl rfl) (xn 4))))))
 (xss_one (xst_ret (xn 2)))))), fun as hp => ?_⟩)
  obtain ⟨a, b, rfl⟩ := hp
  refine ⟨rfl, fun u eu => ⟨rfl, fun v ev => ?_⟩⟩
  have eu : u = if a < 0 then -a else a := eu
  have ev : v = if b < 0 then -b else b := ev
  have u0 : u = (a.natAbs : Int) := by rw [eu]; split <;> omega
  have v0 : v = (b.natAbs : Int) := by rw [ev]; split <;> omega
  refine ⟨fun Z => ∃ x y w, Z = [.fr (.int a), .fr (.int b), .fr (.int x), .fr (.int y), w] /\ 0 <= x /\ 0 <= y /\ Int.gcd x y = Int.gcd a b, fun Z => (getI Z 3).toNat, ⟨u, v, .un, rfl, by omega, by omega, by rw [u0, v0]; rfl⟩, ?_⟩
  rintro Z ⟨x, y, w, rfl, hx, hy, hg⟩
  refine ⟨⟨rfl, tT⟩, fun q => ?_, fun q => ?_⟩
  . have q : ¬ y = 0 := q
    refine ⟨⟨rfl, rfl, by show 0 < y; omega⟩, fun m em => ⟨rfl, fun x' ex => ⟨rfl, fun y' ey => ?_⟩⟩⟩
    have em : m = x % y := em
    have ex : x' = y := ex
    have ey : y' = m := ey
    subst ex ey
    have h1 := Int.emod_nonneg x (show x' ≠ 0 by omega)
    have h2 := Int.emod_lt_of_pos x (show 0 < x' by omega)
    refine ⟨⟨x', y', _, rfl, hy, by omega, by rw [em, gcd_nat_step hx hy]; exact hg⟩, ?_⟩
    show y'.toNat < x'.toNat
    omega
  . have q : ¬ ¬ y = 0 := q
    have q : y = 0 := Classical.not_not.mp q
    refine ⟨rfl, ?_⟩
    show PV.int x = PV.int (Int.gcd a b : Int)
    rw [<- hg, q, Int.gcd_zero_right]
    congr 1
    omega
def cont (w : List Int) : Int := if ¬ w = [] /\ w.getD (ixO w.length (-1)) 0 < 0 then -gcdF 0 w else gcdF 0 w
def baredF (f : List Int) : PV := .tup [.int (cont (trimZ f)), .ints ((trimZ f).map fun n => n.fdiv (cont (trimZ f)))]
theorem map_pl0 (f : List Int) : f.map (pl 0) = f := by
  have : (pl 0) = id := by funext n; rfl
  rw [this, List.map_id]
theorem trimZ_mem {xs : List Int} {m : Int} (h : m ∈ trimZ xs) : m ∈ xs := by
  unfold trimZ at h
  exact List.mem_reverse.mp ((List.dropWhile_sublist _).subset (List.mem_reverse.mp h))
theorem cont_dvd {w : List Int} : ∀ n ∈ w, cont w ∣ n := fun n hn => by
  have := (gcdF_dvd w 0).2 n hn
  unfold cont
  split
  . exact Int.neg_dvd.mpr this
  . exact this
theorem cont_ne {f : List Int} (h : trimZ f ≠ []) : cont (trimZ f) ≠ 0 := fun z => by
  have h1 := cont_dvd (w := trimZ f) _ (List.getLast_mem h)
  rw [z] at h1
  exact trimZ_last h (Int.zero_dvd.mp h1)
theorem sm_mul (l : Int) (f : Nat -> Int) : ∀ n, sm n (fun i => l * f i) = l * sm n f
  | 0 => by show (0 : Int) = l * 0; omega
  | n + 1 => by
    show sm n (fun i => l * f i) + l * f n = l * (sm n f + f n)
    rw [sm_mul l f n, Int.mul_add]
theorem cm_scale (l : Int) (q d : List Int) (i : Nat) : cm (q.map fun n => l * n) d i = l * cm q d i := by
  unfold cm
  rw [<- sm_mul]
  refine sm_congr fun j _ => ?_
  rw [getD_map (fun n => l * n) (by omega), Int.mul_assoc]
theorem cm_cons (o : Int) (q d : List Int) (i : Nat) : cm (o :: q) d i = o * d.getD i 0 + if i = 0 then 0 else cm q d (i - 1) := by
  unfold cm
  rw [sm_head]
  show o * d.getD (i - 0) 0 + _ = _
  rw [Nat.sub_zero]
  congr 1
  match i with
  | 0 => rw [if_pos rfl]; rfl
  | i + 1 =>
    rw [if_neg (by omega)]
    show sm (i + 1) _ = sm (i + 1) _
    refine sm_congr fun j _ => ?_
    show q.getD j 0 * d.getD (i + 1 - (j + 1)) 0 = q.getD j 0 * d.getD (i - j) 0
    rw [Nat.add_sub_add_right]
def shf (s : Nat) (g : Nat -> Int) (j : Nat) : Int := if j < s then 0 else g (j - s)
theorem cut_last (xs : List Int) : cutI xs none (some (-1)) = xs.dropLast := by
  unfold cutI
  simp only [HT.sIx]
  rw [List.drop_zero, List.dropLast_eq_take, if_pos (by omega)]
  congr 1
  omega
theorem app_l {a b : List Int} {j : Nat} (h : j < a.length) : (a ++ b).getD j 0 = a.getD j 0 := by
  rw [gQ, List.getElem?_append_left h, <- gQ]
theorem app_r {a b : List Int} {j : Nat} (h : a.length <= j) : (a ++ b).getD j 0 = b.getD (j - a.length) 0 := by
  rw [gQ, List.getElem?_append_right h, <- gQ]
theorem rep_get (k j : Nat) : (List.replicate k (0 : Int)).getD j 0 = 0 := by
  rw [gQ, List.getElem?_replicate]
  split <;> rfl
theorem zip_get (f : Int × Int -> Int) {a b : List Int} {j : Nat} (ha : j < a.length) (hb : j < b.length) : ((a.zip b).map f).getD j 0 = f (a.getD j 0, b.getD j 0) := by
  have hz : j < ((a.zip b).map f).length := by rw [List.length_map, List.length_zip]; omega
  rw [getD_lt hz, List.getElem_map, List.getElem_zip, getD_lt ha, getD_lt hb]
theorem drop_get {a : List Int} {j : Nat} (h : j < a.length - 1) : a.dropLast.getD j 0 = a.getD j 0 := by
  have hz : j < a.dropLast.length := by rw [List.length_dropLast]; exact h
  rw [getD_lt hz, List.getElem_dropLast, getD_lt (by omega)]
def tkn (o : Int) (d r : List Int) : List Int := List.replicate ((r.length : Int) - (d.length : Int)).toNat 0 ++ d.map fun n => o * n
def nxR (l : Int) (d r : List Int) : List Int := ((r.zip (tkn (r.getD (r.length - 1) 0) d r)).map fun p => l * p.1 - p.2).dropLast
def nxQ (l : Int) (r q : List Int) : List Int := r.getD (r.length - 1) 0 :: q.map fun n => l * n
theorem tkn_len {o : Int} {d r : List Int} (h : d.length <= r.length) : (tkn o d r).length = r.length := by
  unfold tkn
  rw [List.length_append, List.length_replicate, List.length_map]
  omega
theorem tkn_get {o : Int} {d r : List Int} (h : d.length <= r.length) (j : Nat) : (tkn o d r).getD j 0 = o * shf (r.length - d.length) (fun i => d.getD i 0) j := by
  unfold tkn shf
  have e : ((r.length : Int) - (d.length : Int)).toNat = r.length - d.length := by omega
  rw [e]
  by_cases c : j < r.length - d.length
  . rw [if_pos c, app_l (by rw [List.length_replicate]; exact c), rep_get]
    omega
  . rw [if_neg c, app_r (by rw [List.length_replicate]; omega), List.length_replicate, getD_map (fun n => o * n) (by omega)]
theorem nxR_len {l : Int} {d r : List Int} (h : d.length <= r.length) : (nxR l d r).length = r.length - 1 := by
  unfold nxR
  rw [List.length_dropLast, List.length_map, List.length_zip, tkn_len h, Nat.min_self]
theorem nxR_get {l : Int} {d r : List Int} (h : d.length <= r.length) (hd : 0 < d.length) (hl : l = d.getD (d.length - 1) 0) (j : Nat) : (nxR l d r).getD j 0 = l * r.getD j 0 - (tkn (r.getD (r.length - 1) 0) d r).getD j 0 := by
  have hlen := nxR_len (l := l) h
  have tl := tkn_len (o := r.getD (r.length - 1) 0) h
  by_cases c : j < r.length - 1
  . unfold nxR
    rw [drop_get (by rw [List.length_map, List.length_zip, tl, Nat.min_self]; exact c), zip_get _ (by omega) (by rw [tl]; omega)]
  . rw [getD_ge (by rw [hlen]; omega), tkn_get h]
    by_cases c2 : j = r.length - 1
    . subst c2
      unfold shf
      rw [if_neg (by omega), show r.length - 1 - (r.length - d.length) = d.length - 1 by omega]
      show 0 = l * r.getD (r.length - 1) 0 - r.getD (r.length - 1) 0 * d.getD (d.length - 1) 0
      rw [<- hl, Int.mul_comm]
      omega
    . rw [getD_ge (show r.length <= j by omega)]
      unfold shf
      rw [if_neg (by omega)]
      show 0 = l * 0 - r.getD (r.length - 1) 0 * d.getD (j - (r.length - d.length)) 0
      rw [getD_ge (show d.length <= j - (r.length - d.length) by omega)]
      omega
def StI (l : Int) (d F : List Int) (k : Nat) (r q : List Int) : Prop := ∀ j, l ^ k * F.getD j 0 = r.getD j 0 + shf (r.length + 1 - d.length) (cm q d) j
theorem st_start (l : Int) (d F : List Int) : StI l d F 0 F [] := fun j => by
  have : ∀ i, cm [] d i = 0 := fun i => sm_zero fun t _ => by show (0 : Int) * _ = 0; omega
  unfold shf
  rw [this]
  simp
theorem st_step {l : Int} {d F r q : List Int} {k : Nat} (h : StI l d F k r q) (hd : 0 < d.length) (hle : d.length <= r.length) (hl : l = d.getD (d.length - 1) 0) : StI l d F (k + 1) (nxR l d r) (nxQ l r q) := fun j => by
  have e1 : l ^ (k + 1) * F.getD j 0 = l * (l ^ k * F.getD j 0) := by rw [Int.pow_succ, Int.mul_comm (l ^ k) l, Int.mul_assoc]
  rw [e1, h j, Int.mul_add, nxR_get hle hd hl, tkn_get hle, nxR_len hle]
  have es : r.length - 1 + 1 - d.length = r.length - d.length := by omega
  rw [es]
  unfold shf nxQ
  generalize r.getD (r.length - 1) 0 = o
  by_cases c : j < r.length - d.length
  . rw [if_pos c, if_pos c, if_pos (by omega)]
    omega
  . rw [if_neg c, if_neg c, cm_cons, cm_scale]
    dsimp only
    by_cases c2 : j = r.length - d.length
    . rw [if_pos (by omega), if_pos (by omega)]
      omega
    . rw [if_neg (by omega), if_neg (by omega), show j - (r.length - d.length) - 1 = j - (r.length + 1 - d.length) by omega]
      omega
theorem st_end {l : Int} {d F r q : List Int} {k : Nat} (h : StI l d F k r q) (hl : r.length + 1 = d.length) (j : Nat) : l ^ k * F.getD j 0 = r.getD j 0 + cm q d j := by
  have := h j
  rw [show r.length + 1 - d.length = 0 by omega] at this
  unfold shf at this
  rw [if_neg (by omega), Nat.sub_zero] at this
  exact this
def itR (l : Int) (d F : List Int) : Nat -> List Int
  | 0 => F
  | k + 1 => nxR l d (itR l d F k)
def itQ (l : Int) (d F : List Int) : Nat -> List Int
  | 0 => []
  | k + 1 => nxQ l (itR l d F k) (itQ l d F k)
theorem itR_len {l : Int} {d F : List Int} (hd : 0 < d.length) : ∀ k, k <= F.length + 1 - d.length -> (itR l d F k).length = F.length - k
  | 0, _ => by simp [itR]
  | k + 1, h => by
    have ih := itR_len (l := l) (F := F) hd k (by omega)
    show (nxR l d (itR l d F k)).length = _
    rw [nxR_len (show d.length <= (itR l d F k).length by rw [ih]; omega), ih]
    omega
theorem it_st {l : Int} {d F : List Int} (hd : 0 < d.length) (hl : l = d.getD (d.length - 1) 0) : ∀ k, k <= F.length + 1 - d.length -> StI l d F k (itR l d F k) (itQ l d F k)
  | 0, _ => st_start l d F
  | k + 1, h => st_step (it_st hd hl k (Nat.le_of_succ_le h)) hd (by rw [itR_len hd k (Nat.le_of_succ_le h)]; omega) hl
theorem itQ_len {l : Int} {d F : List Int} : ∀ k, (itQ l d F k).length = k
  | 0 => rfl
  | k + 1 => by show (_ :: (itQ l d F k).map _).length = k + 1; rw [List.length_cons, List.length_map, itQ_len k]
theorem it_b {l : Int} {d F : List Int} {A : Nat} (hA : 1 <= A) (hl : l.natAbs <= A) (hd : ∀ m ∈ d, m.natAbs <= A) (hF : ∀ m ∈ F, m.natAbs <= A) : ∀ k, (∀ m ∈ itR l d F k, m.natAbs <= (2 * A) ^ (k + 1)) /\ ∀ m ∈ itQ l d F k, m.natAbs <= (2 * A) ^ (k + 1)
  | 0 => ⟨fun m hm => by have := hF m hm; rw [show (2 * A) ^ (0 + 1) = 2 * A by rw [Nat.pow_succ, Nat.pow_zero, Nat.one_mul]]; omega, fun m hm => by cases hm⟩
  | k + 1 => by
    obtain ⟨h1, h2⟩ := it_b hA hl hd hF k
    have ho : ((itR l d F k).getD ((itR l d F k).length - 1) 0).natAbs <= (2 * A) ^ (k + 1) := by
      by_cases c : (itR l d F k).length - 1 < (itR l d F k).length
      . exact h1 _ (FM.getD_mem c)
      . rw [getD_ge (by omega)]; exact Nat.zero_le _
    have grow : (2 * A) ^ (k + 1) <= (2 * A) ^ (k + 1 + 1) := Nat.pow_le_pow_right (by omega) (by omega)
    have e : (2 * A) ^ (k + 1 + 1) = A * (2 * A) ^ (k + 1) + A * (2 * A) ^ (k + 1) := by rw [Nat.pow_succ (2 * A) (k + 1), Nat.mul_comm, Nat.mul_assoc, Nat.two_mul]
    have up : ∀ {a b : Int}, a.natAbs <= A -> b.natAbs <= (2 * A) ^ (k + 1) -> (a * b).natAbs <= A * (2 * A) ^ (k + 1) := fun ha hb => by rw [Int.natAbs_mul]; exact Nat.mul_le_mul ha hb
    refine ⟨fun m hm => ?_, fun m hm => ?_⟩
    . have hm := List.dropLast_subset _ hm
      obtain ⟨⟨x, y⟩, hp, rfl⟩ := List.mem_map.mp hm
      have hx := h1 x (List.of_mem_zip hp).1
      have hy := (List.of_mem_zip hp).2
      have hy2 : y.natAbs <= A * (2 * A) ^ (k + 1) := by
        unfold tkn at hy
        rcases List.mem_append.mp hy with z | z
        . rw [(List.mem_replicate.mp z).2]; exact Nat.zero_le _
        . obtain ⟨n, hn, rfl⟩ := List.mem_map.mp z
          rw [Int.mul_comm]
          exact up (hd n hn) ho
      have hx2 := up hl hx
      show (l * x - y).natAbs <= _
      rw [e]
      omega
    . rcases List.mem_cons.mp hm with rfl | hm
      . exact Nat.le_trans ho grow
      . obtain ⟨n, hn, rfl⟩ := List.mem_map.mp hm
        have := up hl (h2 n hn)
        rw [e]
        omega
def RowN (N : Nat) (f g : List Int) (i k : Nat) (row : List Int) : Prop := row.length = N /\ ∀ n, row.getD n 0 = cpart f g n i + if i <= n /\ n - i < k then f.getD i 0 * g.getD (n - i) 0 else 0
theorem rowN_start (N : Nat) (f g : List Int) : RowN N f g 0 0 (List.replicate N 0) := by
  refine ⟨List.length_replicate, fun n => ?_⟩
  rw [if_neg (by omega)]
  show _ = (0 : Int) + 0
  by_cases h : n < N
  . rw [getD_lt (by rw [List.length_replicate]; exact h), List.getElem_replicate]; rfl
  . rw [getD_ge (by rw [List.length_replicate]; omega)]; rfl
theorem rowN_step {N : Nat} {f g row : List Int} {i k : Nat} (h : RowN N f g i k row) (hN : f.length + g.length <= N) (hi : i < f.length) (hk : k < g.length) : RowN N f g i (k + 1) (row.set (i + k) (row.getD (i + k) 0 + f.getD i 0 * g.getD k 0)) := by
  obtain ⟨hl, hr⟩ := h
  refine ⟨by rw [List.length_set]; exact hl, fun n => ?_⟩
  rw [set_get _ _ _ _ (by omega)]
  by_cases c : n = i + k
  . subst c
    rw [if_pos rfl, hr, if_neg (by omega), if_pos (by omega), show i + k - i = k by omega]
    omega
  . rw [if_neg c, hr]
    by_cases d : i <= n /\ n - i < k
    . rw [if_pos d, if_pos (by omega)]
    . rw [if_neg d, if_neg (by omega)]
theorem rowN_next {N : Nat} {f g row : List Int} {i : Nat} (h : RowN N f g i g.length row) : RowN N f g (i + 1) 0 row := by
  obtain ⟨hl, hr⟩ := h
  refine ⟨hl, fun n => ?_⟩
  rw [hr, if_neg (show ¬ (i + 1 <= n /\ n - (i + 1) < 0) by omega)]
  show _ = cpart f g n i + (if i <= n then f.getD i 0 * g.getD (n - i) 0 else 0) + 0
  by_cases c : i <= n
  . rw [if_pos c]
    by_cases d : n - i < g.length
    . rw [if_pos ⟨c, d⟩]; omega
    . rw [if_neg (by omega), getD_ge (show g.length <= n - i by omega), Int.mul_zero]; omega
  . rw [if_neg (by omega), if_neg c]; omega
theorem rowN_end {N : Nat} {f g row : List Int} (h : RowN N f g f.length 0 row) (n : Nat) : row.getD n 0 = cm f g n := by
  rw [h.2, if_neg (by omega), cpart_all f g n (Nat.le_refl _)]
  omega
def ldL (d : List Int) : Int := d.getD (d.length - 1) 0
def bareL (f : List Int) : List Int := (trimZ f).map fun n => n.fdiv (cont (trimZ f))
theorem gcdF_great {d : Int} : ∀ (w : List Int) (c : Int), d ∣ c -> (∀ n ∈ w, d ∣ n) -> d ∣ gcdF c w
  | [], _, hc, _ => hc
  | m :: r, c, hc, h => gcdF_great r (Int.gcd c m : Int) (Int.dvd_coe_gcd hc (h m List.mem_cons_self)) fun n hn => h n (List.mem_cons_of_mem _ hn)
theorem bareL_len (f : List Int) : (bareL f).length = (trimZ f).length := by unfold bareL; rw [List.length_map]
theorem bareL_get (f : List Int) (n : Nat) : f.getD n 0 = cont (trimZ f) * (bareL f).getD n 0 := by
  have e := (trim_get f n).symm
  rw [e]
  unfold bareL
  by_cases c : n < (trimZ f).length
  . rw [getD_lt c, getD_lt (by rw [List.length_map]; exact c), List.getElem_map]
    exact (mul_fdiv_dvd (cont_dvd _ (List.getElem_mem c))).symm
  . rw [getD_ge (by omega), getD_ge (by rw [List.length_map]; omega), Int.mul_zero]
theorem cont_abs (w : List Int) : (cont w).natAbs = (gcdF 0 w).natAbs := by
  unfold cont
  split
  . rw [Int.natAbs_neg]
  . rfl
theorem bareL_le (f : List Int) (n : Nat) : ((bareL f).getD n 0).natAbs <= (f.getD n 0).natAbs := by
  by_cases c : trimZ f = []
  . have : bareL f = [] := by unfold bareL; rw [c]; rfl
    rw [this]
    exact Nat.zero_le _
  . have h := cont_ne c
    have e := congrArg Int.natAbs (bareL_get f n)
    rw [Int.natAbs_mul] at e
    rw [e]
    exact Nat.le_mul_of_pos_left _ (by omega)
theorem bareL_br (f : List Int) : Br (bareL f) := by
  by_cases c : trimZ f = []
  . have : bareL f = [] := by unfold bareL; rw [c]; rfl
    rw [this]
    exact ⟨fun h => absurd rfl h, fun h => absurd rfl h⟩
  have cn := cont_ne c
  have hl := lP c
  have last : 1 <= lastI (bareL f) := by
    unfold lastI
    rw [bareL_len]
    have h1 : (bareL f).getD ((trimZ f).length - 1) 0 = ((trimZ f).getD ((trimZ f).length - 1) 0).fdiv (cont (trimZ f)) := by
      unfold bareL
      rw [getD_lt (by rw [List.length_map]; omega), List.getElem_map, getD_lt (by omega)]
    rw [h1]
    have hn := trim_form f c
    have hm : (trimZ f).getD ((trimZ f).length - 1) 0 ∈ trimZ f := FM.getD_mem (by omega)
    refine sign_div (cont_dvd _ hm) ?_
    have g0 := gcdF_nn (trimZ f) 0 (Int.le_refl 0)
    have ca := cont_abs (trimZ f)
    by_cases s : (trimZ f).getD ((trimZ f).length - 1) 0 < 0
    . have e : cont (trimZ f) = -gcdF 0 (trimZ f) := by unfold cont; rw [if_pos ⟨c, by rw [last_at _ c]; exact s⟩]
      exact .inl ⟨s, by omega⟩
    . have e : cont (trimZ f) = gcdF 0 (trimZ f) := by unfold cont; rw [if_neg (fun z => s (by have := z.2; rw [last_at _ c] at this; exact this))]
      exact .inr ⟨by omega, by omega⟩
  refine ⟨fun _ => ?_, fun _ => ⟨fun d hd => ?_, by omega⟩⟩
  . show lastI (bareL f) ≠ 0
    omega
  . have h1 : ((d : Int) * (gcdF 0 (trimZ f))) ∣ gcdF 0 (trimZ f) := gcdF_great _ _ (Int.dvd_zero _) fun n hn => by
      obtain ⟨i, _, rfl⟩ := FM.mem_getD hn
      rw [trim_get, bareL_get f i, Int.mul_comm]
      refine Int.mul_dvd_mul ?_ (hd i)
      unfold cont
      split
      . exact Int.dvd_neg.mpr (Int.dvd_refl _)
      . exact Int.dvd_refl _
    have h2 := Int.natAbs_dvd_natAbs.mpr h1
    rw [Int.natAbs_mul, Int.natAbs_natCast] at h2
    have h3 : (gcdF 0 (trimZ f)).natAbs ≠ 0 := by
      rw [<- cont_abs]
      omega
    have h4 := Nat.le_of_dvd (by omega) h2
    have h5 : d ≠ 0 := fun z => by
      rw [z, Nat.zero_mul] at h2
      exact h3 (Nat.eq_zero_of_zero_dvd h2)
    have h6 : ¬ 2 <= d := fun z => by
      have : 2 * (gcdF 0 (trimZ f)).natAbs <= d * (gcdF 0 (trimZ f)).natAbs := Nat.mul_le_mul_right _ z
      omega
    omega
theorem form_trim {b : List Int} (h : InForm b) : trimZ b = b := form_ext (trim_form b) h fun n => trim_get b n
theorem bareL_nil {f : List Int} : bareL f = [] ↔ trimZ f = [] := by
  constructor
  . intro h
    refine List.eq_nil_of_length_eq_zero ?_
    rw [<- bareL_len, h]
    rfl
  . intro h
    unfold bareL
    rw [h]
    rfl
theorem mkz {x : List Int} (h : x = []) : Zx.mk x = 0 := by
  rw [h]
  exact Zx.ext fun n => by cases n <;> rfl
theorem mk_bare (f : List Int) : Zx.mk f = Zx.con (cont (trimZ f)) * Zx.mk (bareL f) := by
  rw [Zx.con_mk]
  exact Zx.ext fun n => by rw [Zx.scZ_get]; exact bareL_get f n
def nxt (b r : List Int) : List Int := bareL (trimZ (itR (ldL r) r b (b.length + 1 - r.length)))
theorem iv_next {l H : Nat} {f g b r : List Int} (hf : Br f) (hg : Br g) (nf : f ≠ []) (ng : g ≠ []) (lf : f.length <= l) (lg : g.length <= l) (bf : ∀ n, (f.getD n 0).natAbs <= H) (bg : ∀ n, (g.getD n 0).natAbs <= H)
    (I : Zx.Iv l H f g b r) (nr : r ≠ []) : Zx.Iv l H f g r (nxt b r) := by
  have lr := lP nr
  have l0 : ldL r ≠ 0 := by
    have h : 0 < lastI r := (I.hr.2 nr).2
    have h : 0 < ldL r := h
    omega
  have id : ∀ j, ldL r ^ (b.length + 1 - r.length) * b.getD j 0 = (itR (ldL r) r b (b.length + 1 - r.length)).getD j 0 + cm (itQ (ldL r) r b (b.length + 1 - r.length)) r j := by
    by_cases c : r.length <= b.length
    . have s := it_st (l := ldL r) (F := b) lr rfl (b.length + 1 - r.length) (Nat.le_refl _)
      have ll := itR_len (l := ldL r) (F := b) lr (b.length + 1 - r.length) (Nat.le_refl _)
      exact st_end s (by rw [ll]; omega)
    . have k0 : b.length + 1 - r.length = 0 := by omega
      rw [k0]
      intro j
      rw [Int.pow_zero, Int.one_mul]
      show b.getD j 0 = b.getD j 0 + cm [] r j
      rw [cm_nil, Int.add_zero]
  have hq := itQ_len (l := ldL r) (d := r) (F := b) (b.length + 1 - r.length)
  have hR := itR_len (l := ldL r) (F := b) lr (b.length + 1 - r.length) (Nat.le_refl _)
  have q0 : b.length + 1 - r.length = 0 -> itQ (ldL r) r b (b.length + 1 - r.length) = [] /\ itR (ldL r) r b (b.length + 1 - r.length) = b := fun z => by rw [z]; exact ⟨rfl, rfl⟩
  unfold nxt
  generalize hk : b.length + 1 - r.length = k at *
  generalize itQ (ldL r) r b k = q at *
  generalize itR (ldL r) r b k = R at *
  have eq : Zx.con (ldL r ^ k) * Zx.mk b = Zx.mk q * Zx.mk r + Zx.mk (trimZ R) := by
    refine Zx.cfx fun n => ?_
    rw [Zx.cf_con, Zx.cf_add, Zx.cfm, Zx.cf_mk, Zx.cf_mk, trim_get, id n]
    omega
  have tt : trimZ (trimZ R) = trimZ R := form_trim (trim_form R)
  have hl : ((bareL (trimZ R)).length < r.length /\ r.length <= b.length /\ q.length <= b.length + 1 - r.length) \/ (b.length < r.length /\ q = [] /\ (bareL (trimZ R)).length = b.length /\ ∀ n, ((bareL (trimZ R)).getD n 0).natAbs <= (b.getD n 0).natAbs) := by
    have bl := bareL_len (trimZ R)
    rw [tt] at bl
    have tl := trimZ_len R
    by_cases c : r.length <= b.length
    . exact .inl ⟨by omega, c, by omega⟩
    . obtain ⟨z1, z2⟩ := q0 (by omega)
      refine .inr ⟨by omega, z1, ?_, fun n => ?_⟩
      . rw [bl, z2, form_trim I.hb.1]
      . have := bareL_le (trimZ R) n
        rw [trim_get] at this
        rw [z2] at this ⊢
        exact this
  by_cases z : trimZ R = []
  . refine Zx.iv_step (q := q) (lk := ldL r ^ k) (cc := 1) hf hg nf ng lf lg bf bg I nr (Int.pow_ne_zero l0) (by decide) ?_ (bareL_br _) hl
    rw [eq, mkz z, mkz (bareL_nil.mpr (by rw [tt]; exact z))]
    grind
  . refine Zx.iv_step (q := q) (lk := ldL r ^ k) (cc := cont (trimZ (trimZ R))) hf hg nf ng lf lg bf bg I nr (Int.pow_ne_zero l0) (cont_ne (by rw [tt]; exact z)) ?_ (bareL_br _) hl
    rw [eq]
    congr 1
    exact mk_bare (trimZ R)
theorem iv_len {l H : Nat} {f g b r : List Int} (I : Zx.Iv l H f g b r) (nr : r ≠ []) : (nxt b r).length < r.length \/ (b.length < r.length /\ (nxt b r).length = b.length) := by
  have lr := lP nr
  have hR := itR_len (l := ldL r) (F := b) lr (b.length + 1 - r.length) (Nat.le_refl _)
  have bl := bareL_len (trimZ (itR (ldL r) r b (b.length + 1 - r.length)))
  rw [form_trim (trim_form _)] at bl
  have tl := trimZ_len (itR (ldL r) r b (b.length + 1 - r.length))
  unfold nxt
  by_cases c : r.length <= b.length
  . exact .inl (by omega)
  . have k0 : b.length + 1 - r.length = 0 := by omega
    refine .inr ⟨by omega, ?_⟩
    rw [bl, k0]
    show (trimZ b).length = b.length
    rw [form_trim I.hb.1]
theorem nxt_lt {l H : Nat} {f g b r : List Int} (I : Zx.Iv l H f g b r) (nr : r ≠ []) : (nxt b r).length < r.length := by
  rcases iv_len I nr with h | h <;> omega
theorem iv_end {l H : Nat} {f g b : List Int} (I : Zx.Iv l H f g b []) : WC f g b := ⟨I.hb, fun h hh => by
  rw [<- I.com h hh]
  exact ⟨fun z => ⟨z, 0, by rw [Zx.zero_mul]; exact mkz rfl⟩, fun z => z.1⟩⟩
theorem wc_bare {f g c : List Int} (h : WC (bareL f) (bareL g) c) : WC f g c := by
  have key : ∀ (x : List Int) (p : Zx), Zx.BareZ p -> (Zx.Dz p (Zx.mk (bareL x)) ↔ Zx.Dz p (Zx.mk x)) := fun x p hp => by
    constructor
    . rintro ⟨v, hv⟩
      refine ⟨Zx.con (cont (trimZ x)) * v, ?_⟩
      rw [mk_bare x, hv, Zx.mul_assoc]
    . intro hd
      by_cases z : trimZ x = []
      . exact ⟨0, by rw [Zx.zero_mul]; exact mkz (bareL_nil.mpr z)⟩
      . rw [mk_bare x] at hd
        exact Zx.Dz.con hp (cont_ne z) hd
  exact ⟨h.1, fun p hp => by rw [h.2 p hp, key f p hp, key g p hp]⟩
theorem wc_left {f g : List Int} (h : g = []) (hf : Br f) : WC f g f := ⟨hf, fun p _ => ⟨fun z => ⟨z, 0, by rw [Zx.zero_mul]; exact mkz h⟩, fun z => z.1⟩⟩
theorem iv_all {l H : Nat} {f g : List Int} (hf : Br f) (hg : Br g) (nf : f ≠ []) (ng : g ≠ []) (lf : f.length <= l) (lg : g.length <= l) (bf : ∀ n, (f.getD n 0).natAbs <= H) (bg : ∀ n, (g.getD n 0).natAbs <= H) : ∀ (k : Nat) (b r : List Int), r.length <= k -> Zx.Iv l H f g b r -> ∃ c, WC f g c /\ c.length <= l /\ ∀ n, (c.getD n 0).natAbs <= (4 * l * H) ^ (2 * l) := by
  intro k
  induction k with
  | zero =>
    intro b r h I
    have : r = [] := List.eq_nil_of_length_eq_zero (by omega)
    subst this
    exact ⟨b, iv_end I, I.l1, I.bb⟩
  | succ k ih =>
    intro b r h I
    by_cases nr : r = []
    . subst nr
      exact ⟨b, iv_end I, I.l1, I.bb⟩
    . have := nxt_lt I nr
      exact ih r (nxt b r) (by omega) (iv_next hf hg nf ng lf lg bf bg I nr)
theorem wc_ok {l H : Nat} {f g : List Int} (hl : 1 <= l) (hH : 1 <= H) (lf : (trimZ f).length <= l) (lg : (trimZ g).length <= l) (bf : ∀ n, (f.getD n 0).natAbs <= H) (bg : ∀ n, (g.getD n 0).natAbs <= H) : WC f g (wcF f g) /\ (wcF f g).length <= l /\ ∀ n, ((wcF f g).getD n 0).natAbs <= (4 * l * H) ^ (2 * l) := by
  have up := Zx.one_pow hl hH
  have lf' : (bareL f).length <= l := by rw [bareL_len]; exact lf
  have lg' : (bareL g).length <= l := by rw [bareL_len]; exact lg
  have bf' : ∀ n, ((bareL f).getD n 0).natAbs <= H := fun n => Nat.le_trans (bareL_le f n) (bf n)
  have bg' : ∀ n, ((bareL g).getD n 0).natAbs <= H := fun n => Nat.le_trans (bareL_le g n) (bg n)
  have ex : ∃ c, WC f g c /\ c.length <= l /\ ∀ n, (c.getD n 0).natAbs <= (4 * l * H) ^ (2 * l) := by
    by_cases zg : bareL g = []
    . exact ⟨_, wc_bare (wc_left zg (bareL_br f)), lf', fun n => Nat.le_trans (bf' n) up⟩
    by_cases zf : bareL f = []
    . exact ⟨_, wc_bare (WC.swap (wc_left zf (bareL_br g))), lg', fun n => Nat.le_trans (bg' n) up⟩
    obtain ⟨c, h1, h2⟩ := iv_all (bareL_br f) (bareL_br g) zf zg lf' lg' bf' bg' _ _ _ (Nat.le_refl _) (Zx.iv_start (bareL_br f) (bareL_br g) zf zg lf' lg' bf' bg')
    exact ⟨c, wc_bare h1, h2⟩
  obtain ⟨c, h1, h2⟩ := ex
  rw [wcF_eq h1]
  exact ⟨h1, h2⟩
structure Ws (l H : Nat) (f g b r : List Int) : Prop where
  b1 : Br b
  r1 : Br r
  b2 : b.length <= l
  r2 : r.length <= l
  b3 : ∀ n, (b.getD n 0).natAbs <= (4 * l * H) ^ (2 * l)
  r3 : ∀ n, (r.getD n 0).natAbs <= (4 * l * H) ^ (2 * l)
  w : (r ≠ [] /\ bareL f ≠ [] /\ bareL g ≠ [] /\ Zx.Iv l H (bareL f) (bareL g) b r) \/ (r = [] /\ b = wcF f g) \/ (b = [] /\ r = wcF f g)
theorem nxt_nil {r : List Int} (h : r ≠ []) : nxt [] r = [] := by
  have lr := lP h
  unfold nxt
  have k0 : ([] : List Int).length + 1 - r.length = 0 := by show 0 + 1 - r.length = 0; omega
  rw [k0]
  rfl
structure Sz (l H : Nat) (f g : List Int) : Prop where
  hl : 1 <= l
  hH : 1 <= H
  lf : (trimZ f).length <= l
  lg : (trimZ g).length <= l
  bf : ∀ n, (f.getD n 0).natAbs <= H
  bg : ∀ n, (g.getD n 0).natAbs <= H
theorem Sz.iv {l H : Nat} {f g b r : List Int} (S : Sz l H f g) (zf : bareL f ≠ []) (zg : bareL g ≠ []) (I : Zx.Iv l H (bareL f) (bareL g) b r) : Ws l H f g b r := by
  refine ⟨I.hb, I.hr, I.l1, I.l2, I.bb, I.br, ?_⟩
  by_cases c : r = []
  . subst c
    exact .inr (.inl ⟨rfl, (wcF_eq (wc_bare (iv_end I))).symm⟩)
  . exact .inl ⟨c, zf, zg, I⟩
theorem Sz.start {l H : Nat} {f g : List Int} (S : Sz l H f g) : Ws l H f g (bareL f) (bareL g) := by
  have up := Zx.one_pow S.hl S.hH
  have lf' : (bareL f).length <= l := by rw [bareL_len]; exact S.lf
  have lg' : (bareL g).length <= l := by rw [bareL_len]; exact S.lg
  have bf' : ∀ n, ((bareL f).getD n 0).natAbs <= H := fun n => Nat.le_trans (bareL_le f n) (S.bf n)
  have bg' : ∀ n, ((bareL g).getD n 0).natAbs <= H := fun n => Nat.le_trans (bareL_le g n) (S.bg n)
  by_cases zf : bareL f = []
  . exact ⟨bareL_br f, bareL_br g, lf', lg', fun n => Nat.le_trans (bf' n) up, fun n => Nat.le_trans (bg' n) up, .inr (.inr ⟨zf, (wcF_eq (wc_bare (WC.swap (wc_left zf (bareL_br g))))).symm⟩)⟩
  by_cases zg : bareL g = []
  . exact ⟨bareL_br f, bareL_br g, lf', lg', fun n => Nat.le_trans (bf' n) up, fun n => Nat.le_trans (bg' n) up, .inr (.inl ⟨zg, (wcF_eq (wc_bare (wc_left zg (bareL_br f)))).symm⟩)⟩
  exact S.iv zf zg (Zx.iv_start (bareL_br f) (bareL_br g) zf zg lf' lg' bf' bg')
theorem Sz.next {l H : Nat} {f g b r : List Int} (S : Sz l H f g) (I : Ws l H f g b r) (nr : r ≠ []) : Ws l H f g r (nxt b r) /\ (nxt b r).length < r.length := by
  have lf' : (bareL f).length <= l := by rw [bareL_len]; exact S.lf
  have lg' : (bareL g).length <= l := by rw [bareL_len]; exact S.lg
  have bf' : ∀ n, ((bareL f).getD n 0).natAbs <= H := fun n => Nat.le_trans (bareL_le f n) (S.bf n)
  have bg' : ∀ n, ((bareL g).getD n 0).natAbs <= H := fun n => Nat.le_trans (bareL_le g n) (S.bg n)
  rcases I.w with ⟨_, zf, zg, J⟩ | ⟨z, _⟩ | ⟨z, e⟩
  . exact ⟨S.iv zf zg (iv_next (bareL_br f) (bareL_br g) zf zg lf' lg' bf' bg' J nr), nxt_lt J nr⟩
  . exact absurd z nr
  . subst z
    rw [nxt_nil nr]
    exact ⟨⟨I.r1, I.b1, I.r2, I.b2, I.r3, I.b3, .inr (.inl ⟨rfl, e⟩)⟩, lP nr⟩
theorem Sz.done {l H : Nat} {f g b r : List Int} (S : Sz l H f g) (I : Ws l H f g b r) (z : r = []) : b = wcF f g := by
  rcases I.w with ⟨c, _⟩ | ⟨_, e⟩ | ⟨c, e⟩
  . exact absurd z c
  . exact e
  . rw [c, <- e, z]
theorem Sz.ok {l H : Nat} {f g : List Int} (S : Sz l H f g) : WC f g (wcF f g) /\ (wcF f g).length <= l /\ ∀ n, ((wcF f g).getD n 0).natAbs <= (4 * l * H) ^ (2 * l) := wc_ok S.hl S.hH S.lf S.lg S.bf S.bg
theorem Sz.swap {l H : Nat} {f g : List Int} (S : Sz l H f g) : Sz l H g f := ⟨S.hl, S.hH, S.lg, S.lf, S.bg, S.bf⟩
theorem Sz.sym {l H : Nat} {f g : List Int} (S : Sz l H f g) : wcF g f = wcF f g := wcF_eq (WC.swap S.ok.1)
open Classical in
def qtL (f d : List Int) : List Int := if h : ∃ q : List Int, q.length = (trimZ f).length + 1 - d.length /\ Zx.mk f = Zx.mk q * Zx.mk d then h.choose else []
theorem qtL_eq {f d q : List Int} (hd : InForm d) (nd : d ≠ []) (ql : q.length = (trimZ f).length + 1 - d.length) (e : Zx.mk f = Zx.mk q * Zx.mk d) : q = qtL f d := by
  have h : ∃ q : List Int, q.length = (trimZ f).length + 1 - d.length /\ Zx.mk f = Zx.mk q * Zx.mk d := ⟨q, ql, e⟩
  unfold qtL
  rw [dif_pos h]
  have s := h.choose_spec
  generalize h.choose = u at s
  refine list_ext (by rw [ql, s.1]) fun n => ?_
  have z : (Zx.mk q - Zx.mk u) * Zx.mk d = 0 := by
    have : Zx.mk q * Zx.mk d = Zx.mk u * Zx.mk d := by rw [<- e, s.2]
    grind
  rcases Zx.dom z with a | a
  . have := congrArg (fun x => Zx.cf x n) a
    rw [Zx.cf_sub, Zx.cf_zero, Zx.cf_mk, Zx.cf_mk] at this
    omega
  . have := congrArg (fun x => Zx.cf x (d.length - 1)) a
    rw [Zx.cf_mk, Zx.cf_zero] at this
    exact absurd this (hd nd)
structure Gs (f d q r : List Int) : Prop where
  I : DInv 0 (trimZ f) d q r
  m : Zx.Dz (Zx.mk d) (Zx.mk r)
theorem Gs.start {f d : List Int} (m : Zx.Dz (Zx.mk d) (Zx.mk f)) : Gs f d (List.replicate ((trimZ f).length + 1 - d.length) 0) (trimZ f) := by
  refine ⟨DInv.start (trim_form f) fun n => pl_zero _, ?_⟩
  have : Zx.mk (trimZ f) = Zx.mk f := Zx.ext fun n => trim_get f n
  rw [this]
  exact m
theorem Gs.top {f d q r : List Int} (G : Gs f d q r) (hd : InForm d) (nd : d ≠ []) (hl : d.length <= r.length) : lastI d ∣ lastI r := by
  have ld := lP nd
  have nr : r ≠ [] := fun z => by rw [z] at hl; exact absurd hl (by show ¬ d.length <= 0; omega)
  obtain ⟨v, hv⟩ := G.m
  have v0 : v ≠ 0 := fun z => by
    rw [z, Zx.zero_mul] at hv
    have e := congrArg (fun x => Zx.cf x (r.length - 1)) hv
    rw [Zx.cf_mk, Zx.cf_zero] at e
    exact G.I.rf nr e
  obtain ⟨k, hk⟩ := Zx.exBw v
  obtain ⟨i, _, i2, i3⟩ := Zx.top k hk v0
  have ba := Zx.Bw.len d
  rw [show d.length = d.length - 1 + 1 by omega] at ba
  have t := Zx.top_mul i3 ba
  rw [<- hv] at t
  have td : Zx.cf (Zx.mk d) (d.length - 1) ≠ 0 := hd nd
  have tn := Int.mul_ne_zero i2 td
  rw [<- t] at tn
  have lt : i + (d.length - 1) < r.length := Classical.byContradiction fun c => tn (Zx.Bw.len r _ (by omega))
  have ge : r.length - 1 <= i + (d.length - 1) := Classical.byContradiction fun c => by
    have b : Zx.Bw (i + (d.length - 1) + 1) (Zx.mk r) := by
      rw [hv]
      exact Zx.Bw.mul i3 (Zx.Bw.len d) (.inr (by omega))
    exact G.I.rf nr (b (r.length - 1) (by omega))
  have e : i + (d.length - 1) = r.length - 1 := by omega
  rw [e] at t
  exact ⟨Zx.cf v i, by rw [Int.mul_comm]; exact t⟩
theorem fdiv_mul {a b : Int} (h : b ∣ a) : a.fdiv b * b = a := by
  have := mul_fdiv_dvd h
  rw [Int.mul_comm]
  exact this
theorem Gs.step {f d q r : List Int} (G : Gs f d q r) (hd : InForm d) (nd : d ≠ []) (hl : d.length <= r.length) : Gs f d (q.set (r.length - d.length) ((lastI r).fdiv (lastI d))) (nextR 0 d r ((lastI r).fdiv (lastI d))) /\ (nextR 0 d r ((lastI r).fdiv (lastI d))).length < r.length := by
  have ld := lP nd
  have e := fdiv_mul (G.top hd nd hl)
  generalize (lastI r).fdiv (lastI d) = c at *
  obtain ⟨J, lt⟩ := G.I.step (c := c) ld hl (by rw [pl_zero]; exact e) (pl_zero c)
  refine ⟨⟨J, ?_⟩, lt⟩
  obtain ⟨v, hv⟩ := G.m
  refine ⟨v - Zx.mk (List.replicate (r.length - d.length) 0 ++ [c]), ?_⟩
  have a : Zx.mk (nextR 0 d r c) = Zx.mk r - Zx.mk (List.replicate (r.length - d.length) 0 ++ [c]) * Zx.mk d := by
    refine Zx.cfx fun n => ?_
    rw [Zx.cf_sub, Zx.cfm, Zx.cf_mk, Zx.cf_mk, nextR_get hl]
    have g : cm (List.replicate (r.length - d.length) 0 ++ [c]) d n = if r.length - d.length <= n then c * d.getD (n - (r.length - d.length)) 0 else 0 := by
      have s := cm_set (q := List.replicate (r.length - d.length + 1) 0) (d := d) (g := r.length - d.length) (c := c) (by rw [List.length_replicate]; omega) (rep_get _ _) n
      have z : cm (List.replicate (r.length - d.length + 1) 0) d n = 0 := sm_zero fun i _ => by rw [rep_get, Int.zero_mul]
      rw [z, Int.zero_add] at s
      rw [<- s]
      refine cm_same (fun m => ?_) (fun _ => rfl) n
      rw [snoc_get, List.length_replicate, set_get _ _ _ _ (by rw [List.length_replicate]; omega), rep_get, rep_get]
    rw [g]
    by_cases k : r.length - d.length <= n
    . rw [if_pos k, if_pos k, pl_zero]
    . rw [if_neg k, if_neg k, Int.sub_zero]
  rw [a, hv]
  grind
theorem Gs.done {f d q r : List Int} (G : Gs f d q r) (hd : InForm d) (nd : d ≠ []) (hl : r.length < d.length) : r = [] /\ q = qtL f d := by
  have r0 : r = [] := Classical.byContradiction fun c => by
    have := (Dz.len G.m hd G.I.rf c).1
    omega
  refine ⟨r0, qtL_eq hd nd G.I.ql (Zx.cfx fun n => ?_)⟩
  have e := G.I.eq n
  rw [r0, trim_get] at e
  have e : (0 : Int) ∣ cm q d n + 0 - f.getD n 0 := e
  have e := Int.zero_dvd.mp e
  rw [Zx.cfm, Zx.cf_mk]
  omega
theorem next_b2 {d r : List Int} {c : Int} {L : Nat} (hl : d.length <= r.length) (hd : ∀ n, (d.getD n 0).natAbs <= 2 ^ 4000) (hc : c.natAbs <= 2 ^ (4000 + 4002 * (L - r.length))) (hr : ∀ n, (r.getD n 0).natAbs <= 2 ^ (4000 + 4002 * (L - r.length))) (hn : (nextR 0 d r c).length < r.length) (hL : r.length <= L) (n : Nat) : ((nextR 0 d r c).getD n 0).natAbs <= 2 ^ (4000 + 4002 * (L - (nextR 0 d r c).length)) := by
  have up : (2 : Nat) ^ (4000 + 4002 * (L - r.length)) * 2 ^ 4002 <= 2 ^ (4000 + 4002 * (L - (nextR 0 d r c).length)) := by
    rw [<- Nat.pow_add]
    exact Nat.pow_le_pow_right (by decide) (by omega)
  refine Nat.le_trans ?_ up
  rw [nextR_get hl]
  have h1 := hr n
  split
  . show (r.getD n 0 - c * d.getD (n - (r.length - d.length)) 0).natAbs <= _
    have h2 : (c * d.getD (n - (r.length - d.length)) 0).natAbs <= 2 ^ (4000 + 4002 * (L - r.length)) * 2 ^ 4000 := by
      rw [Int.natAbs_mul]
      exact Nat.mul_le_mul hc (hd _)
    have h3 := Int.natAbs_sub_le (r.getD n 0) (c * d.getD (n - (r.length - d.length)) 0)
    have e2 : (2 : Nat) ^ 4002 = 4 * 2 ^ 4000 := by rw [show 4002 = 4000 + 2 from rfl, Nat.pow_add, Nat.mul_comm]
    have e0 : 1 <= (2 : Nat) ^ 4000 := Nat.one_le_two_pow
    generalize (2 : Nat) ^ (4000 + 4002 * (L - r.length)) = B at *
    rw [e2]
    generalize (2 : Nat) ^ 4000 = D at *
    have h4 : B * 1 <= B * D := Nat.mul_le_mul_left _ e0
    have h5 : B * (4 * D) = 4 * (B * D) := by rw [Nat.mul_left_comm]
    rw [h5]
    generalize B * D = BD at *
    omega
  . exact Nat.le_trans h1 (Nat.le_mul_of_pos_right _ (Nat.pow_pos (by decide)))
def lbare (f : List Int) : List Int := f.map fun n => n.fdiv (gcdF 0 f)
theorem lbare_get (f : List Int) (n : Nat) : f.getD n 0 = gcdF 0 f * (lbare f).getD n 0 := by
  unfold lbare
  by_cases c : n < f.length
  . rw [getD_lt c, getD_lt (by rw [List.length_map]; exact c), List.getElem_map]
    exact (mul_fdiv_dvd ((gcdF_dvd f 0).2 _ (List.getElem_mem c))).symm
  . rw [getD_ge (by omega), getD_ge (by rw [List.length_map]; omega), Int.mul_zero]
theorem gcdF_ne {f : List Int} (hf : InForm f) (nf : f ≠ []) : gcdF 0 f ≠ 0 := fun z => by
  have h := lbare_get f (f.length - 1)
  rw [z, Int.zero_mul] at h
  exact hf nf h
theorem lbare_form {f : List Int} (hf : InForm f) (nf : f ≠ []) : InForm (lbare f) /\ lbare f ≠ [] := by
  have l : (lbare f).length = f.length := by unfold lbare; rw [List.length_map]
  have lf := lP nf
  refine ⟨fun _ z => ?_, fun z => by rw [z] at l; have l : 0 = f.length := l; omega⟩
  rw [l] at z
  have h := lbare_get f (f.length - 1)
  rw [z, Int.mul_zero] at h
  exact hf nf h
theorem lbare_bare {f : List Int} (hf : InForm f) (nf : f ≠ []) : Bare (lbare f) := fun d hd => by
  have g0 := gcdF_ne hf nf
  have h1 : ((d : Int) * gcdF 0 f) ∣ gcdF 0 f := gcdF_great _ _ (Int.dvd_zero _) fun n hn => by
    obtain ⟨i, _, rfl⟩ := FM.mem_getD hn
    rw [lbare_get f i, Int.mul_comm]
    exact Int.mul_dvd_mul (Int.dvd_refl _) (hd i)
  have h2 := Int.natAbs_dvd_natAbs.mpr h1
  rw [Int.natAbs_mul, Int.natAbs_natCast] at h2
  have h3 : (gcdF 0 f).natAbs ≠ 0 := by omega
  have h4 := Nat.le_of_dvd (by omega) h2
  have h5 : d ≠ 0 := fun z => by
    rw [z, Nat.zero_mul] at h2
    exact h3 (Nat.eq_zero_of_zero_dvd h2)
  have h6 : ¬ 2 <= d := fun z => by
    have : 2 * (gcdF 0 f).natAbs <= d * (gcdF 0 f).natAbs := Nat.mul_le_mul_right _ z
    omega
  omega
theorem lbare_le {f : List Int} (hf : InForm f) (nf : f ≠ []) (n : Nat) : ((lbare f).getD n 0).natAbs <= (f.getD n 0).natAbs := by
  have g0 := gcdF_ne hf nf
  have e := congrArg Int.natAbs (lbare_get f n)
  rw [Int.natAbs_mul] at e
  rw [e]
  exact Nat.le_mul_of_pos_left _ (by omega)
theorem lbare_same {f : List Int} (h : Bare f) : lbare f = f := by
  have g1 : gcdF 0 f = 1 := by
    have := h (gcdF 0 f).natAbs fun n => by
      rw [Int.natAbs_dvd]
      by_cases c : n < f.length
      . exact (gcdF_dvd f 0).2 _ (FM.getD_mem c)
      . rw [getD_ge (by omega)]; exact Int.dvd_zero _
    have nn := gcdF_nn f 0 (Int.le_refl 0)
    omega
  refine list_ext (by unfold lbare; rw [List.length_map]) fun n => ?_
  have e := lbare_get f n
  rw [g1, Int.one_mul] at e
  exact e.symm
theorem lbare_dz {f : List Int} : Zx.Dz (Zx.mk (lbare f)) (Zx.mk f) := ⟨Zx.con (gcdF 0 f), by
  rw [Zx.con_mk]
  exact Zx.ext fun n => by rw [Zx.scZ_get]; exact lbare_get f n⟩
theorem quot_py {x y : Int} (h : y ≠ 0) (k : x.natAbs <= y.natAbs * 2 ^ 4000) : Builtin.divisionGoesByPylong x y = false := by
  have hy : y.natAbs ≠ 0 := by omega
  have key : (if x == 0 then 0 else x.natAbs.log2 / 30 + 1) <= (if y == 0 then 0 else y.natAbs.log2 / 30 + 1) + 150 := by
    rw [if_neg (c := (y == 0) = true) (by rw [beq_iff_eq]; exact h)]
    by_cases hx : (x == 0) = true
    . rw [if_pos hx]; exact Nat.zero_le _
    . rw [if_neg hx]
      have hx : x.natAbs ≠ 0 := fun z => hx (by rw [beq_iff_eq]; omega)
      have h1 : y.natAbs < 2 ^ (y.natAbs.log2 + 1) := Nat.lt_log2_self
      have h2 : x.natAbs.log2 < y.natAbs.log2 + 1 + 4000 := (Nat.log2_lt hx).mpr (by
        rw [Nat.pow_add 2 (y.natAbs.log2 + 1) 4000]
        exact Nat.lt_of_le_of_lt k (Nat.mul_lt_mul_of_pos_right h1 (Nat.pow_pos (by decide))))
      omega
  show (_ && decide ((if x == 0 then 0 else x.natAbs.log2 / 30 + 1) > (if y == 0 then 0 else y.natAbs.log2 / 30 + 1) + 150)) = false
  rw [decide_eq_false (Nat.not_lt.mpr key), Bool.and_false]
theorem xn_divP {X : Cx} {G : Gx} {a b : Expr} {pos : Pos} {Ca Cb : En -> Prop} {ga gb : En -> Int} (ha : PE X a (tXI X.K G Ca ga)) (hb : PE X b (tXI X.K G Cb gb)) : PE X (.BinOp a .FloorDiv b pos) (tXI X.K G (fun Z => Ca Z /\ Cb Z /\ (gb Z ≠ 0 /\ (ga Z).natAbs <= (gb Z).natAbs * 2 ^ 4000)) fun Z => (ga Z).fdiv (gb Z)) :=
  xn_op (C := fun i j => j ≠ 0 /\ i.natAbs <= j.natAbs * 2 ^ 4000) (g := fun i j => i.fdiv j) (opI fun i j _ _ _ _ _ hc q => floordiv_int hc.1 q (.inl (quot_py hc.1 hc.2))) ha hb
theorem kx_bared (T : Top K mg cK cW) : Ok P w K mg base 4 "bared" ["f"] (spN K (GkW cW) (fun as => ∃ f, as = [.ints f] /\ f.length <= 1000 /\ ∀ n, ((bareL f).getD n 0).natAbs <= 2 ^ 4000) fun as => match as with
    | [.ints f] => baredF f
    | _ => .non) := by
  refine okN T.d_bared sc_bared (fun as ⟨a, h, _⟩ => by rw [h]; rfl) (fun f cdv A outer s H E hr => ⟨_, (xss_cons (xst_setL (i := 1) sc_bared.nd rfl (Or.inl rfl) (newL (xcl (kx_trimmed T) hr (xa_cons (xk_W (oi_Wholes T) hr gkW) (xa_cons (xl 0) xa_nil)))))
 (xss_cons (xst_setI (i := 2) sc_bared.nd rfl (Or.inr rfl) xn_int)
 (xss_cons (xst_forL (k := 3) PassesOwn.never rfl (xl 1) sc_bared.nd rfl (Or.inl rfl)
 (xss_one (xst_setI (i := 2) sc_bared.nd rfl (Or.inr rfl) (xci (kx_common_divisor T) hr (xa_cons (xn 2) (xa_cons (xn 3) xa_nil))))))
 (xss_join (xst_if (L2.PW.pt (xw_and (xt_list 1) (xw_and1 (xt_lt (xn_item 1 (xn_neg xn_int) (fun _ _ => rfl)) xn_int))))
 (xss_one (xst_setI (i := 2) sc_bared.nd rfl (Or.inr rfl) (xn_neg (xn 2))))
 xss_nil)
 (xss_one (xst_retn (n_tup (na_cons (nI (xn 2)) (na_cons (nL (xl_lcL (N' := ["number", "content"]) (cap := [some 2]) (lc_ok rfl rfl rfl rfl ⟨⟨rfl, Or.inr (Or.inl rfl), (fun z => nomatch (show (some NameKind.cell : Option NameKind) = some NameKind.local from z)), Or.inl rfl, _, rfl, rfl⟩, tT⟩ ⟨rfl, tT⟩ rfl) rfl (xl 1) (fun _ _ _ => (pg_name (i := 0) (show (["number", "content"] : List Str).Nodup by decide +kernel) rfl (Or.inl rfl) (.inr rfl))) (fun _ _ _ => (xn_divP (xn 0) (xn 1))))) na_nil))))))))), fun as hp => ?_⟩)
  obtain ⟨f, rfl, hl, hb⟩ := hp
  have tl : (trimZ f).length <= 1000 := Nat.le_trans (trimZ_len f) hl
  have cn := cont_ne (f := f)
  refine ⟨⟨⟨tT, rfl, tT⟩, 0, f, rfl, hl⟩, fun u eu => ?_⟩
  have eu : u = trimZ f := by
    have eu : u = trimZ (f.map (pl 0)) := eu
    rw [map_pl0] at eu
    exact eu
  refine ⟨tT, fun c0 ec0 => ?_⟩
  have ec0 : c0 = 0 := ec0
  refine to_lit (Z' := [.fr (.ints f), .fr (.ints u), .fr (.int c0), .un]) rfl ?_
  refine ⟨rfl, fun i Z => ∃ v, Z = [.fr (.ints f), .fr (.ints u), .fr (.int (gcdF 0 (u.take i))), v], ⟨.un, by rw [ec0]; rfl⟩, ?_, ?_⟩
  . rintro i n Z hn ⟨v, rfl⟩
    have hn : u[i]? = some n := hn
    refine ⟨⟨⟨rfl, rfl, tT⟩, _, _, rfl⟩, fun c ec => ?_⟩
    have ec : c = (Int.gcd (gcdF 0 (u.take i)) n : Int) := ec
    have e2 : gcdF 0 (u.take (i + 1)) = c := by rw [take_at hn, gcdF_app, ec]; rfl
    rw [<- e2]
    exact ⟨_, rfl⟩
  rintro Z ⟨v, rfl⟩
  have e3 : gcdF 0 (u.take u.length) = gcdF 0 u := by rw [List.take_length]
  refine to_lit (Z' := [.fr (.ints f), .fr (.ints u), .fr (.int (gcdF 0 u)), v]) (by rw [<- e3]; rfl) ?_
  refine ⟨fun Z => Z = [.fr (.ints f), .fr (.ints u), .fr (.int (cont u)), v], ⟨⟨.inl rfl, fun h => ?_⟩, fun q => ?_, fun q => ?_⟩, ?_⟩
  . have h : ¬ u = [] := h
    have := lP h
    exact ⟨⟨.inl rfl, tT, by show -(u.length : Int) <= -1; omega, by show (-1 : Int) < (u.length : Int); omega⟩, tT⟩
  . have q : ¬ u = [] /\ u.getD (ixO u.length (-1)) 0 < 0 := q
    refine ⟨rfl, fun c ec => ?_⟩
    have ec : c = -gcdF 0 u := ec
    have e4 : cont u = c := by unfold cont; rw [if_pos q, ec]
    rw [<- e4]
    rfl
  . have q : ¬ (¬ u = [] /\ u.getD (ixO u.length (-1)) 0 < 0) := q
    have e4 : cont u = gcdF 0 u := by unfold cont; rw [if_neg q]
    rw [<- e4]
  rintro Z rfl
  subst eu
  refine ⟨⟨rfl, ⟨rfl, tl, fun n hn => ⟨rfl, rfl, ?_⟩⟩, tT⟩, rfl⟩
  have hne : trimZ f ≠ [] := fun z => by
    have hn : n ∈ trimZ f := hn
    rw [z] at hn; cases hn
  refine ⟨cn hne, ?_⟩
  obtain ⟨i, _, ei⟩ := FM.mem_getD (show n ∈ trimZ f from hn)
  have ei : (trimZ f).getD i 0 = n := ei
  rw [trim_get, bareL_get] at ei
  show n.natAbs <= (cont (trimZ f)).natAbs * 2 ^ 4000
  rw [<- ei, Int.natAbs_mul]
  exact Nat.mul_le_mul_left _ (hb i)
def stepsF (f c : List Int) : PV := .tup [.ints (itQ (ldL (trimZ c)) (trimZ c) (trimZ f) ((trimZ f).length + 1 - (trimZ c).length)), .ints (trimZ (itR (ldL (trimZ c)) (trimZ c) (trimZ f) ((trimZ f).length + 1 - (trimZ c).length)))]
theorem kx_steps (T : Top K mg cK cW) : Ok P w K mg base 4 "steps" ["f", "c"] (spN K (GkW cW) (fun as => ∃ f c, as = [.ints f, .ints c] /\ f.length <= 24 /\ c.length <= 24 /\ (∀ m ∈ f, m.natAbs <= 2 ^ 4000) /\ (∀ m ∈ c, m.natAbs <= 2 ^ 4000) /\ trimZ c ≠ []) fun as => match as with
    | [.ints f, .ints c] => stepsF f c
    | _ => .non) := by
  refine okN T.d_steps sc_steps (fun as ⟨a, b, h, _⟩ => by rw [h]; rfl) (fun f cdv A outer s H E hr => ⟨_, (xss_cons (xst_setL (i := 2) sc_steps.nd rfl (Or.inl rfl) (newL (xcl (kx_trimmed T) hr (xa_cons (xk_W (oi_Wholes T) hr gkW) (xa_cons (xl 0) xa_nil)))))
 (xss_cons (xst_setL (i := 3) sc_steps.nd rfl (Or.inl rfl) (newL (xcl (kx_trimmed T) hr (xa_cons (xk_W (oi_Wholes T) hr gkW) (xa_cons (xl 1) xa_nil)))))
 (xss_cons (xst_setI (i := 4) sc_steps.nd rfl (Or.inr rfl) (xn_item 3 (xn_neg xn_int) (fun _ _ => rfl)))
 (xss_cons (xst_own (i := 5) sc_steps.nd rfl (Or.inl rfl) (xl_lst xa_nil))
 (xss_cons (xst_while PassesOwn.never (xt_ge (xn_len 2 T.b_len) (xn_len 3 T.b_len))
 (xss_cons (xst_setI (i := 6) sc_steps.nd rfl (Or.inr rfl) (xn_item 2 (xn_neg xn_int) (fun _ _ => rfl)))
 (xss_cons (xst_setL (i := 7) sc_steps.nd rfl (Or.inl rfl) (newL (xl_cat (newL (xl_rep (xl_lst (xa_cons xn_int xa_nil)) (xn_sub (xn_len 2 T.b_len) (xn_len 3 T.b_len)) (fun _ => rfl))) (newL (xl_lcL (N' := ["number", "often"]) (cap := [some 6]) (lc_ok rfl rfl rfl rfl ⟨⟨rfl, Or.inr (Or.inl rfl), (fun z => nomatch (show (some NameKind.cell : Option NameKind) = some NameKind.local from z)), Or.inl rfl, _, rfl, rfl⟩, tT⟩ ⟨rfl, tT⟩ rfl) rfl (xl 3) (fun _ _ _ => (pg_name (i := 0) (show (["number", "often"] : List Str).Nodup by decide +kernel) rfl (Or.inl rfl) (.inr rfl))) (fun _ _ _ => (xn_mul (xn 1) (xn 0))))))))
 (xss_cons (xst_setL (i := 2) sc_steps.nd rfl (Or.inl rfl) (newL (xl_slice (newL (xl_lcZ (N' := ["number", "other", "lead"]) (cap := [some 4]) (lc_ok rfl rfl rfl rfl ⟨⟨rfl, Or.inr (Or.inl rfl), (fun z => nomatch (show (some NameKind.cell : Option NameKind) = some NameKind.local from z)), Or.inl rfl, _, rfl, rfl⟩, tT⟩ ⟨rfl, tT⟩ rfl) rfl (by rfl) T.b_zip (rdX (xl 2)) (rdX (xl 7)) (fun _ _ _ => (pg_tup rfl (pgs_cons (pg_name (i := 0) (show (["number", "other", "lead"] : List Str).Nodup by decide +kernel) rfl (Or.inl rfl) (.inr rfl)) (pgs_cons (pg_name (i := 1) (show (["number", "other", "lead"] : List Str).Nodup by decide +kernel) rfl (Or.inl rfl) (.inr rfl)) pgs_nil)))) (fun _ _ _ => (xn_sub (xn_mul (xn 2) (xn 0)) (xn 1))))) xo_none (xo_some (xn_neg xn_int)) (fun _ _ => .inl rfl))))
 (xss_one (xst_own (i := 5) sc_steps.nd rfl (Or.inl rfl) (xl_cat (newL (xl_lst (xa_cons (xn 6) xa_nil))) (newL (xl_lcQ (N' := ["number", "lead"]) (cap := [some 4]) (lc_ok rfl rfl rfl rfl ⟨⟨rfl, Or.inr (Or.inl rfl), (fun z => nomatch (show (some NameKind.cell : Option NameKind) = some NameKind.local from z)), Or.inl rfl, _, rfl, rfl⟩, tT⟩ ⟨rfl, tT⟩ rfl) rfl (rlO 5) (fun _ _ _ => (pg_name (i := 0) (show (["number", "lead"] : List Str).Nodup by decide +kernel) rfl (Or.inl rfl) (.inr rfl))) (fun _ _ _ => (xn_mul (xn 1) (xn 0))))))))))))
 (xss_one (xst_retn (n_tup (na_cons (nO 5) (na_cons (nL (xcl (kx_trimmed T) hr (xa_cons (xk_W (oi_Wholes T) hr gkW) (xa_cons (xl 2) xa_nil)))) na_nil)))))))))), fun as hp => ?_⟩)
  obtain ⟨f, c, rfl, hf, hc, bf, bc, hne⟩ := hp
  have tf := trimZ_len f
  have tc := trimZ_len c
  have bf2 : ∀ m ∈ trimZ f, m.natAbs <= 2 ^ 4000 := fun m hm => bf m (trimZ_mem hm)
  have bc2 : ∀ m ∈ trimZ c, m.natAbs <= 2 ^ 4000 := fun m hm => bc m (trimZ_mem hm)
  refine ⟨⟨⟨tT, rfl, tT⟩, 0, f, rfl, by omega⟩, fun u eu => ?_⟩
  have eu : u = trimZ f := by
    have eu : u = trimZ (f.map (pl 0)) := eu
    rw [map_pl0] at eu
    exact eu
  refine ⟨⟨⟨tT, rfl, tT⟩, 0, c, rfl, by omega⟩, fun d ed => ?_⟩
  have ed : d = trimZ c := by
    have ed : d = trimZ (c.map (pl 0)) := ed
    rw [map_pl0] at ed
    exact ed
  have goal : ∀ p, p = stepsF f c -> p = .tup [.ints (itQ (ldL d) d u (u.length + 1 - d.length)), .ints (trimZ (itR (ldL d) d u (u.length + 1 - d.length)))] := fun p h => by rw [h, eu, ed]; rfl
  have goal2 : PV.tup [.ints (itQ (ldL d) d u (u.length + 1 - d.length)), .ints (trimZ (itR (ldL d) d u (u.length + 1 - d.length)))] = stepsF f c := by rw [eu, ed]; rfl
  clear goal
  rw [<- ed] at hne bc2 tc
  rw [<- eu] at bf2 tf
  clear eu ed bf bc
  have hd := lP hne
  have dl := last_at d hne
  refine ⟨⟨.inl rfl, tT, by show -(d.length : Int) <= -1; omega, by show (-1 : Int) < (d.length : Int); omega⟩, fun l el => ?_⟩
  have el : l = ldL d := by
    have el : l = d.getD (ixO d.length (-1)) 0 := el
    rw [dl] at el
    exact el
  have ebl : l.natAbs <= 2 ^ 4000 := by rw [el]; exact bc2 _ (FM.getD_mem (by omega))
  refine ⟨⟨tT, tT⟩, fun q0 eq0 => ?_⟩
  have eq0 : q0 = [] := eq0
  rw [<- el] at goal2
  generalize hK : u.length + 1 - d.length = KK at goal2
  have bb := it_b (A := 2 ^ 4000) (Nat.pow_pos (by decide)) ebl bc2 bf2
  have small : ∀ k, k <= 26 -> (2 * 2 ^ 4000) ^ (k + 1) < 2 ^ 120000 := fun k hk => by
    rw [show 2 * 2 ^ 4000 = 2 ^ 4001 from (by rw [Nat.pow_succ 2 4000, Nat.mul_comm]), <- Nat.pow_mul]
    exact Nat.pow_lt_pow_right (by decide) (by omega)
  have bR : ∀ k, k <= 26 -> ∀ m ∈ itR l d u k, m.natAbs < 2 ^ 120000 := fun k hk m hm => Nat.lt_of_le_of_lt ((bb k).1 m hm) (small k hk)
  have bQ : ∀ k, k <= 26 -> ∀ m ∈ itQ l d u k, m.natAbs < 2 ^ 120000 := fun k hk m hm => Nat.lt_of_le_of_lt ((bb k).2 m hm) (small k hk)
  have bl9 : l.natAbs < 2 ^ 120000 := Nat.lt_of_le_of_lt ebl (Nat.pow_lt_pow_right (by decide) (by decide))
  have bd9 : ∀ m ∈ d, m.natAbs < 2 ^ 120000 := fun m hm => Nat.lt_of_le_of_lt (bc2 m hm) (Nat.pow_lt_pow_right (by decide) (by decide))
  clear bb small ebl bc2 bf2
  refine to_lit (Z' := [.fr (.ints f), .fr (.ints c), .fr (.ints u), .fr (.ints d), .fr (.int l), .ow (.ints q0), .un, .un]) rfl ?_
  refine ⟨fun Z => ∃ k v6 v7, Z = [.fr (.ints f), .fr (.ints c), .fr (.ints (itR l d u k)), .fr (.ints d), .fr (.int l), .ow (.ints (itQ l d u k)), v6, v7] /\ k <= KK, fun Z => (getL Z 2).length, ⟨0, .un, .un, by rw [eq0]; rfl, Nat.zero_le _⟩, ?_⟩
  rintro Z ⟨k, v6, v7, rfl, hk⟩
  have lr := itR_len (l := l) (F := u) hd k (by rw [hK]; exact hk)
  have lq := itQ_len (l := l) (d := d) (F := u) k
  have k26 : k <= 26 := by omega
  refine ⟨⟨.inl rfl, .inl rfl⟩, fun q => ?_, fun q => ?_⟩
  . have q : (d.length : Int) <= ((itR l d u k).length : Int) := q
    have hle : d.length <= (itR l d u k).length := by omega
    have hk1 : k + 1 <= KK := by omega
    have bR' := bR k k26
    have bQ' := bQ k k26
    have nR : itR l d u (k + 1) = nxR l d (itR l d u k) := rfl
    have nQ : itQ l d u (k + 1) = nxQ l (itR l d u k) (itQ l d u k) := rfl
    generalize itR l d u k = r at *
    generalize itQ l d u k = qq at *
    have rne : r ≠ [] := fun z => by rw [z] at hle; exact absurd hle (by show ¬ d.length <= 0; omega)
    have rl := last_at r rne
    refine ⟨⟨.inl rfl, tT, by show -(r.length : Int) <= -1; omega, by show (-1 : Int) < (r.length : Int); omega⟩, fun o eo => ?_⟩
    have eo : o = r.getD (r.length - 1) 0 := by
      have eo : o = r.getD (ixO r.length (-1)) 0 := eo
      rw [rl] at eo
      exact eo
    have bo : o.natAbs < 2 ^ 120000 := by rw [eo]; exact bR' _ (FM.getD_mem (by omega))
    refine ⟨⟨⟨⟨⟨tT, tT⟩, tT⟩, ⟨.inl rfl, .inl rfl⟩, ?_, ?_⟩, ⟨rfl, by show d.length <= 1000; omega, fun n hn => ⟨rfl, rfl, mul_ok (n := 120000) (m := 120000) bo (bd9 n hn)⟩⟩, ?_⟩, fun t et => ?_⟩
    . show -(2 : Int) ^ 63 <= (r.length : Int) - (d.length : Int)
      omega
    . show ((r.length : Int) - (d.length : Int)).toNat <= 1000
      omega
    . refine Nat.le_of_lt (small1000 ?_)
      show (List.replicate ((r.length : Int) - (d.length : Int)).toNat (0 : Int)).length + (d.map fun n => o * n).length <= 1000
      rw [List.length_replicate, List.length_map]
      omega
    have et : t = tkn o d r := et
    refine to_lit (Z' := [.fr (.ints f), .fr (.ints c), .fr (.ints r), .fr (.ints d), .fr (.int l), .ow (.ints qq), .fr (.int o), .fr (.ints t)]) rfl ?_
    refine ⟨⟨⟨⟨rfl, rfl⟩, by show r.length <= 1000; omega, fun n m hnm => ⟨⟨rfl, rfl, mul_ok (n := 120000) (m := 120000) bl9 (bR' n (List.of_mem_zip hnm).1)⟩, rfl⟩⟩, tT, tT⟩, fun r1 er1 => ?_⟩
    have er1 : r1 = nxR l d r := by
      have er1 : r1 = cutI ((r.zip t).map fun p => l * p.1 - p.2) none (some (-1)) := er1
      rw [cut_last, et, eo] at er1
      exact er1
    refine to_lit (Z' := [.fr (.ints f), .fr (.ints c), .fr (.ints r1), .fr (.ints d), .fr (.int l), .ow (.ints qq), .fr (.int o), .fr (.ints t)]) rfl ?_
    refine ⟨⟨⟨⟨rfl, tT⟩, tT⟩, ⟨.inr rfl, by show qq.length <= 1000; omega, fun n hn => ⟨rfl, rfl, mul_ok (n := 120000) (m := 120000) bl9 (bQ' n hn)⟩⟩, ?_⟩, fun q1 eq1 => ?_⟩
    . refine Nat.le_of_lt (small1000 ?_)
      show ([o] : List Int).length + (qq.map fun n => l * n).length <= 1000
      rw [List.length_map]
      show 1 + qq.length <= 1000
      omega
    have eq1 : q1 = nxQ l r qq := by
      have eq1 : q1 = [o] ++ qq.map fun n => l * n := eq1
      rw [eq1, eo]
      rfl
    refine ⟨⟨k + 1, _, _, by rw [nR, nQ, <- er1, <- eq1]; rfl, hk1⟩, ?_⟩
    show r1.length < r.length
    rw [er1, nxR_len hle]
    omega
  . have q : ¬ (d.length : Int) <= ((itR l d u k).length : Int) := q
    have ek : k = KK := by omega
    refine ⟨⟨rfl, ⟨⟨tT, rfl, tT⟩, 0, itR l d u k, rfl, by omega⟩, tT⟩, ?_⟩
    show PV.tup [.ints (itQ l d u k), .ints (trimZ ((itR l d u k).map (pl 0)))] = stepsF f c
    rw [map_pl0, ek]
    exact goal2
theorem kx_whole_common (T : Top K mg cK cW) : Ok P w K mg base 6 "whole_common" ["f", "g"] (spFL K (GkW cW) (fun as => ∃ f g l H, as = [.ints f, .ints g] /\ f.length <= 24 /\ g.length <= 24 /\ Sz l H f g /\ l <= 24 /\ (4 * l * H) ^ (2 * l) <= 2 ^ 4000) fun as => match as with
    | [.ints f, .ints g] => wcF f g
    | _ => []) := by
  refine okF T.d_whole_common sc_whole_common (fun as ⟨a, b, _, _, h, _⟩ => by rw [h]; rfl) (fun f cdv A outer s H E hr => ⟨_, (xss_cons (xst_setL (i := 2) sc_whole_common.nd rfl (Or.inl rfl) (xl_of (xp_item (rcn (kx_bared T) hr (ra_cons (rdX (xl 0)) ra_nil)) xn_int (fun _ _ => rfl))))
 (xss_cons (xst_setL (i := 3) sc_whole_common.nd rfl (Or.inl rfl) (xl_of (xp_item (rcn (kx_bared T) hr (ra_cons (rdX (xl 1)) ra_nil)) xn_int (fun _ _ => rfl))))
 (xss_cons (xst_while PassesOwn.never (xt_list 3)
 (xss_cons (xst_setL (i := 4) sc_whole_common.nd rfl (Or.inl rfl) (xl_of (xp_item (rcn (kx_bared T) hr (ra_cons (rdX (xl_of (xp_item (rcn (kx_steps T) hr (ra_cons (rdX (xl 2)) (ra_cons (rdX (xl 3)) ra_nil))) xn_int (fun _ _ => rfl)))) ra_nil)) xn_int (fun _ _ => rfl))))
 (xss_cons (xst_setL (i := 2) sc_whole_common.nd rfl (Or.inl rfl) (xl 3))
 (xss_one (xst_setL (i := 3) sc_whole_common.nd rfl (Or.inl rfl) (xl 4))))))
 (xss_one (xst_ret (xl 2)))))), fun as hp => ?_⟩)
  obtain ⟨f, g, l, H, rfl, lf, lg, S, hl, hK⟩ := hp
  have W0 := S.start
  have it : ∀ x y : PV, hasIt (.tup [x, y]) 1 := fun x y => ⟨by show (-2 : Int) <= 1; decide, by show (1 : Int) < 2; decide⟩
  refine ⟨⟨⟨⟨⟨rfl, tT⟩, f, rfl, by omega, fun n => Nat.le_trans (W0.b3 n) hK⟩, tT, it _ _⟩, rfl⟩, fun b0 eb0 => ?_⟩
  have eb0 : b0 = bareL f := eb0
  refine ⟨⟨⟨⟨⟨rfl, tT⟩, g, rfl, by omega, fun n => Nat.le_trans (W0.r3 n) hK⟩, tT, it _ _⟩, rfl⟩, fun r0 er0 => ?_⟩
  have er0 : r0 = bareL g := er0
  rw [<- eb0, <- er0] at W0
  clear eb0 er0
  refine to_lit (Z' := [.fr (.ints f), .fr (.ints g), .fr (.ints b0), .fr (.ints r0), .un]) rfl ?_
  refine ⟨fun Z => ∃ b r v, Z = [.fr (.ints f), .fr (.ints g), .fr (.ints b), .fr (.ints r), v] /\ Ws l H f g b r, fun Z => (getL Z 3).length, ⟨b0, r0, .un, rfl, W0⟩, ?_⟩
  rintro Z ⟨b, r, v, rfl, I⟩
  refine ⟨.inl rfl, fun q => ?_, fun q => ?_⟩
  . have q : ¬ r = [] := q
    obtain ⟨J, lt⟩ := S.next I q
    have tb : trimZ b = b := form_trim I.b1.1
    have tr : trimZ r = r := form_trim I.r1.1
    have es : stepsF b r = .tup [.ints (itQ (ldL r) r b (b.length + 1 - r.length)), .ints (trimZ (itR (ldL r) r b (b.length + 1 - r.length)))] := by
      unfold stepsF
      rw [tb, tr]
    have lr := lP q
    have hR : (trimZ (itR (ldL r) r b (b.length + 1 - r.length))).length <= 1000 := by
      have h1 := itR_len (l := ldL r) (F := b) lr (b.length + 1 - r.length) (Nat.le_refl _)
      have h2 := trimZ_len (itR (ldL r) r b (b.length + 1 - r.length))
      have := I.b2
      omega
    have bm : ∀ {x : List Int}, (∀ n, (x.getD n 0).natAbs <= (4 * l * H) ^ (2 * l)) -> ∀ m ∈ x, m.natAbs <= 2 ^ 4000 := fun {x} h m hm => by
      obtain ⟨n, _, rfl⟩ := FM.mem_getD hm
      exact Nat.le_trans (h n) hK
    have hN : ∀ n, ((bareL (trimZ (itR (ldL r) r b (b.length + 1 - r.length)))).getD n 0).natAbs <= 2 ^ 4000 := fun n => Nat.le_trans (J.r3 n) hK
    have en : nxt b r = bareL (trimZ (itR (ldL r) r b (b.length + 1 - r.length))) := rfl
    have lb2 := I.b2
    have lr2 := I.r2
    refine ⟨⟨⟨⟨⟨⟨⟨⟨⟨rfl, rfl, tT⟩, b, r, rfl, by omega, by omega, bm I.b3, bm I.r3, by rw [tr]; exact q⟩, tT, by show hasIt (stepsF b r) 1; rw [es]; exact it _ _⟩, ?_⟩, tT⟩, trimZ (itR (ldL r) r b (b.length + 1 - r.length)), ?_, hR, hN⟩, tT, it _ _⟩, rfl⟩, fun h eh => ?_⟩
    . show itP (stepsF b r) 1 = .ints (pvL (itP (stepsF b r) 1))
      rw [es]
      rfl
    . show [PV.ints (pvL (itP (stepsF b r) 1))] = _
      rw [es]
      rfl
    have eh : h = nxt b r := by
      have eh : h = bareL (pvL (itP (stepsF b r) 1)) := eh
      rw [eh, es, en]
      rfl
    rw [<- eh] at J lt
    refine to_lit (Z' := [.fr (.ints f), .fr (.ints g), .fr (.ints b), .fr (.ints r), .fr (.ints h)]) rfl ?_
    refine ⟨rfl, fun b1 eb1 => ⟨rfl, fun r1 er1 => ?_⟩⟩
    have eb1 : b1 = r := eb1
    have er1 : r1 = h := er1
    subst eb1 er1
    exact ⟨⟨b1, r1, _, rfl, J⟩, lt⟩
  . have q : ¬ ¬ r = [] := q
    have q : r = [] := Classical.not_not.mp q
    refine ⟨rfl, ?_⟩
    show PV.ints b = .ints (wcF f g)
    rw [S.done I q]
theorem kx_divisor (T : Top K mg cK cW) : Ok P w K mg base 1 "_law_divisor" ["_law_one", "_law_other"] (spFI K (GkW cW) (fun as => ∃ a b, as = [.int a, .int b]) fun as => match as with
    | [.int a, .int b] => (Int.gcd a b : Int)
    | _ => 0) := by
  refine okF T.d_divisor sc_divisor (fun as ⟨a, b, h⟩ => by rw [h]; rfl) (fun f cdv A outer s H E hr => ⟨_, (xss_cons (xst_while PassesOwn.never (xt_ne (xn 1) xn_int)
 (xss_cons (xst_setI (i := 2) sc_divisor.nd rfl (Or.inl rfl) (xn_modN (xn 0) (xn 1)))
 (xss_cons (xst_setI (i := 0) sc_divisor.nd rfl (Or.inl rfl) (xn 1))
 (xss_one (xst_setI (i := 1) sc_divisor.nd rfl (Or.inl rfl) (xn 2))))))
 (xss_one (xst_ret (xn_abs T.b_abs (xn 0))))), fun as hp => ?_⟩)
  obtain ⟨a, b, rfl⟩ := hp
  refine ⟨fun Z => ∃ x y v, Z = [.fr (.int x), .fr (.int y), v] /\ Int.gcd x y = Int.gcd a b, fun Z => (getI Z 1).natAbs, ⟨a, b, .un, rfl, rfl⟩, ?_⟩
  rintro Z ⟨x, y, v, rfl, hg⟩
  refine ⟨⟨rfl, tT⟩, fun q => ?_, fun q => ?_⟩
  . have q : ¬ y = 0 := q
    refine ⟨⟨rfl, rfl, q⟩, fun m em => ⟨rfl, fun x' ex => ⟨rfl, fun y' ey => ?_⟩⟩⟩
    have em : m = x.fmod y := em
    have ex : x' = y := ex
    have ey : y' = m := ey
    subst ex ey
    refine ⟨⟨x', y', _, rfl, ?_⟩, ?_⟩
    . rw [em, gcd_f_step]; exact hg
    . show y'.natAbs < x'.natAbs
      rw [em]
      exact fmod_small x x' q
  . have q : ¬ ¬ y = 0 := q
    have q : y = 0 := Classical.not_not.mp q
    refine ⟨rfl, ?_⟩
    show PV.int (if x < 0 then -x else x) = PV.int (Int.gcd a b : Int)
    rw [<- hg, q, Int.gcd_zero_right]
    congr 1
    split <;> omega
theorem kx_form (T : Top K mg cK cW) : Ok P w K mg base 1 "_law_form" ["_law_row_here"] (spL K (GkW cW) (fun as => ∃ f, as = [.ints f] /\ f.length <= 1000) fun as => match as with
    | [.ints f] => trimZ f
    | _ => []) := by
  refine okL T.d_form sc_form (fun as ⟨a, h, _⟩ => by rw [h]; rfl) (fun f cdv A outer s H E hr => ⟨_, (xss_cons (xst_own (i := 0) sc_form.nd rfl (Or.inl rfl) (xl_list T.b_list (xl 0) (fun _ => .inl rfl)))
 (xss_cons (xst_while PassesOwn.never (L2.PW.pt (xw_and (xt_neL hr.units (rlO 0) (rdX (newL (xl_lst xa_nil)))) (xw_and1 (xt_eq (xn_item 0 (xn_neg xn_int) (fun _ _ => rfl)) xn_int))))
 (xss_one (xst_pop 0)))
 (xss_one (xst_retO 0)))), fun as hp => ?_⟩)
  obtain ⟨f, rfl, hf⟩ := hp
  refine ⟨rfl, fun ns e => ?_⟩
  have e : ns = f := e
  refine ⟨fun Z => ∃ ms, Z = [.ow (.ints ms)] /\ trimZ ms = trimZ ns, fun Z => (getL Z 0).length, ⟨ns, rfl, rfl⟩, ?_⟩
  rintro Z ⟨ms, rfl, hm⟩
  refine ⟨⟨⟨.inr rfl, tT, tT⟩, fun h => ⟨⟨.inr (.inl rfl), tT, ?_, ?_⟩, tT⟩⟩, fun q => ?_, fun q => ?_⟩
  . have h : ¬ ms = [] := h
    have := lP h
    show -(ms.length : Int) <= -1
    omega
  . show (-1 : Int) < (ms.length : Int)
    omega
  . have q : ¬ ms = [] /\ ms.getD (ixO ms.length (-1)) 0 = 0 := q
    have hne : ms ≠ [] := q.1
    rw [last_at ms hne] at q
    have := lP hne
    refine ⟨rfl, hne, ⟨_, rfl, ?_⟩, ?_⟩
    . rw [<- hm]; exact trimZ_step hne q.2
    . show ms.dropLast.length < ms.length
      rw [List.length_dropLast]
      omega
  . have q : ¬ (¬ ms = [] /\ ms.getD (ixO ms.length (-1)) 0 = 0) := q
    refine ⟨rfl, ?_⟩
    show ms = trimZ f
    rw [<- e, <- hm, trimZ_done]
    rintro ⟨a, b⟩
    exact q ⟨a, by rw [last_at ms a]; exact b⟩
theorem kx_times (T : Top K mg cK cW) : Ok P w K mg base 2 "_law_times" ["_law_one", "_law_other"] (spL K (GkW cW) (fun as => ∃ q c, as = [.ints q, .ints c] /\ q.length + c.length <= 1000 /\ (∀ m ∈ q, m.natAbs < 2 ^ 9000) /\ ∀ m ∈ c, m.natAbs < 2 ^ 9000) fun as => match as with
    | [.ints q, .ints c] => trimZ (convL q c)
    | _ => []) := by
  refine okL T.d_times sc_times (fun as ⟨a, b, h, _⟩ => by rw [h]; rfl) (fun f cdv A outer s H E hr => ⟨_, (xss_cons (xst_own (i := 2) sc_times.nd rfl (Or.inl rfl) (xl_rep (xl_lst (xa_cons xn_int xa_nil)) (xn_add (xn_len 0 T.b_len) (xn_len 1 T.b_len)) (fun _ => rfl)))
 (xss_cons (xst_forR (k := 3) PassesOwn.never rfl (by rfl) T.b_range (xn_len 0 T.b_len) sc_times.nd rfl (Or.inl rfl)
 (xss_one (xst_forR (k := 4) PassesOwn.never rfl (by rfl) T.b_range (xn_len 1 T.b_len) sc_times.nd rfl (Or.inl rfl)
 (xss_one (xst_setit 2 (xn_add (xn 3) (xn 4)) (xn_add (xn_item 2 (xn_add (xn 3) (xn 4)) (fun _ _ => rfl)) (xn_mul (xn_item 0 (xn 3) (fun _ _ => rfl)) (xn_item 1 (xn 4) (fun _ _ => rfl)))))))))
 (xss_freeze 2 (xss_one (xst_retl (xcl (kx_form T) hr (xa_cons (xl 2) xa_nil))))))), fun as hp => ?_⟩)
  obtain ⟨f, g, rfl, hl, hf, hg⟩ := hp
  have en : ((f.length : Int) + (g.length : Int)).toNat = f.length + g.length := by omega
  generalize hN : f.length + g.length = N at *
  have hN2 : f.length + g.length <= N := by omega
  refine ⟨⟨⟨⟨tT, tT⟩, tT⟩, ⟨.inl rfl, .inl rfl⟩, ?_, ?_⟩, fun r0 er0 => ?_⟩
  . show -(2 : Int) ^ 63 <= (f.length : Int) + (g.length : Int)
    omega
  . show ((f.length : Int) + (g.length : Int)).toNat <= 1000
    omega
  have er0 : r0 = List.replicate N 0 := by rw [<- en]; exact er0
  refine ⟨.inl rfl, ⟨by show -(2 : Int) ^ 62 <= (f.length : Int); omega, by show (f.length : Int) < 2 ^ 62; omega⟩, fun i Z => ∃ row v1 v2, Z = [.fr (.ints f), .fr (.ints g), .ow (.ints row), v1, v2] /\ RowN N f g i 0 row, ⟨r0, .un, .un, rfl, by rw [er0]; exact rowN_start N f g⟩, ?_, ?_⟩
  . rintro i Z hi ⟨row, v1, v2, rfl, hr⟩
    have hi : i < f.length := by have hi : i < (f.length : Int).toNat := hi; omega
    refine ⟨.inl rfl, ⟨by show -(2 : Int) ^ 62 <= (g.length : Int); omega, by show (g.length : Int) < 2 ^ 62; omega⟩, fun j Z => ∃ row v2, Z = [.fr (.ints f), .fr (.ints g), .ow (.ints row), .fr (.int i), v2] /\ RowN N f g i j row, ⟨row, v2, rfl, hr⟩, ?_, ?_⟩
    . rintro j Z hj ⟨row, v2, rfl, hr⟩
      have hj : j < g.length := by have hj : j < (g.length : Int).toNat := hj; omega
      have l1 : -(row.length : Int) <= (i : Int) + (j : Int) := by omega
      have l2 : (i : Int) + (j : Int) < (row.length : Int) := by have := hr.1; omega
      have ix : ixO row.length ((i : Int) + (j : Int)) = i + j := by unfold ixO; rw [if_pos (by omega)]; omega
      have xi : ixO f.length (i : Int) = i := by unfold ixO; rw [if_pos (by omega)]; omega
      have xj : ixO g.length (j : Int) = j := by unfold ixO; rw [if_pos (by omega)]; omega
      have mi : f.getD i 0 ∈ f := FM.getD_mem hi
      have mj : g.getD j 0 ∈ g := FM.getD_mem hj
      refine ⟨⟨⟨.inr (.inl rfl), ⟨rfl, rfl⟩, l1, l2⟩, ⟨.inl rfl, rfl, by show -(f.length : Int) <= (i : Int); omega, by show (i : Int) < (f.length : Int); omega⟩, ⟨.inl rfl, rfl, by show -(g.length : Int) <= (j : Int); omega, by show (j : Int) < (g.length : Int); omega⟩, ?_⟩, rfl, ⟨rfl, rfl⟩, ⟨l1, l2⟩, row.set (i + j) (row.getD (i + j) 0 + f.getD i 0 * g.getD j 0), .fr (.int j), ?_, rowN_step hr hN2 hi hj⟩
      . show IntMulOk (f.getD (ixO f.length (i : Int)) 0) (g.getD (ixO g.length (j : Int)) 0)
        rw [xi, xj]
        exact mul_ok (n := 9000) (m := 9000) (hf _ mi) (hg _ mj)
      . show [Sl.fr (.ints f), .fr (.ints g), .ow (.ints (row.set (ixO row.length ((i : Int) + (j : Int))) (row.getD (ixO row.length ((i : Int) + (j : Int))) 0 + f.getD (ixO f.length (i : Int)) 0 * g.getD (ixO g.length (j : Int)) 0))), .fr (.int i), .fr (.int j)] = _
        rw [ix, xi, xj]
    . rintro Z ⟨row, v2, rfl, hr⟩
      have e : (g.length : Int).toNat = g.length := by omega
      have hr : RowN N f g i (g.length : Int).toNat row := hr
      rw [e] at hr
      exact ⟨row, _, v2, rfl, rowN_next hr⟩
  . rintro Z ⟨row, v1, v2, rfl, hr⟩
    have e : (f.length : Int).toNat = f.length := by omega
    have hr : RowN N f g (f.length : Int).toNat 0 row := hr
    rw [e] at hr
    refine ⟨⟨⟨rfl, tT⟩, row, rfl, by have := hr.1; omega⟩, ?_⟩
    show trimZ row = trimZ (convL f g)
    refine trim_ext fun n => ?_
    rw [rowN_end hr, convL_get]
theorem kx_goes (T : Top K mg cK cW) : Ok P w K mg base 2 "_law_goes" ["_law_f", "_law_by"] (spF K (GkW cW) (fun as => ∃ f d, as = [.ints f, .ints d] /\ f.length <= 24 /\ d.length <= 24 /\ InForm d /\ d ≠ [] /\ (∀ n, (f.getD n 0).natAbs <= 2 ^ 4000) /\ (∀ n, (d.getD n 0).natAbs <= 2 ^ 4000) /\ Zx.Dz (Zx.mk d) (Zx.mk f)) fun as => match as with
    | [.ints f, .ints d] => .ints (qtL f d)
    | _ => .non) := by
  refine okF T.d_goes sc_goes (fun as ⟨a, b, h, _⟩ => by rw [h]; rfl) (fun f cdv A outer s H E hr => ⟨_, (xss_cons (xst_own (i := 2) sc_goes.nd rfl (Or.inl rfl) (xcl (kx_form T) hr (xa_cons (xl 0) xa_nil)))
 (xss_cons (xst_own (i := 3) sc_goes.nd rfl (Or.inl rfl) (xl_rep (xl_lst (xa_cons xn_int xa_nil)) (xn_max rfl T.b_max xn_int (xn_add (xn_sub (xn_len 2 T.b_len) (xn_len 1 T.b_len)) xn_int)) (fun _ => rfl)))
 (xss_cons (xst_while PassesOwn.never (xt_ge (xn_len 2 T.b_len) (xn_len 1 T.b_len))
 (xss_cons (xst_if (xt_ne (xn_modN (xn_item 2 (xn_neg xn_int) (fun _ _ => rfl)) (xn_item 1 (xn_neg xn_int) (fun _ _ => rfl))) xn_int)
 (xss_one (xst_ret xv_non))
 xss_nil)
 (xss_cons (xst_setI (i := 4) sc_goes.nd rfl (Or.inl rfl) (xn_sub (xn_len 2 T.b_len) (xn_len 1 T.b_len)))
 (xss_cons (xst_setit 3 (xn 4) (xn_divN (xn_item 2 (xn_neg xn_int) (fun _ _ => rfl)) (xn_item 1 (xn_neg xn_int) (fun _ _ => rfl))))
 (xss_cons (xst_forR (k := 5) PassesOwn.never rfl (by rfl) T.b_range (xn_len 1 T.b_len) sc_goes.nd rfl (Or.inl rfl)
 (xss_one (xst_setit 2 (xn_add (xn 4) (xn 5)) (xn_sub (xn_item 2 (xn_add (xn 4) (xn 5)) (fun _ _ => rfl)) (xn_mul (xn_item 3 (xn 4) (fun _ _ => rfl)) (xn_item 1 (xn 5) (fun _ _ => rfl)))))))
 (xss_freeze 2 (xss_one (xst_own (i := 2) sc_goes.nd rfl (Or.inl rfl) (xcl (kx_form T) hr (xa_cons (xl 2) xa_nil))))))))))
 (xss_cons (xst_if (xt_neL hr.units (rlO 2) (rdX (newL (xl_lst xa_nil))))
 (xss_one (xst_ret xv_non))
 xss_nil)
 (xss_freeze 3 (xss_one (xst_ret (xl 3)))))))), fun as hp => ?_⟩)
  obtain ⟨f, d, rfl, lf, ld, fd, nd, bf, bd, dz⟩ := hp
  have dp := lP nd
  have tl := trimZ_len f
  have dlast := last_ix d dp
  have d0 : lastI d ≠ 0 := fd nd
  have dlb : (lastI d).natAbs.log2 < 9000 := by
    have h : (lastI d).natAbs < 2 ^ 4001 := Nat.lt_of_le_of_lt (bd _) (Nat.pow_lt_pow_right (by decide) (by decide))
    exact Nat.lt_trans ((Nat.log2_lt (by omega)).mpr h) (by decide)
  refine ⟨⟨⟨rfl, tT⟩, f, rfl, by omega⟩, fun u eu => ?_⟩
  have eu : u = trimZ f := eu
  have em : (if ((u.length : Int) - (d.length : Int) + 1) > 0 then ((u.length : Int) - (d.length : Int) + 1) else (0 : Int)).toNat = (trimZ f).length + 1 - d.length := by
    rw [eu]
    split <;> omega
  refine ⟨⟨⟨⟨tT, tT⟩, tT⟩, ⟨tT, ⟨.inr (.inl rfl), .inl rfl⟩, tT⟩, ?_, ?_⟩, fun r0 er0 => ?_⟩
  . show -(2 : Int) ^ 63 <= if ((u.length : Int) - (d.length : Int) + 1) > 0 then ((u.length : Int) - (d.length : Int) + 1) else (0 : Int)
    split <;> omega
  . show (if ((u.length : Int) - (d.length : Int) + 1) > 0 then ((u.length : Int) - (d.length : Int) + 1) else (0 : Int)).toNat <= 1000
    rw [em]
    omega
  have er0 : r0 = List.replicate ((trimZ f).length + 1 - d.length) 0 := by rw [<- em]; exact er0
  have G0 := Gs.start dz
  rw [<- er0, <- eu] at G0
  have ul : u.length <= 24 := by rw [eu]; omega
  have ub : ∀ n, (u.getD n 0).natAbs <= 2 ^ (4000 + 4002 * (24 - u.length)) := fun n => by
    rw [eu, trim_get]
    exact Nat.le_trans (bf n) (Nat.pow_le_pow_right (by decide) (by omega))
  clear em er0 eu
  refine to_lit (Z' := [.fr (.ints f), .fr (.ints d), .ow (.ints u), .ow (.ints r0), .un, .un]) rfl ?_
  refine ⟨fun Z => ∃ q r v4 v5, Z = [.fr (.ints f), .fr (.ints d), .ow (.ints r), .ow (.ints q), v4, v5] /\ Gs f d q r /\ r.length <= 24 /\ ∀ n, (r.getD n 0).natAbs <= 2 ^ (4000 + 4002 * (24 - r.length)), fun Z => (getL Z 2).length, ⟨r0, u, .un, .un, rfl, G0, ul, ub⟩, ?_⟩
  clear G0 ul ub
  rintro Z ⟨q, r, v4, v5, rfl, G, rl, rb⟩
  refine ⟨⟨.inr (.inl rfl), .inl rfl⟩, fun c => ?_, fun c => ?_⟩
  . have c : (d.length : Int) <= (r.length : Int) := c
    have hl : d.length <= r.length := by omega
    have rp : 0 < r.length := by omega
    have rlast := last_ix r rp
    have dv := G.top fd nd hl
    obtain ⟨G', lt⟩ := G.step fd nd hl
    have eqd := mul_fdiv_dvd dv
    have cb : ((lastI r).fdiv (lastI d)).natAbs <= 2 ^ (4000 + 4002 * (24 - r.length)) := by
      refine Nat.le_trans ?_ (rb (r.length - 1))
      show _ <= (lastI r).natAbs
      have e := congrArg Int.natAbs eqd
      rw [Int.natAbs_mul] at e
      rw [<- e]
      exact Nat.le_mul_of_pos_left _ (by omega)
    have nb := next_b2 hl bd cb rb lt rl
    have cbig : ((lastI r).fdiv (lastI d)).natAbs < 2 ^ 200000 := Nat.lt_of_le_of_lt cb (Nat.pow_lt_pow_right (by decide) (by omega))
    have dbig : ∀ n, (d.getD n 0).natAbs < 2 ^ 9000 := fun n => Nat.lt_of_le_of_lt (bd n) (Nat.pow_lt_pow_right (by decide) (by decide))
    clear cb
    have ql := G.I.ql
    have rlf := G.I.rl
    have i1 : -(r.length : Int) <= -1 := by omega
    have i2 : (-1 : Int) < (r.length : Int) := by omega
    have i3 : -(d.length : Int) <= -1 := by omega
    have i4 : (-1 : Int) < (d.length : Int) := by omega
    refine ⟨⟨⟨⟨.inr (.inl rfl), tT, i1, i2⟩, ⟨.inl rfl, tT, i3, i4⟩, ?_⟩, tT⟩, fun z => ?_, fun _ => ?_⟩
    . show d.getD (ixO d.length (-1)) 0 ≠ 0
      rw [dlast]
      exact d0
    . have z : ¬ (r.getD (ixO r.length (-1)) 0).fmod (d.getD (ixO d.length (-1)) 0) = 0 := z
      rw [dlast, rlast] at z
      exact absurd (Int.fmod_eq_zero_of_dvd dv) z
    refine ⟨⟨.inr (.inl rfl), .inl rfl⟩, fun a ea => ?_⟩
    have ea : a = (r.length : Int) - (d.length : Int) := ea
    have a0 : a = ((r.length - d.length : Nat) : Int) := by omega
    have ax : ixO q.length a = r.length - d.length := by unfold ixO; rw [if_pos (by omega)]; omega
    have aq : -(q.length : Int) <= a /\ a < (q.length : Int) := by omega
    refine to_lit (Z' := [.fr (.ints f), .fr (.ints d), .ow (.ints r), .ow (.ints q), .fr (.int a), v5]) rfl ?_
    refine ⟨⟨⟨.inr (.inl rfl), tT, i1, i2⟩, ⟨.inl rfl, tT, i3, i4⟩, ?_⟩, rfl, rfl, aq, ?_⟩
    . show d.getD (ixO d.length (-1)) 0 ≠ 0 /\ (d.getD (ixO d.length (-1)) 0).natAbs.log2 < 9000
      rw [dlast]
      exact ⟨d0, dlb⟩
    refine to_lit (Z' := [.fr (.ints f), .fr (.ints d), .ow (.ints r), .ow (.ints (q.set (r.length - d.length) ((lastI r).fdiv (lastI d)))), .fr (.int a), v5]) (by
      show [Sl.fr (.ints f), .fr (.ints d), .ow (.ints r), .ow (.ints (q.set (ixO q.length a) ((r.getD (ixO r.length (-1)) 0).fdiv (d.getD (ixO d.length (-1)) 0)))), .fr (.int a), v5] = _
      rw [dlast, rlast, ax]) ?_
    generalize hcc : (lastI r).fdiv (lastI d) = cc at *
    have qg : (q.set (r.length - d.length) cc).getD (r.length - d.length) 0 = cc := by rw [set_get _ _ _ _ (by omega), if_pos rfl]
    have ql2 : (q.set (r.length - d.length) cc).length = q.length := List.length_set
    generalize hq2 : q.set (r.length - d.length) cc = q2 at *
    have ax2 : ixO q2.length a = r.length - d.length := by rw [ql2]; exact ax
    refine ⟨.inl rfl, ⟨by show -(2 : Int) ^ 62 <= (d.length : Int); omega, by show (d.length : Int) < 2 ^ 62; omega⟩, fun i Z => ∃ row v, Z = [.fr (.ints f), .fr (.ints d), .ow (.ints row), .ow (.ints q2), .fr (.int a), v] /\ TakeAt 0 d r cc i row, ⟨r, v5, rfl, take_start 0 d r cc⟩, ?_, ?_⟩
    . rintro i Z hi ⟨row, v, rfl, ht⟩
      have hi : i < d.length := by have hi : i < (d.length : Int).toNat := hi; omega
      have rwl := ht.1
      have m1 : -(row.length : Int) <= a + (i : Int) := by omega
      have m2 : a + (i : Int) < (row.length : Int) := by omega
      have mx : ixO row.length (a + (i : Int)) = r.length - d.length + i := by unfold ixO; rw [if_pos (by omega)]; omega
      have xd : ixO d.length (i : Int) = i := by unfold ixO; rw [if_pos (by omega)]; omega
      have aq2 : -(q2.length : Int) <= a /\ a < (q2.length : Int) := by omega
      refine ⟨⟨⟨.inr (.inl rfl), ⟨rfl, rfl⟩, m1, m2⟩, ⟨.inr (.inl rfl), rfl, aq2⟩, ⟨.inl rfl, rfl, by show -(d.length : Int) <= (i : Int); omega, by show (i : Int) < (d.length : Int); omega⟩, ?_⟩, rfl, ⟨rfl, rfl⟩, ⟨m1, m2⟩, row.set (r.length - d.length + i) (pl 0 (row.getD (r.length - d.length + i) 0 - cc * d.getD i 0)), .fr (.int i), ?_, take_step ht hl hi⟩
      . show IntMulOk (q2.getD (ixO q2.length a) 0) (d.getD (ixO d.length (i : Int)) 0)
        rw [ax2, xd, qg]
        exact mul_ok (n := 200000) (m := 9000) cbig (dbig i)
      . show [Sl.fr (.ints f), .fr (.ints d), .ow (.ints (row.set (ixO row.length (a + (i : Int))) (row.getD (ixO row.length (a + (i : Int))) 0 - q2.getD (ixO q2.length a) 0 * d.getD (ixO d.length (i : Int)) 0))), .ow (.ints q2), .fr (.int a), .fr (.int i)] = _
        rw [mx, ax2, xd, qg, pl_zero]
    . rintro Z ⟨row, v, rfl, ht⟩
      have e : (d.length : Int).toNat = d.length := by omega
      have ht : TakeAt 0 d r cc (d.length : Int).toNat row := ht
      rw [e] at ht
      refine ⟨⟨⟨rfl, tT⟩, row, rfl, by have := ht.1; omega⟩, fun r2 er2 => ?_⟩
      have er2 : r2 = nextR 0 d r cc := by
        have er2 : r2 = trimZ row := er2
        rw [er2, take_end ht hl]
      rw [<- er2] at G' lt nb
      refine ⟨⟨q2, r2, _, v, rfl, G', by omega, nb⟩, ?_⟩
      show r2.length < r.length
      exact lt
  . have c : ¬ (d.length : Int) <= (r.length : Int) := c
    obtain ⟨z1, z2⟩ := G.done fd nd (by omega)
    refine ⟨⟨.inr rfl, tT, tT⟩, fun z => ?_, fun _ => ?_⟩
    . have z : ¬ r = [] := z
      exact absurd z1 z
    refine ⟨rfl, ?_⟩
    show PV.ints q = .ints (qtL f d)
    rw [z2]
def numW (c w : Int) : Int := if w = 0 then (c * c + c) * 48271 % (2 * 10 ^ 40 + 1) - 10 ^ 40 else if w < 5 then c / 2 % 21 - 10 else (c * c + c) * 48271 % (2 * 10 ^ 12 + 1) - 10 ^ 12
theorem kx_number_by (T : Top K mg cK cW) : Ok P w K mg base 1 "_law_number_by" ["_law_cell", "_law_way"] (spFI K (GkW cW) (fun as => ∃ c w, as = [.int c, .int w] /\ Builtin.Int.intBits c <= 2 ^ 20) fun as => match as with
    | [.int c, .int w] => numW c w
    | _ => 0) := by
  refine okF T.d_number_by sc_number_by (fun as ⟨a, b, h, _⟩ => by rw [h]; rfl) (fun f cdv A outer s H E hr => ⟨_, (xss_cons (xst_if (xt_eq (xn 1) xn_int)
 (xss_one (xst_ret (xn_sub (xn_mod (xn_mul (xn_add (xn_mul (xn 0) (xn 0)) (xn 0)) xn_int) (xn_add (xn_mul xn_int (xn_pow xn_int xn_int)) xn_int)) (xn_pow xn_int xn_int))))
 xss_nil)
 (xss_cons (xst_if (xt_lt (xn 1) xn_int)
 (xss_one (xst_ret (xn_sub (xn_mod (xn_div (xn 0) xn_int) xn_int) xn_int)))
 xss_nil)
 (xss_one (xst_ret (xn_sub (xn_mod (xn_mul (xn_add (xn_mul (xn 0) (xn 0)) (xn 0)) xn_int) (xn_add (xn_mul xn_int (xn_pow xn_int xn_int)) xn_int)) (xn_pow xn_int xn_int)))))), fun as hp => ?_⟩)
  obtain ⟨c, w, rfl, hb⟩ := hp
  refine ⟨by walk_at "xs", fun q => ?_, fun q => ?_⟩
  . have q : w = 0 := q
    refine ⟨⟨⟨⟨⟨⟨rfl, rfl, IntMulOk.of_bits hb hb⟩, rfl⟩, tT, mul_okR (by decide)⟩, ⟨⟨tT, ⟨tT, tT, by walk_at "xs"⟩, by walk_at "xs"⟩, tT⟩, by show (0 : Int) < 2 * 10 ^ 40 + 1; decide⟩, tT, tT, by walk_at "xs"⟩, ?_⟩
    show PV.int ((c * c + c) * 48271 % (2 * 10 ^ 40 + 1) - 10 ^ 40) = PV.int (numW c w)
    unfold numW
    rw [if_pos q]
  have q : ¬ w = 0 := q
  refine ⟨by walk_at "xs", fun q3 => ?_, fun q3 => ?_⟩
  . have q3 : w < 5 := q3
    refine ⟨by walk_at "xs", ?_⟩
    show PV.int (c / 2 % 21 - 10) = PV.int (numW c w)
    unfold numW
    rw [if_neg q, if_pos q3]
  . have q3 : ¬ w < 5 := q3
    refine ⟨⟨⟨⟨⟨⟨rfl, rfl, IntMulOk.of_bits hb hb⟩, rfl⟩, tT, mul_okR (by decide)⟩, ⟨⟨tT, ⟨tT, tT, by walk_at "xs"⟩, by walk_at "xs"⟩, tT⟩, by show (0 : Int) < 2 * 10 ^ 12 + 1; decide⟩, tT, tT, by walk_at "xs"⟩, ?_⟩
    show PV.int ((c * c + c) * 48271 % (2 * 10 ^ 12 + 1) - 10 ^ 12) = PV.int (numW c w)
    unfold numW
    rw [if_neg q, if_neg q3]
theorem numW_0 (c : Int) : (numW c 0).natAbs <= 2 ^ 133 := by
  have h3 := Int.emod_nonneg ((c * c + c) * 48271) (show (2 * 10 ^ 40 + 1 : Int) ≠ 0 by decide)
  have h4 := Int.emod_lt_of_pos ((c * c + c) * 48271) (show (0 : Int) < 2 * 10 ^ 40 + 1 by decide)
  have h5 : (10 : Int) ^ 40 + 1 <= ((2 ^ 133 : Nat) : Int) := by decide +kernel
  unfold numW
  rw [if_pos rfl]
  generalize (10 : Int) ^ 40 = A at *
  generalize (2 ^ 133 : Nat) = B at *
  generalize (c * c + c) * 48271 % (2 * A + 1) = D at *
  omega
theorem numW_1 (c : Int) {w : Int} (h : w ≠ 0) : (numW c w).natAbs <= 2 ^ 40 := by
  have h1' := Int.emod_nonneg (c / 2) (show (21 : Int) ≠ 0 by decide)
  have h2' := Int.emod_lt_of_pos (c / 2) (show (0 : Int) < 21 by decide)
  have h3' := Int.emod_nonneg ((c * c + c) * 48271) (show (2 * 10 ^ 12 + 1 : Int) ≠ 0 by decide)
  have h4' := Int.emod_lt_of_pos ((c * c + c) * 48271) (show (0 : Int) < 2 * 10 ^ 12 + 1 by decide)
  have h6 : (10 : Int) ^ 12 + 1 <= ((2 ^ 40 : Nat) : Int) := by decide +kernel
  have h7 : 20 <= (2 ^ 40 : Nat) := by decide +kernel
  unfold numW
  rw [if_neg h]
  generalize (10 : Int) ^ 12 = A' at *
  generalize (2 ^ 40 : Nat) = B at *
  generalize (c * c + c) * 48271 % (2 * A' + 1) = D' at *
  generalize c / 2 % 21 = D4 at *
  split <;> omega
def mostN (ns : List Int) : Int := if (63 : Int) < (ns.length : Int) then (63 : Int) else (ns.length : Int)
def rowW (ns : List Int) (at_ many way : Int) : Nat -> List Int
  | 0 => List.replicate many.toNat 0
  | i + 1 => if 0 < many then (rowW ns at_ many way i).set (ixO (rowW ns at_ many way i).length ((at_ + i * 3) / 3 % many)) ((rowW ns at_ many way i).getD (ixO (rowW ns at_ many way i).length ((at_ + i * 3) / 3 % many)) 0 + numW (ns.getD (ixO ns.length (at_ + i * 3)) 0) way) else rowW ns at_ many way i
theorem rowW_len (ns : List Int) (at_ many way : Int) : ∀ i, (rowW ns at_ many way i).length = many.toNat
  | 0 => by unfold rowW; rw [List.length_replicate]
  | i + 1 => by
    unfold rowW
    split
    . rw [List.length_set, rowW_len ns at_ many way i]
    . exact rowW_len ns at_ many way i
theorem rowW_b {B : Nat} (ns : List Int) (at_ many way : Int) (hB : ∀ c, (numW c way).natAbs <= B) : ∀ i, ∀ m ∈ rowW ns at_ many way i, m.natAbs <= i * B
  | 0, m, h => by
    unfold rowW at h
    rw [(List.mem_replicate.mp h).2]
    exact Nat.zero_le _
  | i + 1, m, h => by
    have ih := rowW_b ns at_ many way hB i
    have e : (i + 1) * B = i * B + B := Nat.succ_mul _ _
    rw [e]
    have hn := hB (ns.getD (ixO ns.length (at_ + i * 3)) 0)
    unfold rowW at h
    split at h
    . rcases List.mem_or_eq_of_mem_set h with h | h
      . exact Nat.le_trans (ih m h) (Nat.le_add_right _ _)
      . subst h
        have h2 : ((rowW ns at_ many way i).getD (ixO (rowW ns at_ many way i).length ((at_ + i * 3) / 3 % many)) 0).natAbs <= i * B := by
          by_cases c : ixO (rowW ns at_ many way i).length ((at_ + i * 3) / 3 % many) < (rowW ns at_ many way i).length
          . exact ih _ (FM.getD_mem c)
          . rw [getD_ge (by omega)]; exact Nat.zero_le _
        exact Nat.le_trans (Int.natAbs_add_le _ _) (Nat.add_le_add h2 hn)
    . exact Nat.le_trans (ih m h) (Nat.le_add_right _ _)
def rowF (ns : List Int) (at_ many way : Int) : List Int := trimZ (rowW ns at_ many way (rngN at_ (mostN ns) 3))
theorem rowF_ok {B : Nat} {ns : List Int} {at_ many way : Int} (h0 : 0 <= at_) (hB : ∀ c, (numW c way).natAbs <= B) : (rowF ns at_ many way).length <= many.toNat /\ (∀ m ∈ rowF ns at_ many way, m.natAbs <= 64 * B) := by
  unfold rowF
  refine ⟨Nat.le_trans (trimZ_len _) (by rw [rowW_len]; omega), fun m hm => ?_⟩
  have h1 := rowW_b _ _ _ _ hB _ m (trimZ_mem hm)
  have h2 : rngN at_ (mostN ns) 3 <= 64 := by
    have hM : mostN ns <= 63 := by unfold mostN; split <;> omega
    unfold rngN
    split
    . omega
    . omega
  exact Nat.le_trans h1 (Nat.mul_le_mul_right _ h2)
theorem kx_row (T : Top K mg cK cW) : Ok P w K mg base 2 "_law_row" ["_law_script", "_law_at", "_law_many", "_law_way"] (spL K (GkW cW) (fun as => ∃ ns a m w, as = [.scr ns, .int a, .int m, .int w] /\ ns.length <= 63 /\ (∀ m ∈ ns, Builtin.Int.intBits m <= 2 ^ 20) /\ 0 <= a /\ a <= 2 /\ 0 <= m /\ m <= 4) fun as => match as with
    | [.scr ns, .int a, .int m, .int w] => rowF ns a m w
    | _ => []) := by
  refine okL T.d_row sc_row (fun as ⟨a, b, c, d, h, _⟩ => by rw [h]; rfl) (fun f cdv A outer s H E hr => ⟨_, (xss_cons (xst_own (i := 4) sc_row.nd rfl (Or.inl rfl) (xl_rep (xl_lst (xa_cons xn_int xa_nil)) (xn 2) (fun _ => rfl)))
 (xss_cons (xst_forR3 (k := 5) PassesOwn.never rfl (by rfl) T.b_range (xn 1) (xn_min rfl T.b_min (xn_len 0 T.b_len) xn_int) xn_int sc_row.nd rfl (Or.inl rfl)
 (xss_one (xst_if (xt_gt (xn 2) xn_int)
 (xss_cons (xst_setI (i := 6) sc_row.nd rfl (Or.inl rfl) (xn_mod (xn_div (xn 5) xn_int) (xn 2)))
 (xss_one (xst_setit 4 (xn 6) (xn_add (xn_item 4 (xn 6) (fun _ _ => rfl)) (xci (kx_number_by T) hr (xa_cons (xn_item 0 (xn 5) (fun _ _ => rfl)) (xa_cons (xn 3) xa_nil)))))))
 xss_nil)))
 (xss_freeze 4 (xss_one (xst_retl (xcl (kx_form T) hr (xa_cons (xl 4) xa_nil))))))), fun as hp => ?_⟩)
  obtain ⟨ns, a, many, way, rfl, h63, hbits, a0, a1, m0, m13⟩ := hp
  refine ⟨⟨⟨⟨tT, tT⟩, tT⟩, rfl, by show -(2 : Int) ^ 63 <= many; omega, by show many.toNat <= 1000; omega⟩, fun r0 er0 => ?_⟩
  have er0 : r0 = List.replicate many.toNat 0 := er0
  refine to_lit (Z' := [.fr (.scr ns), .fr (.int a), .fr (.int many), .fr (.int way), .ow (.ints r0), .un, .un]) rfl ?_
  have hM : 0 <= mostN ns /\ mostN ns <= (ns.length : Int) /\ mostN ns <= 63 := by unfold mostN; split <;> omega
  refine ⟨⟨rfl, ⟨.inr (.inr rfl), tT⟩, tT⟩, ⟨by show (0 : Int) < 3; decide, by show (3 : Int) < 1000; decide, by show -(2 : Int) ^ 62 <= a; omega, by show a < (2 : Int) ^ 62; omega, by show -(2 : Int) ^ 62 <= mostN ns; omega, by show mostN ns < (2 : Int) ^ 62; omega⟩, fun i Z => ∃ v5 v6, Z = [.fr (.scr ns), .fr (.int a), .fr (.int many), .fr (.int way), .ow (.ints (rowW ns a many way i)), v5, v6], ⟨.un, .un, by rw [er0]; rfl⟩, ?_, ?_⟩
  . rintro i Z hi ⟨v5, v6, rfl⟩
    have hi : i < rngN a (mostN ns) 3 := hi
    have hk : 0 <= a + (i : Int) * 3 /\ a + (i : Int) * 3 < (ns.length : Int) := by
      unfold rngN at hi
      split at hi <;> omega
    refine ⟨⟨rfl, tT⟩, fun q => ?_, fun q => ?_⟩
    . have q : 0 < many := q
      refine ⟨⟨⟨rfl, tT, by show (0 : Int) < 3; decide, by show (3 : Int).natAbs.log2 < 9000; decide +kernel⟩, rfl, q⟩, fun pl epl => ?_⟩
      have epl : pl = (a + (i : Int) * 3) / 3 % many := epl
      have kl := rowW_len ns a many way i
      have k1 := Int.emod_nonneg ((a + (i : Int) * 3) / 3) (show many ≠ 0 by omega)
      have k2 := Int.emod_lt_of_pos ((a + (i : Int) * 3) / 3) q
      rw [<- epl] at k1 k2
      have c1 : -((rowW ns a many way i).length : Int) <= pl /\ pl < ((rowW ns a many way i).length : Int) := by rw [kl]; omega
      refine to_lit (Z' := [.fr (.scr ns), .fr (.int a), .fr (.int many), .fr (.int way), .ow (.ints (rowW ns a many way i)), .fr (.int (a + (i : Int) * 3)), .fr (.int pl)]) rfl ?_
      have hb : Builtin.Int.intBits (ns.getD (ixO ns.length (a + (i : Int) * 3)) 0) <= 2 ^ 20 := hbits _ (FM.getD_mem (ixO_lt (by omega) hk.2))
      refine ⟨⟨⟨.inr (.inl rfl), rfl, c1⟩, ⟨⟨.inr (.inr rfl), rfl, by show -(ns.length : Int) <= a + (i : Int) * 3; omega, hk.2⟩, rfl, tT⟩, _, _, rfl, hb⟩, rfl, rfl, c1, ⟨.fr (.int (a + (i : Int) * 3)), .fr (.int pl), ?_⟩⟩
      show [Sl.fr (.scr ns), .fr (.int a), .fr (.int many), .fr (.int way), .ow (.ints ((rowW ns a many way i).set (ixO (rowW ns a many way i).length pl) ((rowW ns a many way i).getD (ixO (rowW ns a many way i).length pl) 0 + numW (ns.getD (ixO ns.length (a + (i : Int) * 3)) 0) way))), .fr (.int (a + (i : Int) * 3)), .fr (.int pl)] = [.fr (.scr ns), .fr (.int a), .fr (.int many), .fr (.int way), .ow (.ints (rowW ns a many way (i + 1))), .fr (.int (a + (i : Int) * 3)), .fr (.int pl)]
      conv => rhs; unfold rowW
      rw [if_pos q, epl]
    . have q : ¬ 0 < many := q
      refine ⟨.fr (.int (a + (i : Int) * 3)), v6, ?_⟩
      show [Sl.fr (.scr ns), .fr (.int a), .fr (.int many), .fr (.int way), .ow (.ints (rowW ns a many way i)), .fr (.int (a + (i : Int) * 3)), v6] = [.fr (.scr ns), .fr (.int a), .fr (.int many), .fr (.int way), .ow (.ints (rowW ns a many way (i + 1))), .fr (.int (a + (i : Int) * 3)), v6]
      conv => rhs; unfold rowW
      rw [if_neg q]
  rintro Z ⟨v5, v6, rfl⟩
  refine ⟨⟨⟨rfl, tT⟩, _, rfl, ?_⟩, rfl⟩
  show (rowW ns a many way (rngN a (mostN ns) 3)).length <= 1000
  rw [rowW_len]
  omega
def longF (ns : List Int) (a m : Int) : List Int := trimZ ((List.range m.toNat).map fun (k : Nat) => ns.getD (a + 3 * (k : Int)).toNat 0 / 16 % 7 - 3)
theorem longF_ok (ns : List Int) (a m : Int) : (longF ns a m).length <= m.toNat /\ ∀ x ∈ longF ns a m, x.natAbs <= 3 := by
  unfold longF
  refine ⟨Nat.le_trans (trimZ_len _) (by rw [List.length_map, List.length_range]; omega), fun x hx => ?_⟩
  obtain ⟨k, _, rfl⟩ := List.mem_map.mp (trimZ_mem hx)
  omega
theorem kx_long (T : Top K mg cK cW) : Ok P w K mg base 2 "_law_long" ["_law_script", "_law_at", "_law_many"] (spL K (GkW cW) (fun as => ∃ ns a m, as = [.scr ns, .int a, .int m] /\ 0 <= a /\ a <= 2 /\ 0 <= m /\ m <= 17) fun as => match as with
    | [.scr ns, .int a, .int m] => longF ns a m
    | _ => []) := by
  refine okL T.d_long sc_long (fun as ⟨a, b, c, h, _⟩ => by rw [h]; rfl) (fun f cdv A outer s H E hr => ⟨_, (xss_one (xst_retl (xcl (kx_form T) hr (xa_cons (newL (xl_lcR (N' := ["_law_k", "_law_script", "_law_at"]) (cap := [some 0, some 1]) (lc_ok rfl rfl rfl rfl ⟨⟨rfl, Or.inr (Or.inl rfl), (fun z => nomatch (show (some NameKind.cell : Option NameKind) = some NameKind.local from z)), Or.inl rfl, _, rfl, rfl⟩, ⟨⟨rfl, Or.inr (Or.inl rfl), (fun z => nomatch (show (some NameKind.cell : Option NameKind) = some NameKind.local from z)), Or.inl rfl, _, rfl, rfl⟩, tT⟩⟩ ⟨rfl, ⟨rfl, tT⟩⟩ rfl) rfl (by rfl) T.b_range (xn 2) (fun _ _ _ => (pg_name (i := 0) (show (["_law_k", "_law_script", "_law_at"] : List Str).Nodup by decide +kernel) rfl (Or.inl rfl) (.inr rfl))) (fun _ _ _ => (xn_sub (xn_mod (xn_div (xci (kx_cell_at T) hr (xa_cons (xr 1) (xa_cons (xn_add (xn 2) (xn_mul xn_int (xn 0))) xa_nil))) xn_int) xn_int) xn_int)))) xa_nil)))), fun as hp => ?_⟩)
  obtain ⟨ns, a, m, rfl, a0, a2, m0, m17⟩ := hp
  refine ⟨⟨⟨⟨rfl, ⟨by show 0 <= m; omega, by show m <= 1000; omega⟩, fun k hk => ?_⟩, tT⟩, _, rfl, ?_⟩, ?_⟩
  . refine ⟨⟨⟨⟨⟨rfl, ⟨rfl, tT, rfl, mul_okL (by decide)⟩, tT⟩, tT, rfl, ?_⟩, tT, by show (0 : Int) < 16; decide, by show (16 : Int).natAbs.log2 < 9000; decide +kernel⟩, tT, by show (0 : Int) < 7; decide⟩, tT⟩
    show (0 : Int) <= a + 3 * (k : Int)
    omega
  . show ((List.range m.toNat).map fun (k : Nat) => ns.getD (a + 3 * (k : Int)).toNat 0 / 16 % 7 - 3).length <= 1000
    rw [List.length_map, List.length_range]
    omega
  . rfl
theorem kx_bare (T : Top K mg cK cW) : Ok P w K mg base 2 "_law_bare" ["_law_row_here"] (spL K (GkW cW) (fun as => ∃ f, as = [.ints f] /\ f.length <= 1000 /\ InForm f /\ f ≠ [] /\ ∀ n, (f.getD n 0).natAbs <= 2 ^ 4000) fun as => match as with
    | [.ints f] => lbare f
    | _ => []) := by
  refine okL T.d_bare sc_bare (fun as ⟨a, h, _⟩ => by rw [h]; rfl) (fun f cdv A outer s H E hr => ⟨_, (xss_cons (xst_setI (i := 1) sc_bare.nd rfl (Or.inr rfl) xn_int)
 (xss_cons (xst_forL (k := 2) PassesOwn.never rfl (xl 0) sc_bare.nd rfl (Or.inl rfl)
 (xss_one (xst_setI (i := 1) sc_bare.nd rfl (Or.inr rfl) (xci (kx_divisor T) hr (xa_cons (xn 1) (xa_cons (xn 2) xa_nil))))))
 (xss_one (xst_retl (xl_lcL (N' := ["_law_number", "_law_content"]) (cap := [some 1]) (lc_ok rfl rfl rfl rfl ⟨⟨rfl, Or.inr (Or.inl rfl), (fun z => nomatch (show (some NameKind.cell : Option NameKind) = some NameKind.local from z)), Or.inl rfl, _, rfl, rfl⟩, tT⟩ ⟨rfl, tT⟩ rfl) rfl (xl 0) (fun _ _ _ => (pg_name (i := 0) (show (["_law_number", "_law_content"] : List Str).Nodup by decide +kernel) rfl (Or.inl rfl) (.inr rfl))) (fun _ _ _ => (xn_divN (xn 0) (xn 1)))))))), fun as hp => ?_⟩)
  obtain ⟨f, rfl, hl, ff, nf, bf⟩ := hp
  refine ⟨tT, fun c0 ec0 => ?_⟩
  have ec0 : c0 = 0 := ec0
  refine to_lit (Z' := [.fr (.ints f), .fr (.int c0), .un]) rfl ?_
  refine ⟨rfl, fun i Z => ∃ v, Z = [.fr (.ints f), .fr (.int (gcdF 0 (f.take i))), v], ⟨.un, by rw [ec0]; rfl⟩, ?_, ?_⟩
  . rintro i n Z hn ⟨v, rfl⟩
    have hn : f[i]? = some n := hn
    refine ⟨⟨⟨rfl, rfl, tT⟩, _, _, rfl⟩, fun c ec => ?_⟩
    have ec : c = (Int.gcd (gcdF 0 (f.take i)) n : Int) := ec
    have e2 : gcdF 0 (f.take (i + 1)) = c := by rw [take_at hn, gcdF_app, ec]; rfl
    rw [<- e2]
    exact ⟨_, rfl⟩
  rintro Z ⟨v, rfl⟩
  have e3 : gcdF 0 (f.take f.length) = gcdF 0 f := by rw [List.take_length]
  refine to_lit (Z' := [.fr (.ints f), .fr (.int (gcdF 0 f)), v]) (by rw [<- e3]; rfl) ?_
  have g0 := gcdF_ne ff nf
  have gb : (gcdF 0 f).natAbs.log2 < 9000 := by
    have lf := lP nf
    have h1 := (gcdF_dvd f 0).2 (f.getD (f.length - 1) 0) (FM.getD_mem (by omega))
    have h2 := Nat.le_of_dvd (by have := ff nf; omega) (Int.natAbs_dvd_natAbs.mpr h1)
    have h3 : (gcdF 0 f).natAbs < 2 ^ 4001 := Nat.lt_of_le_of_lt (Nat.le_trans h2 (bf _)) (Nat.pow_lt_pow_right (by decide) (by decide))
    exact Nat.lt_trans ((Nat.log2_lt (by omega)).mpr h3) (by decide)
  exact ⟨⟨rfl, hl, fun n hn => ⟨rfl, rfl, g0, gb⟩⟩, rfl⟩
theorem xe_notN {X : Cx} {G : Gx} {e : Expr} {p pos : Pos} {C : En -> Prop} {g : En -> PV} {k2 : Nat} (he : PE X e (tX X.K G C g)) : PE X (.Compare e [.IsNot] [.Constant .none k2 p] pos) (tXB X.K G (fun Z => C Z /\ nonOr (g Z)) fun Z => ¬ isNonP (g Z) = true) :=
  toX (pe_cmpR op_notN he pe_non (nomark _)) fun B σ H Z O Q R c q => ⟨B, Z, O, R, c.1, fun v H1 s1 a1 => ⟨rfl, by
    have key : (!decide (v = V.non)) = decide (¬ isNonP (g Z) = true) := by
      have h := c.2
      revert a1 h
      generalize g Z = pg
      intro a1 h
      cases pg <;> first | exact h.elim | skip
      . have a1 : v = .non := a1
        rw [a1]; rfl
      . obtain ⟨a, rfl, _⟩ := a1
        rfl
      . obtain ⟨a, rfl, _⟩ := a1
        rfl
    rw [key]
    exact q _ H1 s1 rfl⟩⟩
def manyW (ns : List Int) (way : Int) (j : Nat) : Int := if way = 0 then ns.getD j 0 / 2 % 5 / 2 else ns.getD j 0 / 2 % 5
def rowAt (ns : List Int) (way : Int) (j : Nat) : List Int := if ns.getD 5 0 % 16 = 3 then longF ns (j : Int) (([4, 17, 17] : List Int).getD j 0) else rowF ns (j : Int) (manyW ns way j) way
theorem pow_fits {l H k : Nat} (h : 4 * l * H <= 2 ^ k) (hk : k * (2 * l) <= 4000) : (4 * l * H) ^ (2 * l) <= 2 ^ 4000 :=
  Nat.le_trans (Nat.pow_le_pow_left h _) (by rw [<- Nat.pow_mul]; exact Nat.pow_le_pow_right (by decide) hk)
theorem conv_b {d u : List Int} {A a1 H : Nat} (hu : u.length <= a1) (bd : ∀ m ∈ d, m.natAbs <= A) (bu : ∀ m ∈ u, m.natAbs <= A) (hH : a1 * (A * A) <= H) (n : Nat) : ((trimZ (convL d u)).getD n 0).natAbs <= H := by
  rw [trim_get, convL_get]
  exact Nat.le_trans (cm_abs bd bu n) (Nat.le_trans (Nat.mul_le_mul_right _ hu) hH)
theorem conv_l (d u : List Int) : (trimZ (convL d u)).length <= d.length + u.length := by
  refine Nat.le_trans (trimZ_len _) ?_
  unfold convL
  rw [List.length_map, List.length_range]
  exact Nat.le_refl _
theorem rows_sz (ns : List Int) (way : Int) : ∃ A a0 a1 l H : Nat, (rowAt ns way 0).length <= a0 /\ (rowAt ns way 1).length <= a1 /\ (rowAt ns way 2).length <= a1 /\ (∀ j, j < 3 -> ∀ m ∈ rowAt ns way j, m.natAbs <= A) /\ A <= 2 ^ 4000 /\ a0 + a1 <= l /\ l <= 21 /\ a1 * (A * A) <= H /\ 1 <= l /\ 1 <= H /\ (4 * l * H) ^ (2 * l) <= 2 ^ 4000 := by
  by_cases c : ns.getD 5 0 % 16 = 3
  . have e : ∀ j, rowAt ns way j = longF ns (j : Int) (([4, 17, 17] : List Int).getD j 0) := fun j => by unfold rowAt; rw [if_pos c]
    refine ⟨3, 4, 17, 21, 153, ?_, ?_, ?_, fun j _ m hm => ?_, Nat.le_trans (show 3 <= 2 ^ 2 by decide) (Nat.pow_le_pow_right (by decide) (by decide)), by decide, by decide, by decide, by decide, by decide, pow_fits (k := 14) (by decide) (by decide)⟩
    . rw [e]; exact (longF_ok ns _ _).1
    . rw [e]; exact (longF_ok ns _ _).1
    . rw [e]; exact (longF_ok ns _ _).1
    . rw [e] at hm; exact (longF_ok ns _ _).2 m hm
  have e : ∀ j, rowAt ns way j = rowF ns (j : Int) (manyW ns way j) way := fun j => by unfold rowAt; rw [if_neg c]
  by_cases w0 : way = 0
  . have hm : ∀ j, (manyW ns way j).toNat <= 2 := fun j => by
      unfold manyW
      rw [if_pos w0]
      omega
    have ok := fun j : Nat => rowF_ok (B := 2 ^ 133) (ns := ns) (at_ := (j : Int)) (many := manyW ns way j) (way := way) (by omega) (by rw [w0]; exact numW_0)
    refine ⟨64 * 2 ^ 133, 2, 2, 4, 2 ^ 279, ?_, ?_, ?_, fun j _ m hm => ?_, ?_, by decide, by decide, by decide +kernel, by decide, by decide +kernel, pow_fits (k := 283) (by decide +kernel) (by decide)⟩
    . rw [e]; exact Nat.le_trans (ok 0).1 (hm 0)
    . rw [e]; exact Nat.le_trans (ok 1).1 (hm 1)
    . rw [e]; exact Nat.le_trans (ok 2).1 (hm 2)
    . rw [e] at hm; exact (ok j).2 m hm
    . exact Nat.le_trans (show 64 * 2 ^ 133 <= 2 ^ 139 by decide +kernel) (Nat.pow_le_pow_right (by decide) (by decide))
  . have hm : ∀ j, (manyW ns way j).toNat <= 4 := fun j => by
      unfold manyW
      rw [if_neg w0]
      omega
    have ok := fun j : Nat => rowF_ok (B := 2 ^ 40) (ns := ns) (at_ := (j : Int)) (many := manyW ns way j) (way := way) (by omega) (fun c => numW_1 c w0)
    refine ⟨64 * 2 ^ 40, 4, 4, 8, 2 ^ 94, ?_, ?_, ?_, fun j _ m hm => ?_, ?_, by decide, by decide, by decide +kernel, by decide, by decide +kernel, pow_fits (k := 99) (by decide +kernel) (by decide)⟩
    . rw [e]; exact Nat.le_trans (ok 0).1 (hm 0)
    . rw [e]; exact Nat.le_trans (ok 1).1 (hm 1)
    . rw [e]; exact Nat.le_trans (ok 2).1 (hm 2)
    . rw [e] at hm; exact (ok j).2 m hm
    . exact Nat.le_trans (show 64 * 2 ^ 40 <= 2 ^ 46 by decide +kernel) (Nat.pow_le_pow_right (by decide) (by decide))
theorem app_z {f t : List Int} (h : ∀ m ∈ t, m = 0) (n : Nat) : (f ++ t).getD n 0 = f.getD n 0 := by
  by_cases c : n < f.length
  . rw [app_l c]
  . rw [app_r (by omega), getD_ge (xs := f) (by omega)]
    by_cases d : n - f.length < t.length
    . exact h _ (FM.getD_mem d)
    . rw [getD_ge (by omega)]
theorem cut_in {l : List Int} {a b : Option Int} {m : Int} (h : m ∈ cutI l a b) : m ∈ l := by
  unfold cutI at h
  exact List.drop_subset _ _ (List.take_subset _ _ h)
theorem mk_nil {f : List Int} (h : InForm f) (z : Zx.mk f = 0) : f = [] := Classical.byContradiction fun c => by
  have := congrArg (fun x => Zx.cf x (f.length - 1)) z
  rw [Zx.cf_mk, Zx.cf_zero] at this
  exact h c this
theorem dz_conv (d u : List Int) : Zx.Dz (Zx.mk (lbare d)) (Zx.mk (trimZ (convL d u))) := by
  have e : Zx.mk (trimZ (convL d u)) = Zx.mk d * Zx.mk u := by
    rw [Zx.mk_mul]
    exact Zx.ext fun n => trim_get _ n
  obtain ⟨v, hv⟩ := lbare_dz (f := d)
  refine ⟨v * Zx.mk u, ?_⟩
  rw [e]
  generalize Zx.mk (lbare d) = x at *
  rw [hv]
  grind
theorem kx_law (T : Top K mg cK cW) {f : Addr} {fd : FuncData} (F : Fun K "law" "law" s_law f fd) : FnOk P w K mg base CX0 8 f fd ["_law_script"] (spLaw2 K) := by
  refine lawF2 (G := GkW cW) F sc_law (fun cdv A outer s H E hr => ⟨_, (xss_cons (xst_setI (i := 1) sc_law.nd rfl (Or.inl rfl) (xn_mod (xci (kx_cell_at T) hr (xa_cons (xr 0) (xa_cons xn_int xa_nil))) xn_int))
 (xss_cons (xst_ownP (i := 2) sc_law.nd rfl (Or.inl rfl) (xp_lst xa_nil))
 (xss_cons (xst_forR (k := 3) PassesOwn.never rfl (by rfl) T.b_range xn_int sc_law.nd rfl (Or.inl rfl)
 (xss_cons (xst_setI (i := 4) sc_law.nd rfl (Or.inl rfl) (xn_mod (xn_div (xci (kx_cell_at T) hr (xa_cons (xr 0) (xa_cons (xn 3) xa_nil))) xn_int) xn_int))
 (xss_join (xst_if (xt_eq (xn 1) xn_int)
 (xss_one (xst_setI (i := 4) sc_law.nd rfl (Or.inl rfl) (xn_div (xn 4) xn_int)))
 xss_nil)
 (xss_one (xst_if (xt_eq (xn_mod (xci (kx_cell_at T) hr (xa_cons (xr 0) (xa_cons xn_int xa_nil))) xn_int) xn_int)
 (xss_one (xst_appP 2 (newL (xcl (kx_long T) hr (xa_cons (xr 0) (xa_cons (xn 3) (xa_cons (xn_of (xp_item (newL (xl_lst (xa_cons xn_int (xa_cons xn_int (xa_cons xn_int xa_nil))))) (xn 3) (fun _ _ => rfl))) xa_nil)))))))
 (xss_one (xst_appP 2 (newL (xcl (kx_row T) hr (xa_cons (xr 0) (xa_cons (xn 3) (xa_cons (xn 4) (xa_cons (xn 1) xa_nil)))))))))))))
 (xss_cons (xst_setL (i := 5) sc_law.nd rfl (Or.inl rfl) (newL (xcl (kx_times T) hr (xa_cons (xl_of (xp_itemO 2 xn_int (fun _ _ => rfl))) (xa_cons (xl_of (xp_itemO 2 xn_int (fun _ _ => rfl))) xa_nil)))))
 (xss_cons (xst_setL (i := 6) sc_law.nd rfl (Or.inl rfl) (newL (xcl (kx_times T) hr (xa_cons (xl_of (xp_itemO 2 xn_int (fun _ _ => rfl))) (xa_cons (xl_of (xp_itemO 2 xn_int (fun _ _ => rfl))) xa_nil)))))
 (xss_cons (xst_setL (i := 7) sc_law.nd rfl (Or.inl rfl) (newL (xl_slice (newL (xl_lst (xa_cons xn_int (xa_cons xn_int xa_nil)))) xo_none (xo_some (xn_mod (xci (kx_cell_at T) hr (xa_cons (xr 0) (xa_cons xn_int xa_nil))) xn_int)) (fun _ _ => .inl rfl))))
 (xss_cons (xst_setP (i := 8) sc_law.nd rfl (Or.inl rfl) (newP (xp_lst (xa_cons (newL (xl_cat (xl 5) (xl 7))) (xa_cons (newL (xl_cat (xl 6) (newL (xl_slice (xl 7) xo_none (xo_some xn_int) (fun _ _ => .inl rfl))))) xa_nil)))))
 (xss_cons (xst_setL (i := 9) sc_law.nd rfl (Or.inl rfl) (xcL (kx_whole_common T) hr (xa_cons (xl_of (xp_item (xv 8) xn_int (fun _ _ => rfl))) (xa_cons (xl_of (xp_item (xv 8) xn_int (fun _ _ => rfl))) xa_nil))))
 (xss_cons (xst_if (L2.PW.pt (xw_or (xt_not (xt_V (xe_isinst T.b_isinstance (xl 9) (xv_bltn (by rfl) T.b_list bt_list)))) (xw_or1 (xt_neL hr.units (rdX (newL (xl_lcLT (N' := ["_law_number"]) (cap := []) (lc_ok rfl rfl rfl rfl tT tT rfl) rfl (rdX (xl 9)) (fun _ _ _ => (pg_name (i := 0) (show (["_law_number"] : List Str).Nodup by decide +kernel) rfl (Or.inl rfl) (.inr rfl))) (fun _ _ _ => (xt_not (xt_V (xcb (kx_whole T) hr (xa_cons (xn 0) xa_nil))))) (fun _ _ _ => (xn 0))))) (rdX (newL (xl_lst xa_nil)))))))
 (xss_one (xst_ret xb_bl))
 xss_nil)
 (xss_cons (xst_setL (i := 10) sc_law.nd rfl (Or.inl rfl) (xcL (kx_whole_common T) hr (xa_cons (xl_of (xp_item (xv 8) xn_int (fun _ _ => rfl))) (xa_cons (xl_of (xp_item (xv 8) xn_int (fun _ _ => rfl))) xa_nil))))
 (xss_cons (xst_if (L2.PW.pt (xw_or (xt_neD hr.units (rdX (xv 8)) (rdX (newP (xp_lst (xa_cons (newL (xl_cat (xl 5) (xl 7))) (xa_cons (newL (xl_cat (xl 6) (newL (xl_slice (xl 7) xo_none (xo_some xn_int) (fun _ _ => .inl rfl))))) xa_nil)))))) (xw_or (xt_not (xt_V (xe_isinst T.b_isinstance (xl 10) (xv_bltn (by rfl) T.b_list bt_list)))) (xw_or1 (xt_neL hr.units (rdX (xl 10)) (rdX (xl 9)))))))
 (xss_one (xst_ret xb_bl))
 xss_nil)
 (xss_cons (xst_if (L2.PW.pt (xw_and (xt_eqL hr.units (rdX (xl 5)) (rdX (newL (xl_lst xa_nil)))) (xw_and1 (xt_eqL hr.units (rdX (xl 6)) (rdX (newL (xl_lst xa_nil)))))))
 (xss_one (xst_ret (xe_eqL hr.units (rdX (xl 9)) (rdX (newL (xl_lst xa_nil))))))
 xss_nil)
 (xss_cons (xst_if (L2.PW.pt (xw_or (xt_eqL hr.units (rdX (xl 9)) (rdX (newL (xl_lst xa_nil)))) (xw_or (xt_lt (xn_item 9 (xn_neg xn_int) (fun _ _ => rfl)) xn_int) (xw_or1 (xt_neL hr.units (rdX (newL (xcl (kx_bare T) hr (xa_cons (xl 9) xa_nil)))) (rdX (xl 9)))))))
 (xss_one (xst_ret xb_bl))
 xss_nil)
 (xss_cons (xst_if (L2.PW.pt (xw_or (xt_isN (xc (kx_goes T) hr (xa_cons (xl 5) (xa_cons (xl 9) xa_nil)))) (xw_or1 (xt_isN (xc (kx_goes T) hr (xa_cons (xl 6) (xa_cons (xl 9) xa_nil)))))))
 (xss_one (xst_ret xb_bl))
 xss_nil)
 (xss_one (xst_ret (xe_notN (xc (kx_goes T) hr (xa_cons (xl 9) (xa_cons (newL (xcl (kx_bare T) hr (xa_cons (xl_of (xp_itemO 2 xn_int (fun _ _ => rfl))) xa_nil))) xa_nil)))))))))))))))))))), fun ns h63 hbits => ?_⟩)
  refine ⟨⟨⟨⟨rfl, tT, tT⟩, tT, rfl, by show (0 : Int) <= 3; decide⟩, tT, by show (0 : Int) < 8; decide⟩, fun way ew => ?_⟩
  clear ew
  refine ⟨tT, fun l0 el0 => ?_⟩
  have el0 : l0 = [] := el0
  refine to_lit (Z' := [.fr (.scr ns), .fr (.int way), .ow (.lst l0), .un, .un, .un, .un, .un, .un, .un, .un]) rfl ?_
  refine ⟨tT, ⟨by show -(2 : Int) ^ 62 <= 3; decide, by show (3 : Int) < 2 ^ 62; decide⟩, fun i Z => ∃ v3 v4, Z = [.fr (.scr ns), .fr (.int way), .ow (tabP ((List.range i).map (rowAt ns way))), v3, v4, .un, .un, .un, .un, .un, .un], ⟨.un, .un, by rw [el0]; rfl⟩, ?_, ?_⟩
  . rintro i Z hi ⟨v3, v4, rfl⟩
    have hi : i < (3 : Int).toNat := hi
    have hi : i < 3 := hi
    refine ⟨⟨⟨⟨⟨rfl, rfl, tT⟩, tT, rfl, by show (0 : Int) <= (i : Int); omega⟩, tT, by show (0 : Int) < 2; decide, by show (2 : Int).natAbs.log2 < 9000; decide +kernel⟩, tT, by show (0 : Int) < 5; decide⟩, fun m0 em0 => ?_⟩
    have em0 : m0 = ns.getD i 0 / 2 % 5 := by
      have em0 : m0 = ns.getD (i : Int).toNat 0 / 2 % 5 := em0
      rw [Int.toNat_natCast] at em0
      exact em0
    refine to_lit (Z' := [.fr (.scr ns), .fr (.int way), .ow (tabP ((List.range i).map (rowAt ns way))), .fr (.int (i : Int)), .fr (.int m0), .un, .un, .un, .un, .un, .un]) rfl ?_
    refine ⟨fun Z => Z = [.fr (.scr ns), .fr (.int way), .ow (tabP ((List.range i).map (rowAt ns way))), .fr (.int (i : Int)), .fr (.int (manyW ns way i)), .un, .un, .un, .un, .un, .un], ⟨⟨rfl, tT⟩, fun q => ?_, fun q => ?_⟩, ?_⟩
    . have q : way = 0 := q
      refine ⟨⟨rfl, tT, by show (0 : Int) < 2; decide, by show (2 : Int).natAbs.log2 < 9000; decide +kernel⟩, fun m1 em1 => ?_⟩
      have em1 : m1 = m0 / 2 := em1
      have e : manyW ns way i = m1 := by unfold manyW; rw [if_pos q, em1, em0]
      rw [e]
      rfl
    . have q : ¬ way = 0 := q
      have e : manyW ns way i = m0 := by unfold manyW; rw [if_neg q, em0]
      rw [e]
    rintro Z rfl
    have mb : 0 <= manyW ns way i /\ manyW ns way i <= 4 := by
      unfold manyW
      split <;> omega
    have app : ∀ x, x = rowAt ns way i -> PV.lst (((List.range i).map (rowAt ns way)).map PV.ints ++ [.ints x]) = tabP ((List.range (i + 1)).map (rowAt ns way)) := fun x e => by
      unfold tabP
      rw [List.range_succ, List.map_append, List.map_append, e]
      rfl
    have sl : (((List.range i).map (rowAt ns way)).map PV.ints).length < sizeLine := by
      rw [List.length_map, List.length_map, List.length_range]
      exact small1000 (by omega)
    refine ⟨⟨⟨⟨⟨rfl, tT, tT⟩, tT, rfl, by show (0 : Int) <= 5; decide⟩, tT, by show (0 : Int) < 16; decide⟩, tT⟩, fun q => ?_, fun q => ?_⟩
    . have q : ns.getD 5 0 % 16 = 3 := q
      have ei : itP (.ints [4, 17, 17]) (i : Int) = .int (([4, 17, 17] : List Int).getD i 0) /\ (0 <= ([4, 17, 17] : List Int).getD i 0 /\ ([4, 17, 17] : List Int).getD i 0 <= 17) := by
        have : i = 0 \/ i = 1 \/ i = 2 := by omega
        rcases this with rfl | rfl | rfl
        . exact ⟨rfl, by decide⟩
        . exact ⟨rfl, by decide⟩
        . exact ⟨rfl, by decide⟩
      refine ⟨rfl, ⟨⟨rfl, rfl, ⟨⟨⟨⟨tT, tT, tT, tT⟩, tT⟩, rfl, ?_⟩, ?_⟩, tT⟩, ns, (i : Int), ([4, 17, 17] : List Int).getD i 0, ?_, by omega, by omega, ei.2⟩, sl, .fr (.int (i : Int)), .fr (.int (manyW ns way i)), ?_⟩
      . exact ⟨by show -(3 : Int) <= (i : Int); omega, by show (i : Int) < 3; omega⟩
      . show itP (.ints [4, 17, 17]) (i : Int) = .int (pvI (itP (.ints [4, 17, 17]) (i : Int)))
        rw [ei.1]
        rfl
      . show [PV.scr ns, .int (i : Int), .int (pvI (itP (.ints [4, 17, 17]) (i : Int)))] = _
        rw [ei.1]
        rfl
      . have e : longF ns (i : Int) (pvI (itP (.ints [4, 17, 17]) (i : Int))) = rowAt ns way i := by
          rw [ei.1]
          unfold rowAt
          rw [if_pos q]
          rfl
        rw [<- app _ e]
        rfl
    . have q : ¬ ns.getD 5 0 % 16 = 3 := q
      refine ⟨rfl, ⟨⟨rfl, rfl, rfl, rfl, tT⟩, ns, (i : Int), manyW ns way i, way, rfl, h63, hbits, by omega, by omega, mb⟩, sl, .fr (.int (i : Int)), .fr (.int (manyW ns way i)), ?_⟩
      have e : rowF ns (i : Int) (manyW ns way i) way = rowAt ns way i := by
        unfold rowAt
        rw [if_neg q]
      rw [<- app _ e]
      rfl
  rintro Z ⟨v3, v4, rfl⟩
  obtain ⟨A, a0, a1, l, H, hd0, hu0, hv0, hb, hA, hal, hl21, hH, hl1, hH1, hfit⟩ := rows_sz ns way
  have bd := hb 0 (by decide)
  have bu := hb 1 (by decide)
  have bv := hb 2 (by decide)
  have fd0 : InForm (rowAt ns way 0) := by
    unfold rowAt
    split
    . exact trim_form _
    . exact trim_form _
  have e3 : tabP ((List.range (3 : Int).toNat).map (rowAt ns way)) = .lst [.ints (rowAt ns way 0), .ints (rowAt ns way 1), .ints (rowAt ns way 2)] := rfl
  generalize rowAt ns way 0 = d at *
  generalize rowAt ns way 1 = u at *
  generalize rowAt ns way 2 = v at *
  refine to_lit (Z' := [.fr (.scr ns), .fr (.int way), .ow (.lst [.ints d, .ints u, .ints v]), v3, v4, .un, .un, .un, .un, .un, .un]) (by rw [<- e3]) ?_
  clear e3 hb
  have b9 : ∀ {x : List Int}, (∀ m ∈ x, m.natAbs <= A) -> ∀ m ∈ x, m.natAbs < 2 ^ 9000 := fun h m hm => Nat.lt_of_le_of_lt (Nat.le_trans (h m hm) hA) (Nat.pow_lt_pow_right (by decide) (by decide))
  have ix : ∀ k : Int, 0 <= k -> k < 3 -> -(([PV.ints d, .ints u, .ints v].length : Nat) : Int) <= k /\ k < (([PV.ints d, .ints u, .ints v].length : Nat) : Int) := fun k h0 h3 => ⟨by show -(3 : Int) <= k; omega, by show k < 3; omega⟩
  refine ⟨⟨⟨⟨⟨rfl, tT, ix 0 (by decide) (by decide)⟩, rfl⟩, ⟨⟨rfl, tT, ix 1 (by decide) (by decide)⟩, rfl⟩, tT⟩, d, u, rfl, by omega, b9 bd, b9 bu⟩, fun ff eff => ?_⟩
  have eff : ff = trimZ (convL d u) := eff
  refine to_lit (Z' := [.fr (.scr ns), .fr (.int way), .ow (.lst [.ints d, .ints u, .ints v]), v3, v4, .fr (.ints ff), .un, .un, .un, .un, .un]) rfl ?_
  refine ⟨⟨⟨⟨⟨rfl, tT, ix 0 (by decide) (by decide)⟩, rfl⟩, ⟨⟨rfl, tT, ix 2 (by decide) (by decide)⟩, rfl⟩, tT⟩, d, v, rfl, by omega, b9 bd, b9 bv⟩, fun gg egg => ?_⟩
  have egg : gg = trimZ (convL d v) := egg
  have lf := conv_l d u
  have lg := conv_l d v
  have bf := conv_b hu0 bd bu hH
  have bg := conv_b hv0 bd bv hH
  have fo : InForm ff := by rw [eff]; exact trim_form _
  have go : InForm gg := by rw [egg]; exact trim_form _
  have zd : d = [] -> ff = [] /\ gg = [] := fun z => by
    have k : ∀ y : List Int, trimZ (convL d y) = [] := fun y => form_ext (trim_form _) (fun h => absurd rfl h) fun n => by
      rw [trim_get, convL_get, z, cm_nil]
      rfl
    exact ⟨by rw [eff]; exact k u, by rw [egg]; exact k v⟩
  have df : Zx.Dz (Zx.mk (lbare d)) (Zx.mk ff) := by rw [eff]; exact dz_conv d u
  have dg : Zx.Dz (Zx.mk (lbare d)) (Zx.mk gg) := by rw [egg]; exact dz_conv d v
  rw [<- eff] at lf bf
  rw [<- egg] at lg bg
  clear eff egg
  have up := Nat.le_trans (Zx.one_pow hl1 hH1) hfit
  refine to_lit (Z' := [.fr (.scr ns), .fr (.int way), .ow (.lst [.ints d, .ints u, .ints v]), v3, v4, .fr (.ints ff), .fr (.ints gg), .un, .un, .un, .un]) rfl ?_
  refine ⟨⟨⟨⟨tT, tT, tT⟩, tT⟩, tT, ⟨⟨⟨rfl, tT, tT⟩, tT, rfl, by show (0 : Int) <= 4; decide⟩, tT, by show (0 : Int) < 3; decide⟩⟩, fun tl etl => ?_⟩
  have etl : tl = cutI [0, 0] none (some (ns.getD 4 0 % 3)) := etl
  have tz : ∀ m ∈ tl, m = 0 := fun m hm => by
    rw [etl] at hm
    have := cut_in hm
    simpa using this
  have tll : tl.length <= 2 := by
    rw [etl]
    exact cutI_len _ _ _
  clear etl
  have tz1 : ∀ m ∈ cutI tl none (some 1), m = 0 := fun m hm => tz m (cut_in hm)
  have tl1 : (cutI tl none (some 1)).length <= 2 := Nat.le_trans (cutI_len _ _ _) tll
  refine to_lit (Z' := [.fr (.scr ns), .fr (.int way), .ow (.lst [.ints d, .ints u, .ints v]), v3, v4, .fr (.ints ff), .fr (.ints gg), .fr (.ints tl), .un, .un, .un]) rfl ?_
  have s1 : ff.length + tl.length <= sizeLine := Nat.le_of_lt (small1000 (by omega))
  have s2 : gg.length + (cutI tl none (some 1)).length <= sizeLine := Nat.le_of_lt (small1000 (by omega))
  refine ⟨⟨⟨rfl, rfl, s1⟩, ⟨rfl, ⟨rfl, tT, tT⟩, s2⟩, tT⟩, fun hp ehp => ?_⟩
  have ehp : hp = .lst [.ints (ff ++ tl), .ints (gg ++ cutI tl none (some 1))] := ehp
  generalize hc1 : cutI tl none (some 1) = t1 at *
  have ef : ∀ n, (ff ++ tl).getD n 0 = ff.getD n 0 := app_z tz
  have eg : ∀ n, (gg ++ t1).getD n 0 = gg.getD n 0 := app_z tz1
  have tf : trimZ (ff ++ tl) = ff := (trim_ext ef).trans (form_trim fo)
  have tg : trimZ (gg ++ t1) = gg := (trim_ext eg).trans (form_trim go)
  have mf : Zx.mk (ff ++ tl) = Zx.mk ff := Zx.ext ef
  have mg' : Zx.mk (gg ++ t1) = Zx.mk gg := Zx.ext eg
  have S : Sz l H (ff ++ tl) (gg ++ t1) := ⟨hl1, hH1, by rw [tf]; omega, by rw [tg]; omega, fun n => by rw [ef]; exact bf n, fun n => by rw [eg]; exact bg n⟩
  have lh1 : (ff ++ tl).length <= 24 := by rw [List.length_append]; omega
  have lh2 : (gg ++ t1).length <= 24 := by rw [List.length_append]; omega
  subst ehp
  refine to_lit (Z' := [.fr (.scr ns), .fr (.int way), .ow (.lst [.ints d, .ints u, .ints v]), v3, v4, .fr (.ints ff), .fr (.ints gg), .fr (.ints tl), .fr (.lst [.ints (ff ++ tl), .ints (gg ++ t1)]), .un, .un]) rfl ?_
  have it2 : ∀ k : Int, 0 <= k -> k < 2 -> hasIt (.lst [.ints (ff ++ tl), .ints (gg ++ t1)]) k := fun k h0 h2 => ⟨by show -(2 : Int) <= k; omega, by show k < 2; omega⟩
  refine ⟨⟨⟨⟨⟨rfl, tT, it2 0 (by decide) (by decide)⟩, rfl⟩, ⟨⟨rfl, tT, it2 1 (by decide) (by decide)⟩, rfl⟩, tT⟩, ff ++ tl, gg ++ t1, l, H, rfl, lh1, lh2, S, by omega, hfit⟩, fun c ec => ?_⟩
  have ec : c = wcF (ff ++ tl) (gg ++ t1) := ec
  obtain ⟨wc, cl, cb⟩ := S.ok
  have sym := S.sym
  rw [<- ec] at wc cl cb sym
  have cb4 : ∀ n, (c.getD n 0).natAbs <= 2 ^ 4000 := fun n => Nat.le_trans (cb n) hfit
  refine to_lit (Z' := [.fr (.scr ns), .fr (.int way), .ow (.lst [.ints d, .ints u, .ints v]), v3, v4, .fr (.ints ff), .fr (.ints gg), .fr (.ints tl), .fr (.lst [.ints (ff ++ tl), .ints (gg ++ t1)]), .fr (.ints c), .un]) rfl ?_
  have il : ∀ x : List Int, instP K (.ints x) (.ty "list") = true := fun x => instP_of rfl rfl T.i_list_list
  refine ⟨⟨⟨rfl, tT, _, _, _, rfl, rfl, T.i_list_list⟩, fun _ => ⟨⟨rfl, by show c.length <= 1000; omega, fun n _ => ⟨⟨⟨rfl, tT⟩, _, rfl⟩, fun _ => rfl⟩⟩, tT, tT⟩⟩, fun q => ?_, fun _ => ?_⟩
  . have q : ¬ instP K (.ints c) (.ty "list") = true \/ ¬ ((c.filter fun n => decide (¬ true = true)).map fun n => n) = [] := q
    rw [il] at q
    exfalso
    rcases q with q | q
    . exact q rfl
    . exact q (by simp)
  refine ⟨⟨⟨⟨⟨rfl, tT, it2 1 (by decide) (by decide)⟩, rfl⟩, ⟨⟨rfl, tT, it2 0 (by decide) (by decide)⟩, rfl⟩, tT⟩, gg ++ t1, ff ++ tl, l, H, rfl, lh2, lh1, S.swap, by omega, hfit⟩, fun c2 ec2 => ?_⟩
  have ec2 : c2 = c := by
    have ec2 : c2 = wcF (gg ++ t1) (ff ++ tl) := ec2
    rw [ec2, sym]
  subst ec2
  clear sym
  refine to_lit (Z' := [.fr (.scr ns), .fr (.int way), .ow (.lst [.ints d, .ints u, .ints v]), v3, v4, .fr (.ints ff), .fr (.ints gg), .fr (.ints tl), .fr (.lst [.ints (ff ++ tl), .ints (gg ++ t1)]), .fr (.ints c2), .fr (.ints c2)]) rfl ?_
  refine ⟨⟨⟨rfl, ⟨⟨rfl, rfl, s1⟩, ⟨rfl, ⟨rfl, tT, tT⟩, by rw [<- hc1] at s2; exact s2⟩, tT⟩, datOk2 _ _ _ _⟩, fun _ => ⟨⟨rfl, tT, _, _, _, rfl, rfl, T.i_list_list⟩, fun _ => ⟨rfl, rfl⟩⟩⟩, fun q => ?_, fun _ => ?_⟩
  . have q : ¬ eqD (.lst [.ints (ff ++ tl), .ints (gg ++ t1)]) (.lst [.ints (ff ++ tl), .ints (gg ++ cutI tl none (some 1))]) \/ ¬ instP K (.ints c2) (.ty "list") = true \/ ¬ c2 = c2 := q
    rw [il, eqD2, hc1] at q
    rcases q with q | q | q
    . exact absurd ⟨rfl, rfl⟩ q
    . exact absurd rfl q
    . exact absurd rfl q
  refine ⟨⟨⟨rfl, tT, tT⟩, fun _ => ⟨rfl, tT, tT⟩⟩, fun q => ?_, fun q => ?_⟩
  . have q : ff = [] /\ gg = [] := q
    refine ⟨⟨rfl, tT, tT⟩, ?_⟩
    show PV.bl (decide (c2 = [])) = PV.bl true
    rw [decide_eq_true]
    refine WC.uniq wc ⟨⟨fun h => absurd rfl h, fun h => absurd rfl h⟩, fun p _ => ⟨fun _ => ⟨⟨0, ?_⟩, ⟨0, ?_⟩⟩, fun _ => ⟨0, by rw [Zx.zero_mul]; exact mkz rfl⟩⟩⟩
    . rw [mf, Zx.zero_mul]; exact mkz q.1
    . rw [mg', Zx.zero_mul]; exact mkz q.2
  have q : ¬ (ff = [] /\ gg = []) := q
  have cne : c2 ≠ [] := fun z => by
    have := WC.nil wc z
    rw [mf, mg'] at this
    exact q ⟨mk_nil fo this.1, mk_nil go this.2⟩
  have dne : d ≠ [] := fun z => q (zd z)
  have cpos := lP cne
  obtain ⟨cbare, clead⟩ := wc.1.2 cne
  have cself : Zx.Dz (Zx.mk c2) (Zx.mk ff) /\ Zx.Dz (Zx.mk c2) (Zx.mk gg) := by
    have := (wc.2 (Zx.mk c2) cbare).mp ⟨1, by rw [Zx.one_mul]⟩
    rw [mf, mg'] at this
    exact this
  have dc : Zx.Dz (Zx.mk (lbare d)) (Zx.mk c2) := (wc.2 (Zx.mk (lbare d)) (lbare_bare fd0 dne)).mpr (by
    rw [mf, mg']
    exact ⟨df, dg⟩)
  refine ⟨⟨⟨rfl, tT, tT⟩, fun _ => ⟨⟨⟨.inl rfl, tT, by show -(c2.length : Int) <= -1; omega, by show (-1 : Int) < (c2.length : Int); omega⟩, tT⟩, fun _ => ⟨⟨⟨rfl, tT⟩, c2, rfl, by omega, wc.1.1, cne, cb4⟩, rfl⟩⟩⟩, fun q => ?_, fun _ => ?_⟩
  . have q : c2 = [] \/ c2.getD (ixO c2.length (-1)) 0 < 1 \/ ¬ lbare c2 = c2 := q
    rw [last_ix c2 cpos, lbare_same cbare] at q
    rcases q with q | q | q
    . exact absurd q cne
    . omega
    . exact absurd rfl q
  have lbl : (lbare d).length <= 24 := by unfold lbare; rw [List.length_map]; omega
  obtain ⟨lb1, lb2⟩ := lbare_form fd0 dne
  have db : ∀ n, (d.getD n 0).natAbs <= 2 ^ 4000 := fun n => Nat.le_trans (getD_b bd n) hA
  refine ⟨⟨⟨⟨⟨rfl, rfl, tT⟩, ff, c2, rfl, by omega, by omega, wc.1.1, cne, fun n => Nat.le_trans (bf n) up, cb4, cself.1⟩, tT⟩, fun _ => ⟨⟨⟨rfl, rfl, tT⟩, gg, c2, rfl, by omega, by omega, wc.1.1, cne, fun n => Nat.le_trans (bg n) up, cb4, cself.2⟩, tT⟩⟩, fun q => ?_, fun _ => ?_⟩
  . have q : isNonP (.ints (qtL ff c2)) = true \/ isNonP (.ints (qtL gg c2)) = true := q
    rcases q with q | q
    . exact absurd (show false = true from q) (by decide)
    . exact absurd (show false = true from q) (by decide)
  exact ⟨⟨⟨⟨rfl, ⟨⟨⟨⟨rfl, tT, ix 0 (by decide) (by decide)⟩, rfl⟩, tT⟩, d, rfl, by omega, fd0, dne, db⟩, tT⟩, c2, lbare d, rfl, by omega, lbl, lb1, lb2, cb4, fun n => Nat.le_trans (lbare_le fd0 dne n) (db n), dc⟩, tT⟩, rfl⟩
end
theorem all_mk {l : W.OpenLaw} {w : World} {K : W.Frag} {h : Heap} {mg : Str -> Option Value} {fa : Addr} {cK : Addr} {cW : Addr} (X : K.In h) (G : h.Ns mainGlobals mg) (hfa : mg "law" = some (.ref fa))
    {f0 : Addr} {od0 an0 : Option Addr} {sl0 : Array (Option Value)} {oc0 kV0 dc0 pm0 cd0 ct0 : Value}
    {f1 : Addr} {od1 an1 : Option Addr} {sl1 : Array (Option Value)} {oc1 kV1 dc1 pm1 cd1 ct1 : Value}
    {f2 : Addr} {od2 an2 : Option Addr} {sl2 : Array (Option Value)} {oc2 kV2 dc2 pm2 cd2 ct2 : Value}
    {f3 : Addr} {od3 an3 : Option Addr} {sl3 : Array (Option Value)} {oc3 kV3 dc3 pm3 cd3 ct3 : Value}
    {f4 : Addr} {od4 an4 : Option Addr} {sl4 : Array (Option Value)} {oc4 kV4 dc4 pm4 cd4 ct4 : Value}
    {f5 : Addr} {od5 an5 : Option Addr} {sl5 : Array (Option Value)} {oc5 kV5 dc5 pm5 cd5 ct5 : Value}
    {f6 : Addr} {od6 an6 : Option Addr} {sl6 : Array (Option Value)} {oc6 kV6 dc6 pm6 cd6 ct6 : Value}
    {f7 : Addr} {od7 an7 : Option Addr} {sl7 : Array (Option Value)} {oc7 kV7 dc7 pm7 cd7 ct7 : Value}
    {f8 : Addr} {od8 an8 : Option Addr} {sl8 : Array (Option Value)} {oc8 kV8 dc8 pm8 cd8 ct8 : Value}
    {f9 : Addr} {od9 an9 : Option Addr} {sl9 : Array (Option Value)} {oc9 kV9 dc9 pm9 cd9 ct9 : Value}
    {f10 : Addr} {od10 an10 : Option Addr} {sl10 : Array (Option Value)} {oc10 kV10 dc10 pm10 cd10 ct10 : Value}
    {f11 : Addr} {od11 an11 : Option Addr} {sl11 : Array (Option Value)} {oc11 kV11 dc11 pm11 cd11 ct11 : Value}
    {f12 : Addr} {od12 an12 : Option Addr} {sl12 : Array (Option Value)} {oc12 kV12 dc12 pm12 cd12 ct12 : Value}
    {f13 : Addr} {od13 an13 : Option Addr} {sl13 : Array (Option Value)} {oc13 kV13 dc13 pm13 cd13 ct13 : Value}
    {f14 : Addr} {od14 an14 : Option Addr} {sl14 : Array (Option Value)} {oc14 kV14 dc14 pm14 cd14 ct14 : Value}
    {f15 : Addr} {od15 an15 : Option Addr} {sl15 : Array (Option Value)} {oc15 kV15 dc15 pm15 cd15 ct15 : Value}
    {f16 : Addr} {od16 an16 : Option Addr} {sl16 : Array (Option Value)} {oc16 kV16 dc16 pm16 cd16 ct16 : Value}
    {fm0 : Addr} {odm0 anm0 : Option Addr} {slm0 : Array (Option Value)} {ocm0 kVm0 dcm0 pmm0 cdm0 ctm0 : Value}
    {fm1 : Addr} {odm1 anm1 : Option Addr} {slm1 : Array (Option Value)} {ocm1 kVm1 dcm1 pmm1 cdm1 ctm1 : Value}
    {fm2 : Addr} {odm2 anm2 : Option Addr} {slm2 : Array (Option Value)} {ocm2 kVm2 dcm2 pmm2 cdm2 ctm2 : Value}
    (a0 : W.nsIn K mainGlobals "cut_noughts" = some (some (.ref f0)))
    (l0 : K.lookup f0 = some ⟨oc0, od0, .func (W.fnOf "cut_noughts" "cut_noughts" (defArgs s_cut_noughts) (defBody s_cut_noughts) (defScope s_cut_noughts) .none kV0 dc0 pm0 an0 cd0 ct0), sl0⟩)
    (c0 : W.codeIn K cd0 "cut_noughts" = true) (k0 : W.keepIn K (.ref f0) = true)
    (a1 : W.nsIn K mainGlobals "trimmed" = some (some (.ref f1)))
    (l1 : K.lookup f1 = some ⟨oc1, od1, .func (W.fnOf "trimmed" "trimmed" (defArgs s_trimmed) (defBody s_trimmed) (defScope s_trimmed) .none kV1 dc1 pm1 an1 cd1 ct1), sl1⟩)
    (c1 : W.codeIn K cd1 "trimmed" = true) (k1 : W.keepIn K (.ref f1) = true)
    (a2 : W.nsIn K mainGlobals "common_divisor" = some (some (.ref f2)))
    (l2 : K.lookup f2 = some ⟨oc2, od2, .func (W.fnOf "common_divisor" "common_divisor" (defArgs s_common_divisor) (defBody s_common_divisor) (defScope s_common_divisor) .none kV2 dc2 pm2 an2 cd2 ct2), sl2⟩)
    (c2 : W.codeIn K cd2 "common_divisor" = true) (k2 : W.keepIn K (.ref f2) = true)
    (a3 : W.nsIn K mainGlobals "bared" = some (some (.ref f3)))
    (l3 : K.lookup f3 = some ⟨oc3, od3, .func (W.fnOf "bared" "bared" (defArgs s_bared) (defBody s_bared) (defScope s_bared) .none kV3 dc3 pm3 an3 cd3 ct3), sl3⟩)
    (c3 : W.codeIn K cd3 "bared" = true) (k3 : W.keepIn K (.ref f3) = true)
    (a4 : W.nsIn K mainGlobals "steps" = some (some (.ref f4)))
    (l4 : K.lookup f4 = some ⟨oc4, od4, .func (W.fnOf "steps" "steps" (defArgs s_steps) (defBody s_steps) (defScope s_steps) .none kV4 dc4 pm4 an4 cd4 ct4), sl4⟩)
    (c4 : W.codeIn K cd4 "steps" = true) (k4 : W.keepIn K (.ref f4) = true)
    (a5 : W.nsIn K mainGlobals "whole_common" = some (some (.ref f5)))
    (l5 : K.lookup f5 = some ⟨oc5, od5, .func (W.fnOf "whole_common" "whole_common" (defArgs s_whole_common) (defBody s_whole_common) (defScope s_whole_common) .none kV5 dc5 pm5 an5 cd5 ct5), sl5⟩)
    (c5 : W.codeIn K cd5 "whole_common" = true) (k5 : W.keepIn K (.ref f5) = true)
    (a6 : W.nsIn K mainGlobals "_law_cell_at" = some (some (.ref f6)))
    (l6 : K.lookup f6 = some ⟨oc6, od6, .func (W.fnOf "_law_cell_at" "_law_cell_at" (defArgs s_cell_at) (defBody s_cell_at) (defScope s_cell_at) .none kV6 dc6 pm6 an6 cd6 ct6), sl6⟩)
    (c6 : W.codeIn K cd6 "_law_cell_at" = true) (k6 : W.keepIn K (.ref f6) = true)
    (a7 : W.nsIn K mainGlobals "_law_whole" = some (some (.ref f7)))
    (l7 : K.lookup f7 = some ⟨oc7, od7, .func (W.fnOf "_law_whole" "_law_whole" (defArgs s_whole) (defBody s_whole) (defScope s_whole) .none kV7 dc7 pm7 an7 cd7 ct7), sl7⟩)
    (c7 : W.codeIn K cd7 "_law_whole" = true) (k7 : W.keepIn K (.ref f7) = true)
    (a8 : W.nsIn K mainGlobals "_law_divisor" = some (some (.ref f8)))
    (l8 : K.lookup f8 = some ⟨oc8, od8, .func (W.fnOf "_law_divisor" "_law_divisor" (defArgs s_divisor) (defBody s_divisor) (defScope s_divisor) .none kV8 dc8 pm8 an8 cd8 ct8), sl8⟩)
    (c8 : W.codeIn K cd8 "_law_divisor" = true) (k8 : W.keepIn K (.ref f8) = true)
    (a9 : W.nsIn K mainGlobals "_law_form" = some (some (.ref f9)))
    (l9 : K.lookup f9 = some ⟨oc9, od9, .func (W.fnOf "_law_form" "_law_form" (defArgs s_form) (defBody s_form) (defScope s_form) .none kV9 dc9 pm9 an9 cd9 ct9), sl9⟩)
    (c9 : W.codeIn K cd9 "_law_form" = true) (k9 : W.keepIn K (.ref f9) = true)
    (a10 : W.nsIn K mainGlobals "_law_times" = some (some (.ref f10)))
    (l10 : K.lookup f10 = some ⟨oc10, od10, .func (W.fnOf "_law_times" "_law_times" (defArgs s_times) (defBody s_times) (defScope s_times) .none kV10 dc10 pm10 an10 cd10 ct10), sl10⟩)
    (c10 : W.codeIn K cd10 "_law_times" = true) (k10 : W.keepIn K (.ref f10) = true)
    (a11 : W.nsIn K mainGlobals "_law_goes" = some (some (.ref f11)))
    (l11 : K.lookup f11 = some ⟨oc11, od11, .func (W.fnOf "_law_goes" "_law_goes" (defArgs s_goes) (defBody s_goes) (defScope s_goes) .none kV11 dc11 pm11 an11 cd11 ct11), sl11⟩)
    (c11 : W.codeIn K cd11 "_law_goes" = true) (k11 : W.keepIn K (.ref f11) = true)
    (a12 : W.nsIn K mainGlobals "_law_number_by" = some (some (.ref f12)))
    (l12 : K.lookup f12 = some ⟨oc12, od12, .func (W.fnOf "_law_number_by" "_law_number_by" (defArgs s_number_by) (defBody s_number_by) (defScope s_number_by) .none kV12 dc12 pm12 an12 cd12 ct12), sl12⟩)
    (c12 : W.codeIn K cd12 "_law_number_by" = true) (k12 : W.keepIn K (.ref f12) = true)
    (a13 : W.nsIn K mainGlobals "_law_row" = some (some (.ref f13)))
    (l13 : K.lookup f13 = some ⟨oc13, od13, .func (W.fnOf "_law_row" "_law_row" (defArgs s_row) (defBody s_row) (defScope s_row) .none kV13 dc13 pm13 an13 cd13 ct13), sl13⟩)
    (c13 : W.codeIn K cd13 "_law_row" = true) (k13 : W.keepIn K (.ref f13) = true)
    (a14 : W.nsIn K mainGlobals "_law_long" = some (some (.ref f14)))
    (l14 : K.lookup f14 = some ⟨oc14, od14, .func (W.fnOf "_law_long" "_law_long" (defArgs s_long) (defBody s_long) (defScope s_long) .none kV14 dc14 pm14 an14 cd14 ct14), sl14⟩)
    (c14 : W.codeIn K cd14 "_law_long" = true) (k14 : W.keepIn K (.ref f14) = true)
    (a15 : W.nsIn K mainGlobals "_law_bare" = some (some (.ref f15)))
    (l15 : K.lookup f15 = some ⟨oc15, od15, .func (W.fnOf "_law_bare" "_law_bare" (defArgs s_bare) (defBody s_bare) (defScope s_bare) .none kV15 dc15 pm15 an15 cd15 ct15), sl15⟩)
    (c15 : W.codeIn K cd15 "_law_bare" = true) (k15 : W.keepIn K (.ref f15) = true)
    (a16 : W.nsIn K mainGlobals "law" = some (some (.ref f16)))
    (l16 : K.lookup f16 = some ⟨oc16, od16, .func (W.fnOf "law" "law" (defArgs s_law) (defBody s_law) (defScope s_law) .none kV16 dc16 pm16 an16 cd16 ct16), sl16⟩)
    (c16 : W.codeIn K cd16 "law" = true) (k16 : W.keepIn K (.ref f16) = true)
    (z0 : W.nsIn K mainGlobals "len" = some none)
    (z1 : W.nsIn K mainGlobals "range" = some none)
    (z2 : W.nsIn K mainGlobals "isinstance" = some none)
    (z3 : W.nsIn K mainGlobals "bool" = some none)
    (z4 : W.nsIn K mainGlobals "int" = some none)
    (z5 : W.nsIn K mainGlobals "list" = some none)
    (z6 : W.nsIn K mainGlobals "abs" = some none)
    (z7 : W.nsIn K mainGlobals "min" = some none)
    (z8 : W.nsIn K mainGlobals "max" = some none)
    (z9 : W.nsIn K mainGlobals "zip" = some none)
    (q_Kind : W.nsIn K mainGlobals "Kind" = some (some (.ref cK)))
    (q_Wholes : W.nsIn K mainGlobals "Wholes" = some (some (.ref cW)))
    (pg_Wholes : W.plainGet K cW Str.empty = true)
    (hd_Wholes : W.hasDictIn K cW = true)
    (po_Wholes : W.plainOver K cW = true)
    (sa_Wholes : W.findIn K (.ref cW) "__setattr__" = some (some (.builtin "object.__setattr__")))
    (na_Wholes_size : W.findIn K (.ref cW) "size" = some none)
    (fcm0 : W.findCls K (.ref cK) (.type "type") "__init__" = some (.val (.ref fm0)))
    (lm0 : K.lookup fm0 = some ⟨ocm0, odm0, .func (W.fnOf "__init__" "Kind.__init__" (defArgs s_Kind_init) (defBody s_Kind_init) (defScope s_Kind_init) .none kVm0 dcm0 pmm0 anm0 cdm0 ctm0), slm0⟩)
    (cm0 : W.codeIn K cdm0 "Kind.__init__" = true) (km0 : W.keepIn K (.ref fm0) = true)
    (gam0 : W.specialIn K (.ref cK) "__getattribute__" = some (some (.builtin "type.__getattribute__")))
    (rdm0 : W.readsIn K cK (.type "type") = true)
    (fim1 : W.findIn K (.ref cW) "__init__" = some (some (.ref fm1)))
    (lm1 : K.lookup fm1 = some ⟨ocm1, odm1, .func (W.fnOf "__init__" "Wholes.__init__" (defArgs s_Wholes_init) (defBody s_Wholes_init) (defScope s_Wholes_init) .none kVm1 dcm1 pmm1 anm1 cdm1 ctm1), slm1⟩)
    (cm1 : W.codeIn K cdm1 "Wholes.__init__" = true) (km1 : W.keepIn K (.ref fm1) = true)
    (mkm1 : W.makesIn K cW = true)
    (fnm1 : W.isFn K (.ref fm1) = true)
    (kcm1 : W.keepIn K (.ref cW) = true)
    (gm2_Wholes : W.findIn K (.ref cW) "plain" = some (some (.ref fm2)))
    (lm2 : K.lookup fm2 = some ⟨ocm2, odm2, .func (W.fnOf "plain" "Wholes.plain" (defArgs s_Wholes_plain) (defBody s_Wholes_plain) (defScope s_Wholes_plain) .none kVm2 dcm2 pmm2 anm2 cdm2 ctm2), slm2⟩)
    (cm2 : W.codeIn K cdm2 "Wholes.plain" = true) (km2 : W.keepIn K (.ref fm2) = true)
    (fnm2 : W.isFn K (.ref fm2) = true)
    (i0 : W.kitOne K (.type "int") (.type "int") = some true)
    (i1 : W.kitOne K (.type "int") (.type "bool") = some false)
    (i2 : W.kitOne K (.type "list") (.type "list") = some true) :
    ∃ fd : FuncData, (∀ (s : Shared) (v : Value), BindsTo s fd ⟨[v], []⟩ [("_law_script", v)]) /\ ∀ base : Heap, K.In base -> base.Ns mainGlobals mg -> FnOk l.prog w K mg base CX0 8 fa fd ["_law_script"] (spLaw2 K) := by
  have e := hfa.symm.trans (W.mg_of X G a16)
  cases e
  have F0 := fun_mk (st := s_cut_noughts) l0 c0 k0
  have b0 := F0.binds (ps := ["numbers"]) fun _ _ _ _ _ _ us hl => match us, hl with | [_], _ => rfl
  have F1 := fun_mk (st := s_trimmed) l1 c1 k1
  have b1 := F1.binds (ps := ["kind", "f"]) fun _ _ _ _ _ _ us hl => match us, hl with | [_, _], _ => rfl
  have F2 := fun_mk (st := s_common_divisor) l2 c2 k2
  have b2 := F2.binds (ps := ["a", "b"]) fun _ _ _ _ _ _ us hl => match us, hl with | [_, _], _ => rfl
  have F3 := fun_mk (st := s_bared) l3 c3 k3
  have b3 := F3.binds (ps := ["f"]) fun _ _ _ _ _ _ us hl => match us, hl with | [_], _ => rfl
  have F4 := fun_mk (st := s_steps) l4 c4 k4
  have b4 := F4.binds (ps := ["f", "c"]) fun _ _ _ _ _ _ us hl => match us, hl with | [_, _], _ => rfl
  have F5 := fun_mk (st := s_whole_common) l5 c5 k5
  have b5 := F5.binds (ps := ["f", "g"]) fun _ _ _ _ _ _ us hl => match us, hl with | [_, _], _ => rfl
  have F6 := fun_mk (st := s_cell_at) l6 c6 k6
  have b6 := F6.binds (ps := ["_law_script", "_law_k"]) fun _ _ _ _ _ _ us hl => match us, hl with | [_, _], _ => rfl
  have F7 := fun_mk (st := s_whole) l7 c7 k7
  have b7 := F7.binds (ps := ["_law_found"]) fun _ _ _ _ _ _ us hl => match us, hl with | [_], _ => rfl
  have F8 := fun_mk (st := s_divisor) l8 c8 k8
  have b8 := F8.binds (ps := ["_law_one", "_law_other"]) fun _ _ _ _ _ _ us hl => match us, hl with | [_, _], _ => rfl
  have F9 := fun_mk (st := s_form) l9 c9 k9
  have b9 := F9.binds (ps := ["_law_row_here"]) fun _ _ _ _ _ _ us hl => match us, hl with | [_], _ => rfl
  have F10 := fun_mk (st := s_times) l10 c10 k10
  have b10 := F10.binds (ps := ["_law_one", "_law_other"]) fun _ _ _ _ _ _ us hl => match us, hl with | [_, _], _ => rfl
  have F11 := fun_mk (st := s_goes) l11 c11 k11
  have b11 := F11.binds (ps := ["_law_f", "_law_by"]) fun _ _ _ _ _ _ us hl => match us, hl with | [_, _], _ => rfl
  have F12 := fun_mk (st := s_number_by) l12 c12 k12
  have b12 := F12.binds (ps := ["_law_cell", "_law_way"]) fun _ _ _ _ _ _ us hl => match us, hl with | [_, _], _ => rfl
  have F13 := fun_mk (st := s_row) l13 c13 k13
  have b13 := F13.binds (ps := ["_law_script", "_law_at", "_law_many", "_law_way"]) fun _ _ _ _ _ _ us hl => match us, hl with | [_, _, _, _], _ => rfl
  have F14 := fun_mk (st := s_long) l14 c14 k14
  have b14 := F14.binds (ps := ["_law_script", "_law_at", "_law_many"]) fun _ _ _ _ _ _ us hl => match us, hl with | [_, _, _], _ => rfl
  have F15 := fun_mk (st := s_bare) l15 c15 k15
  have b15 := F15.binds (ps := ["_law_row_here"]) fun _ _ _ _ _ _ us hl => match us, hl with | [_], _ => rfl
  have F16 := fun_mk (st := s_law) l16 c16 k16
  have Fm0 := fun_mk (st := s_Kind_init) lm0 cm0 km0
  have bm0 := Fm0.binds (ps := ["self", "size"]) fun _ _ _ _ _ _ us hl => match us, hl with | [_, _], _ => rfl
  have Fm1 := fun_mk (st := s_Wholes_init) lm1 cm1 km1
  have bm1 := Fm1.binds (ps := ["self"]) fun _ _ _ _ _ _ us hl => match us, hl with | [_], _ => rfl
  have Fm2 := fun_mk (st := s_Wholes_plain) lm2 cm2 km2
  have bm2 := Fm2.binds (ps := ["self", "number"]) fun _ _ _ _ _ _ us hl => match us, hl with | [_, _], _ => rfl
  have T : Top K mg cK cW := ⟨Def.mk' F0 b0 (W.mg_of X G a0),
    Def.mk' F1 b1 (W.mg_of X G a1),
    Def.mk' F2 b2 (W.mg_of X G a2),
    Def.mk' F3 b3 (W.mg_of X G a3),
    Def.mk' F4 b4 (W.mg_of X G a4),
    Def.mk' F5 b5 (W.mg_of X G a5),
    Def.mk' F6 b6 (W.mg_of X G a6),
    Def.mk' F7 b7 (W.mg_of X G a7),
    Def.mk' F8 b8 (W.mg_of X G a8),
    Def.mk' F9 b9 (W.mg_of X G a9),
    Def.mk' F10 b10 (W.mg_of X G a10),
    Def.mk' F11 b11 (W.mg_of X G a11),
    Def.mk' F12 b12 (W.mg_of X G a12),
    Def.mk' F13 b13 (W.mg_of X G a13),
    Def.mk' F14 b14 (W.mg_of X G a14),
    Def.mk' F15 b15 (W.mg_of X G a15),
    W.mg_none_of X G z0,
    W.mg_none_of X G z1,
    W.mg_none_of X G z2,
    W.mg_none_of X G z3,
    W.mg_none_of X G z4,
    W.mg_none_of X G z5,
    W.mg_none_of X G z6,
    W.mg_none_of X G z7,
    W.mg_none_of X G z8,
    W.mg_none_of X G z9,
    i0,
    i1,
    i2,
    W.mg_of X G q_Kind,
    W.mg_of X G q_Wholes,
    ⟨pg_Wholes, hd_Wholes, po_Wholes, sa_Wholes⟩,
    na_Wholes_size,
    ⟨_, _, Fm0, bm0, gam0, rdm0, fcm0, km0⟩,
    ⟨_, _, Fm1, bm1, mkm1, fim1, fnm1, kcm1⟩,
    ⟨_, _, Fm2, bm2, ⟨gm2_Wholes, fnm2, km2⟩⟩⟩
  exact ⟨_, fun s v => .of_eq rfl, fun base _ _ => kx_law T F16⟩
theorem walk {l : PySem.W.OpenLaw} {q : Program} {loose : List Str} {XP : (Str -> Option Value) -> Heap -> Prop} {YP : World -> Heap -> Prop} {d : DefRec} {K : Params -> PySem.W.Frag} (hn : l.most = some 63) (hdf : d.params.defaults = [])
    (hY : ∀ (w : World) (h : Heap), YP w h -> (K w.params).In h)
    (F : ∀ (w : World) (mg : Str -> Option Value) (fa : Addr) (h : Heap), (K w.params).In h -> h.Ns mainGlobals mg -> mg d.name = some (.ref fa) ->
      ∃ fd : FuncData, (∀ (s : Shared) (u : Value), BindsTo s fd ⟨[u], []⟩ [("_law_script", u)]) /\ ∀ base : Heap, (K w.params).In base -> base.Ns mainGlobals mg -> FnOk l.prog w (K w.params) mg base CX0 8 fa fd ["_law_script"] (spLaw2 (K w.params))) :
    PySem.W.WalkO q loose XP YP l.row.toRowW d [] (fun f vs => PySem.call f vs) :=
  L2.walk_of2 (n := 63) (k := 8) (x := "_law_script") (CX := fun _ => CX0) (sp := fun w => spLaw2 (K w.params)) hn (by decide) hdf ⟨rfl, by decide, by decide⟩ hY F (fun _ _ a ns hl hb hS => ⟨a, ns, rfl, hS, hl, hb, fun _ => rfl⟩) fun _ _ _ _ _ z => z
end K62
local macro_rules | `(tactic| o_head $H) => `(tactic| (refine PySem.W.holds_open (q := K62.view) (loose := []) (Xt := fun s => PySem.W.xlAt K62.view [] s && PySem.W.recOk (PySem.W.RowW.records PySem.Challenge.rw_factorforge_k62_whole_common.row.toRowW) s) (XP := PySem.W.XL K62.view []) (Yf := PySem.W.Hook.obs $H) (Ya := PySem.W.Hook.val $H) (YP := PySem.W.Hook.says $H) (N := 20000) ?hl (PySem.W.Hook.of $H) (PySem.W.Hook.keeps $H) (fun s e => PySem.W.xl_of s (Bool.and_eq_true_iff.mp e).1) PySem.W.XL.keeps (by rfl) (by rfl) (by rfl) (fun s e => PySem.W.recFacts_of (Bool.and_eq_true_iff.mp e).2) (by rfl) (by first | assumption | decide +kernel) (by decide +kernel) ⟨rfl, rfl, rfl, rfl, rfl, by decide +kernel⟩ ?hw ?hc; (case hl => (intro w; exact K62.fin w (by kernel_rfl)))))
open PySem PySem.W PyProof.Rows
set_option maxRecDepth 100000 in
set_option maxHeartbeats 0 in
theorem PySem.Challenge.cw_factorforge_k62_whole_common_holds : PySem.Challenge.rw_factorforge_k62_whole_common.Holds := by
  w_on; o_law; k_head; (rotate_left; rotate_right); (· w_witness2)
  k_fill
  refine K62.walk (l := PySem.Challenge.rw_factorforge_k62_whole_common) rfl rfl (fun w h Y => PySem.W.kIn_of Y) ?F
  case F =>
    intro w mg fa h KX G hmg
    refine' K62.all_mk KX G hmg ?a0 ?l0 ?c0 ?k0 ?a1 ?l1 ?c1 ?k1 ?a2 ?l2 ?c2 ?k2 ?a3 ?l3 ?c3 ?k3 ?a4 ?l4 ?c4 ?k4 ?a5 ?l5 ?c5 ?k5 ?a6 ?l6 ?c6 ?k6 ?a7 ?l7 ?c7 ?k7 ?a8 ?l8 ?c8 ?k8 ?a9 ?l9 ?c9 ?k9 ?a10 ?l10 ?c10 ?k10 ?a11 ?l11 ?c11 ?k11 ?a12 ?l12 ?c12 ?k12 ?a13 ?l13 ?c13 ?k13 ?a14 ?l14 ?c14 ?k14 ?a15 ?l15 ?c15 ?k15 ?a16 ?l16 ?c16 ?k16 ?z0 ?z1 ?z2 ?z3 ?z4 ?z5 ?z6 ?z7 ?z8 ?z9 ?q_Kind ?q_Wholes ?pg_Wholes ?hd_Wholes ?po_Wholes ?sa_Wholes ?na_Wholes_size ?fcm0 ?lm0 ?cm0 ?km0 ?gam0 ?rdm0 ?fim1 ?lm1 ?cm1 ?km1 ?mkm1 ?fnm1 ?kcm1 ?gm2_Wholes ?lm2 ?cm2 ?km2 ?fnm2 ?i0 ?i1 ?i2
    (case a0 => k_is)
    (case l0 => k_is)
    (case c0 => k_is)
    (case k0 => k_is)
    (case a1 => k_is)
    (case l1 => k_is)
    (case c1 => k_is)
    (case k1 => k_is)
    (case a2 => k_is)
    (case l2 => k_is)
    (case c2 => k_is)
    (case k2 => k_is)
    (case a3 => k_is)
    (case l3 => k_is)
    (case c3 => k_is)
    (case k3 => k_is)
    (case a4 => k_is)
    (case l4 => k_is)
    (case c4 => k_is)
    (case k4 => k_is)
    (case a5 => k_is)
    (case l5 => k_is)
    (case c5 => k_is)
    (case k5 => k_is)
    (case a6 => k_is)
    (case l6 => k_is)
    (case c6 => k_is)
    (case k6 => k_is)
    (case a7 => k_is)
    (case l7 => k_is)
    (case c7 => k_is)
    (case k7 => k_is)
    (case a8 => k_is)
    (case l8 => k_is)
    (case c8 => k_is)
    (case k8 => k_is)
    (case a9 => k_is)
    (case l9 => k_is)
    (case c9 => k_is)
    (case k9 => k_is)
    (case a10 => k_is)
    (case l10 => k_is)
    (case c10 => k_is)
    (case k10 => k_is)
    (case a11 => k_is)
    (case l11 => k_is)
    (case c11 => k_is)
    (case k11 => k_is)
    (case a12 => k_is)
    (case l12 => k_is)
    (case c12 => k_is)
    (case k12 => k_is)
    (case a13 => k_is)
    (case l13 => k_is)
    (case c13 => k_is)
    (case k13 => k_is)
    (case a14 => k_is)
    (case l14 => k_is)
    (case c14 => k_is)
    (case k14 => k_is)
    (case a15 => k_is)
    (case l15 => k_is)
    (case c15 => k_is)
    (case k15 => k_is)
    (case a16 => k_is)
    (case l16 => k_is)
    (case c16 => k_is)
    (case k16 => k_is)
    (case z0 => k_is)
    (case z1 => k_is)
    (case z2 => k_is)
    (case z3 => k_is)
    (case z4 => k_is)
    (case z5 => k_is)
    (case z6 => k_is)
    (case z7 => k_is)
    (case z8 => k_is)
    (case z9 => k_is)
    (case q_Kind => k_is)
    (case q_Wholes => k_is)
    (case pg_Wholes => k_is)
    (case hd_Wholes => k_is)
    (case po_Wholes => k_is)
    (case sa_Wholes => k_is)
    (case na_Wholes_size => k_is)
    (case fcm0 => k_is)
    (case lm0 => k_is)
    (case cm0 => k_is)
    (case km0 => k_is)
    (case gam0 => k_is)
    (case rdm0 => k_is)
    (case fim1 => k_is)
    (case lm1 => k_is)
    (case cm1 => k_is)
    (case km1 => k_is)
    (case mkm1 => k_is)
    (case fnm1 => k_is)
    (case kcm1 => k_is)
    (case gm2_Wholes => k_is)
    (case lm2 => k_is)
    (case cm2 => k_is)
    (case km2 => k_is)
    (case fnm2 => k_is)
    (case i0 => kit_is)
    (case i1 => kit_is)
    (case i2 => kit_is)
