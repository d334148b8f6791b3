import PyProof.Rows.All
import Wide.All
import KE.KNestM
import KE.KUnpack
import KE.KEqDeep
import KE.KPassesOwn
import KE.RegKIsAll
import KE.RegKTryMore
import OpenK.KOwn
import KE.KItem
import KE.KRevIter
import Wide.FinOn
import Lean
import PyProof.EqAt
import PyProof.EqKinds
import PyProof.TupleCall
import PySem.Challenge.RW_factorforge_k45_whole_no_paper_for_a_pro
set_option Elab.async false
set_option linter.all false
set_option maxRecDepth 100000
set_option maxHeartbeats 4000000
local macro_rules | `(tactic| omega) => `(tactic| lia)
noncomputable section
theorem tJ:True:=True.intro
theorem gQ {A:Type} {l:List A} {i:Nat} {a:A}:l.getD i a=l[i]?.getD a:=List.getD_eq_getElem?_getD ..
theorem lP {A:Type} {l:List A} (h:l ≠ []):0 < l.length:=List.length_pos_iff.mpr h
section
open PySem PySem.W PyProof.Rows
namespace K45
def top (i:Nat):Stmt:=PySem.Challenge.pw_factorforge_k45_whole_no_paper_for_a_pro.main.body.getD i (.Pass ⟨0,0,0,0⟩)
end K45
def K45.view:PySem.Program:={ PySem.Challenge.rw_factorforge_k45_whole_no_paper_for_a_pro.row.toRowW.prog with main:={ PySem.Challenge.rw_factorforge_k45_whole_no_paper_for_a_pro.row.toRowW.prog.main with body:=[K45.top 0,K45.top 2,K45.top 3,K45.top 4,K45.top 5,K45.top 6,K45.top 7,K45.top 8,K45.top 9,K45.top 10,K45.top 11,K45.top 13,K45.top 14,K45.top 15,K45.top 16,K45.top 17,K45.top 18,K45.top 19,K45.top 20,K45.top 22,K45.top 23,K45.top 24,K45.top 26,K45.top 27,K45.top 28,K45.top 29,K45.top 31,K45.top 32,K45.top 33,K45.top 34,K45.top 35,K45.top 36,K45.top 37,K45.top 38,K45.top 39,K45.top 40,K45.top 41,K45.top 42,K45.top 43,K45.top 45,K45.top 46,K45.top 48,K45.top 49,K45.top 50,K45.top 51,K45.top 52,K45.top 54,K45.top 55,K45.top 56,K45.top 57,K45.top 58,K45.top 59,K45.top 61,K45.top 62,K45.top 63,K45.top 64,K45.top 65,K45.top 66,K45.top 67,K45.top 68,K45.top 69,K45.top 70,K45.top 71,K45.top 72] } }
def X.trT (tb:String -> Option Builtin) (p:Program) (w:World) (n₀:Nat) (ann:Option Value):Nat -> SharedT -> Thread -> Option SharedT
  | 0,_,_=>none
  | n + 1,s,t=>match through t with
    | true=>some s
    | false=>match stepOk n₀ ann t with
      | false=>none
      | true=>match stepT (denote tb) p w s t with
        | some (s',t')=>X.trT tb p w n₀ ann n s' t'
        | none=>none
theorem X.trT_of {tb:String -> Option Builtin} {p:Program} {w:World} {n₀:Nat} {ann:Option Value}:∀ {n:Nat} {s s':SharedT} {t:Thread},X.trT tb p w n₀ ann n s t=some s' -> topRun tb p w n₀ ann n s.abs t=some s'.abs
  | 0,_,_,_,h=>by cases h
  | n + 1,s,s',t,h=>by
    unfold X.trT at h
    unfold topRun
    cases ht:through t with
    | true=>rw [ht] at h; cases h; rfl
    | false =>
      rw [ht] at h
      cases hk:stepOk n₀ ann t with
      | false=>rw [hk] at h; cases h
      | true =>
        rw [hk] at h
        cases hs:stepT (denote tb) p w s t with
        | none=>rw [hs] at h; cases h
        | some r=>obtain ⟨s₂,t₂⟩:=r; rw [hs] at h; rw [stepT_spec hs]; exact X.trT_of h
def X.toT (s:Shared):SharedT:=⟨(s.heap.objs.toList.foldl (fun (x:BT × Nat) o=>(x.1.ins x.2 o,x.2 + 1)) (BT.nil,0)).1,s.heap.objs.size,s.heap.life,s.gens,s.drawn,s.toks,s.os⟩
def X.RT (tb:String -> Option Builtin) (p:Program) (w:World) (N:Nat):Option (Shared × SharedT):=(fencedOpening tb p w N).bind fun s0=>(X.trT tb p w s0.heap.objs.size (s0.heap.nsMap mainGlobals "__annotations__") N (X.toT s0) (topStub p)).map fun s1=>(s0,s1)
def X.chk (p:Program) (s0 s1:Shared):Bool:=(s0.heap.isNs mainGlobals && s0.gens.size == 0) && (staticsOk (importedModules p.main.body) s0.heap s1.heap && namesBound p s1.heap && gensDone s1 && laidKept s0.heap s1.heap)
theorem X.ends_of_tree {p:Program} {w:World} {N:Nat} {A:Type} {f:Shared -> A} {a:A} (h0:(fencedOpening treeTable p w N).map (fun s=>(X.toT s).tree.list s.heap.objs.size)=(fencedOpening treeTable p w N).map (fun s=>s.heap.objs.toList))
    (h1:(X.RT treeTable p w N).map (fun x=>(X.chk p x.1 x.2.abs,f x.2.abs))=some (true,a)):(openEnds treeTable p w N).map f=some a:=by
  unfold X.RT at h1
  unfold openEnds
  cases e:fencedOpening treeTable p w N with
  | none=>rw [e] at h1; cases h1
  | some s0 =>
    rw [e] at h0 h1
    have hl:(X.toT s0).tree.list s0.heap.objs.size=s0.heap.objs.toList:=Option.some.inj h0
    have ha:(X.toT s0).abs=s0:=by
      obtain ⟨⟨objs,life⟩,gens,drawn,toks,os⟩:=s0
      show (⟨⟨((X.toT ⟨⟨objs,life⟩,gens,drawn,toks,os⟩).tree.list objs.size).toArray,life⟩,gens,drawn,toks,os⟩:Shared)=_
      rw [hl]
    have h1:((X.trT treeTable p w s0.heap.objs.size (s0.heap.nsMap mainGlobals "__annotations__") N (X.toT s0) (topStub p)).map fun s1=>(s0,s1)).map (fun x=>(X.chk p x.1 x.2.abs,f x.2.abs))=some (true,a):=h1
    cases e1:X.trT treeTable p w s0.heap.objs.size (s0.heap.nsMap mainGlobals "__annotations__") N (X.toT s0) (topStub p) with
    | none=>rw [e1] at h1; cases h1
    | some s1 =>
      rw [e1] at h1
      have h1:=Option.some.inj h1
      have c:=congrArg Prod.fst h1
      have d:=congrArg Prod.snd h1
      have c:X.chk p s0 s1.abs=true:=c
      have d:f s1.abs=a:=d
      have r:=X.trT_of e1
      rw [ha] at r
      obtain ⟨c1,c2⟩:=Bool.and_eq_true_iff.mp c
      show (topFrom treeTable p w N s0).map f=some a
      unfold topFrom
      rw [c1,r]
      show (match staticsOk (importedModules p.main.body) s0.heap s1.abs.heap && namesBound p s1.abs.heap && gensDone s1.abs && laidKept s0.heap s1.abs.heap with | true=>some s1.abs | false=>none).map f=some a
      rw [c2]
      exact congrArg some d
theorem X.both {S A B:Type} {o:Option S} {c:S -> Bool} {f:S -> A} {y:S -> B} {g:A} {a:B} (h1:o.map (fun x=>(c x,f x))=some (true,g)) (h2:o.map y=some a):o.map (fun x=>(c x,(f x,y x)))=some (true,(g,a)):=by
  cases o with
  | none=>cases h2
  | some s =>
    have e1:=Option.some.inj h1
    have e2:=Option.some.inj h2
    have e3:c s=true:=congrArg Prod.fst e1
    have e4:f s=g:=congrArg Prod.snd e1
    show some (c s,(f s,y s))=_
    rw [e3,e4,e2]
abbrev K45.seenT (s:Shared):=openSeen K45.view [] (importedModules PySem.Challenge.rw_factorforge_k45_whole_no_paper_for_a_pro.row.toRowW.prog.main.body) (fun s=>xlAt K45.view [] s && recOk (RowW.records PySem.Challenge.rw_factorforge_k45_whole_no_paper_for_a_pro.row.toRowW) s) true s
theorem K45.h0:∀ w,(fencedOpening treeTable PySem.Challenge.rw_factorforge_k45_whole_no_paper_for_a_pro.row.toRowW.prog w 20000).map (fun s=>(X.toT s).tree.list s.heap.objs.size)=(fencedOpening treeTable PySem.Challenge.rw_factorforge_k45_whole_no_paper_for_a_pro.row.toRowW.prog w 20000).map (fun s=>s.heap.objs.toList):=by intro w; kernel_rfl
theorem K45.h1:∀ w,(X.RT treeTable PySem.Challenge.rw_factorforge_k45_whole_no_paper_for_a_pro.row.toRowW.prog w 20000).map (fun x=>(X.chk PySem.Challenge.rw_factorforge_k45_whole_no_paper_for_a_pro.row.toRowW.prog x.1 x.2.abs,K45.seenT x.2.abs))=some (true,openGood K45.view []):=by intro w; kernel_rfl
theorem K45.fin {A:Type} {y:Shared -> A} {a:A} (w:World) (h:(X.RT treeTable PySem.Challenge.rw_factorforge_k45_whole_no_paper_for_a_pro.row.toRowW.prog w 20000).map (fun x=>y x.2.abs)=some a):(openEnds treeTable PySem.Challenge.rw_factorforge_k45_whole_no_paper_for_a_pro.row.toRowW.prog w 20000).map (fun s=>(K45.seenT s,y s))=some (openGood K45.view [],a) :=
  X.ends_of_tree (f:=fun s=>(K45.seenT s,y s)) (K45.h0 w) (X.both (K45.h1 w) h)
end
namespace L2
open PySem PySem.Spec PyProof.Rows
abbrev Key:=Sum Int Str
def keyIs:Key -> Value -> Bool
  | .inl k,v=>Value.isInt k v
  | .inr x,v=>Value.isStrOf x v
def keyH (w:World):Key -> Int
  | .inl k=>hashInt k
  | .inr x=>hashStr w x
theorem keyIs_shape:∀ {k:Key} {v:Value},keyIs k v=true -> (∃ i t,k=Sum.inl i /\ v=Value.int i t) \/ (∃ x t,k=Sum.inr x /\ v=Value.str x t)
  | .inl i,v,h=>by
    obtain ⟨t,e⟩:=Value.isInt_shape (k:=i) (v:=v) h
    exact .inl ⟨i,t,rfl,e⟩
  | .inr x,v,h=>by
    obtain ⟨t,e⟩:=Value.isStrOf_shape (x:=x) (v:=v) h
    exact .inr ⟨x,t,rfl,e⟩
theorem key_ll (a b:Int):decide ((Sum.inl a:Key)=Sum.inl b)=(a == b):=by
  by_cases e:a=b
  . subst e; simp
  . have h:¬ (Sum.inl a:Key)=Sum.inl b:=fun q=>e (Sum.inl.inj q)
    rw [decide_eq_false h]
    exact (beq_eq_false_iff_ne.mpr e).symm
theorem key_rr (a b:Str):decide ((Sum.inr a:Key)=Sum.inr b)=decide (a=b):=by
  by_cases e:a=b
  . subst e; simp
  . have h:¬ (Sum.inr a:Key)=Sum.inr b:=fun q=>e (Sum.inr.inj q)
    rw [decide_eq_false h,decide_eq_false e]
theorem key_lr (a:Int) (b:Str):decide ((Sum.inl a:Key)=Sum.inr b)=false:=decide_eq_false (fun q=>nomatch q)
theorem key_rl (a:Str) (b:Int):decide ((Sum.inr a:Key)=Sum.inl b)=false:=decide_eq_false (fun q=>nomatch q)
def mixKind (prog:Program) (w:World):PySem.KeyKind prog w Key where
  is:=keyIs
  hash:=keyH w
  inj:=fun v a b ha hb=>by
    rcases keyIs_shape ha with ⟨i,t,rfl,rfl⟩ | ⟨x,t,rfl,rfl⟩
    . rcases keyIs_shape hb with ⟨j,u,rfl,e⟩ | ⟨y,u,rfl,e⟩
      . injection e with e1 _; rw [e1]
      . exact nomatch e
    . rcases keyIs_shape hb with ⟨j,u,rfl,e⟩ | ⟨y,u,rfl,e⟩
      . exact nomatch e
      . injection e with e1 _; rw [e1]
  byValue:=fun k v h=>by
    rcases keyIs_shape h with ⟨i,t,rfl,rfl⟩ | ⟨x,t,rfl,rfl⟩ <;> rfl
  pyHash:=fun hv h=>by
    rcases keyIs_shape hv with ⟨i,t,rfl,rfl⟩ | ⟨x,t,rfl,rfl⟩
    . exact wpAny_pyHash_int h
    . exact wpAny_pyHash_str h
  eqBool:=fun hu hv h=>by
    rcases keyIs_shape hu with ⟨i,t,rfl,rfl⟩ | ⟨x,t,rfl,rfl⟩
    . rcases keyIs_shape hv with ⟨j,u,rfl,rfl⟩ | ⟨y,u,rfl,rfl⟩
      . rw [key_ll] at h; exact wpAny_eqBool_int h
      . rw [key_lr] at h; exact SeqAt.EqAt.int_str i t y u _ _ _ _ h
    . rcases keyIs_shape hv with ⟨j,u,rfl,rfl⟩ | ⟨y,u,rfl,rfl⟩
      . rw [key_rl] at h; exact SeqAt.EqAt.str_int x t j u _ _ _ _ h
      . rw [key_rr] at h; exact wpAny_eqBool_str h
  «strs»:=fun k x t v h=>by
    rcases keyIs_shape h with ⟨i,u,rfl,e⟩ | ⟨y,u,rfl,e⟩
    . exact nomatch e
    . injection e with e1 _
      subst e1
      cases v <;> rfl
inductive V where
  | non | bl (b:Bool) | int (i:Int) | str (x:Str) | byt (b:Array UInt8) | flt (b:UInt64) | ref (a:Addr) | ty (n:String)
  deriving DecidableEq
def RelV:V -> Value -> Prop
  | .non,u=>u=Value.none
  | .bl b,u=>u=Value.bool b
  | .int i,u=>∃ t,u=Value.int i t
  | .str x,u=>∃ t,u=Value.str x t
  | .byt b,u=>∃ t,u=Value.bytes b t
  | .flt b,u=>∃ t,u=Value.float b t
  | .ref a,u=>u=Value.ref a
  | .ty n,u=>u=Value.type n
abbrev Vals:List V -> List Value -> Prop:=Paired RelV
theorem Vals.length {xs:List V} {us:List Value} (r:Vals xs us):xs.length=us.length:=Paired.length r
theorem Vals.get:∀ {xs:List V} {us:List Value} {i:Nat} {x:V},Vals xs us -> xs[i]?=some x -> ∃ u,us[i]?=some u /\ RelV x u
  | _,_,_,_,.nil,e=>by simp at e
  | _,_,0,_,.cons r _,e=>by simp at e; subst e; exact ⟨_,rfl,r⟩
  | _,_,i + 1,x,.cons _ t,e=>by
    obtain ⟨u,h1,h2⟩:=Vals.get (i:=i) (x:=x) t (by simpa using e)
    exact ⟨u,by simpa using h1,h2⟩
theorem Vals.set {x:V} {u:Value} (r:RelV x u):∀ {xs:List V} {us:List Value} (i:Nat),Vals xs us -> Vals (xs.set i x) (us.set i u)
  | _,_,_,.nil=>.nil
  | _,_,0,.cons _ t=>.cons r t
  | _,_,i + 1,.cons q t=>.cons q (Vals.set r i t)
theorem Vals.append:∀ {xs ys:List V} {us ws:List Value},Vals xs us -> Vals ys ws -> Vals (xs ++ ys) (us ++ ws)
  | _,_,_,_,.nil,s=>s
  | _,_,_,_,.cons r t,s=>.cons r (Vals.append t s)
theorem Vals.take:∀ {xs:List V} {us:List Value} (n:Nat),Vals xs us -> Vals (xs.take n) (us.take n)
  | _,_,0,_=>.nil
  | _,_,_ + 1,.nil=>.nil
  | _,_,n + 1,.cons r t=>.cons r (Vals.take n t)
theorem Vals.drop:∀ {xs:List V} {us:List Value} (n:Nat),Vals xs us -> Vals (xs.drop n) (us.drop n)
  | _,_,0,r=>r
  | _,_,_ + 1,.nil=>.nil
  | _,_,n + 1,.cons _ t=>Vals.drop n t
def RelO:Option V -> Option Value -> Prop
  | some v,some u=>RelV v u
  | none,none=>True
  | _,_=>False
def KV {κ:Type}:List (κ × V) -> List (κ × Value) -> Prop:=Paired fun (p:κ × V) (q:κ × Value)=>p.1=q.1 /\ RelV p.2 q.2
def kV:Key -> V
  | .inl i=>.int i
  | .inr x=>.str x
inductive HO where
  | lst (xs:List V)
  | tup (xs:List V)
  | dK (kvs:List (Key × V)) | dT (kvs:List (List Key × V))
  | set (S:Int -> Bool) (n:Nat)
  | ins (C dx:Addr) (fs:List (Str × V))
  | own (x:Addr)
  | xd (fs:List (Str × V))
  | met (f x:Addr)
  | rng (lo hi:Int)
  | frz (o:Obj) (u:HO)
  | tbl (ps:Array Value)
  | ext (φ:Heap -> Prop)
abbrev Hp:=Addr -> Option HO
def upd (H:Hp) (a:Addr) (o:HO):Hp:=fun b=>if b=a then some o else H b
theorem upd_same {H:Hp} {a:Addr} {o:HO}:upd H a o a=some o:=by unfold upd; rw [if_pos rfl]
theorem upd_ne {H:Hp} {a b:Addr} {o:HO} (h:b ≠ a):upd H a o b=H b:=by unfold upd; rw [if_neg h]
theorem upd_upd {H:Hp} {a:Addr} {o u:HO}:upd (upd H a o) a u=upd H a u:=by
  funext b; unfold upd; split <;> rfl
theorem ne_of_none {H:Hp} {a b:Addr} {o:HO} (h:H a=some o) (h':H b=none):a ≠ b:=by
  intro e; subst e; rw [h] at h'; cases h'
section
variable (P:Program) (w:World)
def ObjOk (H:Hp) (h:Heap) (a:Addr):HO -> Prop
  | .lst xs=>xs.length <= sizeLine /\ ∃ (its:List Value) (n:Nat),Vals xs its /\ h.get? a=some { cls:=.type "list",data:=.seq its.toArray n }
  | .tup xs=>xs.length <= sizeLine /\ ∃ its:List Value,Vals xs its /\ IsTup h a its.toArray
  | .dK kvs=>kvs.length <= sizeLine /\ (a == sysModules)=false /\ ∃ vs,KV kvs vs /\ h.DictOf (mixKind P w) a vs
  | .dT kvs=>kvs.length <= sizeLine /\ (a == sysModules)=false /\ ∃ xs:List (List Key × Addr × Value),
      Paired (fun (p:List Key × V) (q:List Key × Addr × Value)=>p.1=q.1 /\ H q.2.1=some (.tup (p.1.map kV)) /\ RelV p.2 q.2.2) kvs xs /\
      ∃ o es ep,h.get? a=some o /\ o.ExactDict /\ o.data=.dict es ep /\ es.toList=xs.map (entryOfKey (tupleKind (mixKind P w))) /\ (xs.map (·.1)).Nodup
  | .set S n=>h.SetOf (intKind P w) a S n
  | .ins C dx fs=>H dx=some (.own a) /\ fs.length <= 1000 /\ dx ≠ a /\ h.get? a=some (PySem.W.instObj C dx) /\
      ∃ mA,h.Ns1 dx mA /\ (∀ f,RelO (fs.lookup f) (mA f)) /\ PySem.Within mA (fs.map (·.1))
  | .own _=>∃ o,h.get? a=some o
  | .xd fs=>∃ mA,h.Ns1 a mA /\ ∀ f,RelO (fs.lookup f) (mA f)
  | .rng lo hi=>∃ t u v,h.get? a=some { cls:=.type "range",data:=.fields #[.int lo t,.int hi u,.int 1 v] }
  | .frz o u=>h.get? a=some o /\ ObjOk H h a u
  | .tbl ps=>h.get? a=some { cls:=.none,data:=.fields ps }
  | .met f x=>h.get? a=some (PySem.W.methodObj (.ref f) (.ref x))
  | .ext φ=>φ h /\ (∃ o,h.get? a=some o) /\ ∀ h1 h2:Heap,φ h1 -> (∀ o,h1.get? a=some o -> h2.get? a=some o) -> φ h2
def HOk (H:Hp) (h:Heap):Prop:=∀ a o,H a=some o -> ObjOk P w H h a o
end
section
variable {P:Program} {w:World} {H H':Hp} {h h':Heap} {a:Addr} {o:HO}
theorem ObjOk.lt (x:ObjOk P w H h a o):a < h.objs.size:=by
  cases o with
  | lst xs=>obtain ⟨_,_,_,_,e⟩:=x; exact Heap.lt_size e
  | tup xs=>obtain ⟨_,_,_,p⟩:=x; exact p.lt
  | dK kvs=>obtain ⟨_,_,_,_,o,_,_,e,_⟩:=x; exact Heap.lt_size e
  | dT kvs=>obtain ⟨_,_,_,_,o,_,_,e,_⟩:=x; exact Heap.lt_size e
  | set S n=>obtain ⟨o,_,_,_,e,_⟩:=x; exact Heap.lt_size e
  | ins C dx fs=>obtain ⟨_,_,_,e,_⟩:=x; exact Heap.lt_size e
  | own y=>obtain ⟨_,e⟩:=x; exact Heap.lt_size e
  | xd fs=>obtain ⟨_,⟨_,_,_,e,_⟩,_⟩:=x; exact Heap.lt_size e
  | rng lo hi=>obtain ⟨_,_,_,e⟩:=x; exact Heap.lt_size e
  | frz ob u=>obtain ⟨e,_⟩:=x; exact Heap.lt_size e
  | tbl ps=>exact Heap.lt_size (show h.get? a=some _ from x)
  | met f y=>exact Heap.lt_size (show h.get? a=some _ from x)
  | ext φ=>obtain ⟨_,⟨_,e⟩,_⟩:=x; exact Heap.lt_size e
theorem Paired.mapP {α β:Type} {F G:α -> β -> Prop}:∀ {l₁:List α} {l₂:List β},Paired F l₁ l₂ -> (∀ a b,F a b -> G a b) -> Paired G l₁ l₂
  | _,_,.nil,_=>.nil
  | _,_,.cons r t,f=>.cons (f _ _ r) (Paired.mapP t f)
theorem ObjOk.stay (x:ObjOk P w H h a o) (k:∀ b u,(b=a \/ H b=some (.own a)) -> h.get? b=some u -> h'.get? b=some u)
    (ho:∀ b,H b=some (.own a) -> H' b=some (.own a)) (ht:∀ b xs,H b=some (.tup xs) -> H' b=some (.tup xs)):ObjOk P w H' h' a o:=by
  induction o with
  | lst xs=>obtain ⟨z,its,n,r,e⟩:=x; exact ⟨z,its,n,r,k _ _ (.inl rfl) e⟩
  | tup xs=>obtain ⟨z,its,r,ob,e,c⟩:=x; exact ⟨z,its,r,ob,k _ _ (.inl rfl) e,c⟩
  | dK kvs=>obtain ⟨z,y,vs,r,ob,es,ep,e,c⟩:=x; exact ⟨z,y,vs,r,ob,es,ep,k _ _ (.inl rfl) e,c⟩
  | dT kvs =>
    obtain ⟨z,y,xs,r,ob,es,ep,e,c⟩:=x
    exact ⟨z,y,xs,Paired.mapP r fun p q z=>⟨z.1,ht _ _ z.2.1,z.2.2⟩,ob,es,ep,k _ _ (.inl rfl) e,c⟩
  | set S n=>obtain ⟨ob,es,ep,t,e,c⟩:=x; exact ⟨ob,es,ep,t,k _ _ (.inl rfl) e,c⟩
  | ins C dx fs =>
    obtain ⟨d,z,ne,e,mA,⟨od,es,ep,e2,c⟩,r⟩:=x
    exact ⟨ho _ d,z,ne,k _ _ (.inl rfl) e,mA,⟨od,es,ep,k _ _ (.inr d) e2,c⟩,r⟩
  | own y=>obtain ⟨ob,e⟩:=x; exact ⟨ob,k _ _ (.inl rfl) e⟩
  | xd fs=>obtain ⟨mA,⟨od,es,ep,e,c⟩,r⟩:=x; exact ⟨mA,⟨od,es,ep,k _ _ (.inl rfl) e,c⟩,r⟩
  | rng lo hi=>obtain ⟨t,u,v,e⟩:=x; exact ⟨t,u,v,k _ _ (.inl rfl) e⟩
  | frz ob u ih=>obtain ⟨e,q⟩:=x; exact ⟨k _ _ (.inl rfl) e,ih q⟩
  | tbl ps =>
    have e:h.get? a=some { cls:=.none,data:=.fields ps }:=x
    show h'.get? a=some { cls:=.none,data:=.fields ps }
    exact k a _ (.inl rfl) e
  | met f y =>
    have e:h.get? a=some (PySem.W.methodObj (.ref f) (.ref y)):=x
    show h'.get? a=some (PySem.W.methodObj (.ref f) (.ref y))
    exact k a _ (.inl rfl) e
  | ext φ=>obtain ⟨p,⟨o,e⟩,st⟩:=x; exact ⟨st _ _ p fun o q=>k _ _ (.inl rfl) q,⟨o,k _ _ (.inl rfl) e⟩,st⟩
theorem HOk.lt (x:HOk P w H h) (e:H a=some o):a < h.objs.size:=(x a o e).lt
theorem HOk.fresh (x:HOk P w H h) (e:h.objs.size <= a):H a=none:=by
  cases q:H a with
  | none=>rfl
  | some u=>exact absurd (Nat.lt_of_lt_of_le (x.lt q) e) (Nat.lt_irrefl _)
theorem HOk.kept (x:HOk P w H h) (k:∀ b u,h.get? b=some u -> h'.get? b=some u):HOk P w H h':=fun a o e =>
  (x a o e).stay (fun b u _ q=>k b u q) (fun _ q=>q) fun _ _ q=>q
theorem HOk.laid (x:HOk P w H h) (k:∀ b u,h.get? b=some u -> h'.get? b=some u) (hp:h.objs.size <= a) (new:ObjOk P w (upd H a o) h' a o):HOk P w (upd H a o) h':=fun b u e=>by
  have hn:=x.fresh hp
  by_cases hb:b=a
  . subst hb; rw [upd_same] at e; cases e; exact new
  . rw [upd_ne hb] at e
    exact (x b u e).stay (fun c v _ q=>k c v q) (fun c q=>by rw [upd_ne (ne_of_none q hn)]; exact q) fun c xs q=>by rw [upd_ne (ne_of_none q hn)]; exact q
end
def Rd (H:Hp) (a:Addr) (u:HO):Prop:=H a=some u \/ ∃ o,H a=some (.frz o u)
theorem Rd.ok {P:Program} {w:World} {H:Hp} {h:Heap} {a:Addr} {u:HO} (r:Rd H a u) (x:HOk P w H h):ObjOk P w H h a u:=by
  rcases r with r | ⟨o,r⟩
  . exact x a u r
  . obtain ⟨_,q⟩:=x a _ r
    exact q
def Mut:Option HO -> Prop
  | some (.lst _)=>True
  | some (.dK _)=>True
  | some (.dT _)=>True
  | some (.set _ _)=>True
  | some (.ins _ _ _)=>True
  | some (.ext _)=>True
  | _=>False
section
variable {P:Program} {w:World} {H:Hp} {h h':Heap} {x e:Addr} {o':HO}
theorem HOk.write (ok:HOk P w H h) (mu:Mut (H x)) (he:e=x \/ H e=some (.own x)) (k:∀ b u,b ≠ e -> h.get? b=some u -> h'.get? b=some u) (heo:∃ u,h'.get? e=some u)
    (new:ObjOk P w (upd H x o') h' x o'):HOk P w (upd H x o') h':=fun b u q=>by
  have nown:∀ c y,H c=some (.own y) -> c ≠ x:=fun c y r z=>by subst z; rw [r] at mu; exact mu
  have ntup:∀ c xs,H c=some (.tup xs) -> c ≠ x:=fun c xs r z=>by subst z; rw [r] at mu; exact mu
  by_cases hb:b=x
  . subst hb; rw [upd_same] at q; cases q; exact new
  . rw [upd_ne hb] at q
    by_cases hbe:b=e
    . have q':H b=some (.own x):=by
        rcases he with z | z
        . exact absurd (hbe.trans z) hb
        . rw [hbe]; exact z
      rw [q] at q'; cases q'
      obtain ⟨v,hv⟩:=heo
      exact ⟨v,by rw [hbe]; exact hv⟩
    . refine (ok b u q).stay (fun c v hc r=>k c v ?_ r) (fun c r=>by rw [upd_ne (nown c b r)]; exact r) fun c xs r=>by rw [upd_ne (ntup c xs r)]; exact r
      rcases hc with rfl | hc
      . exact hbe
      . rintro rfl
        rcases he with z | z
        . exact nown c b hc z
        . rw [hc] at z; cases z; exact hb rfl
end
structure Un (fs ex:List Addr) (H H':Hp) (h h':Heap):Prop where
  keep:∀ b o,h.get? b=some o -> H b=none -> b ∉ fs -> b ∉ ex -> h'.get? b=some o
  slot:∀ b o,h.get? b=some o -> H b=none -> b ∈ fs -> b ∉ ex -> ∃ sl,h'.get? b=some { o with slots:=sl }
  free:∀ b o,h.get? b=some o -> H b=none -> b ∉ ex -> H' b=none
  there:∀ b o,h.get? b=some o -> b ∉ ex -> ∃ o',h'.get? b=some o'
  tups:∀ b xs,H b=some (.tup xs) -> H' b=some (.tup xs)
  frzs:∀ b o u,H b=some (.frz o u) -> H' b=some (.frz o u)
  tbls:∀ b ps,H b=some (.tbl ps) -> ∃ more,H' b=some (.tbl (ps ++ more))
section
variable {fs fs' ex ex':List Addr} {H H1 H2:Hp} {h h1 h2 h':Heap} {a x e:Addr} {o:HO}
theorem Un.any (u:Un fs ex H H1 h h1) {b:Addr} {ob:Obj} (q:h.get? b=some ob) (n:H b=none) (hx:b ∉ ex):∃ sl,h1.get? b=some { ob with slots:=sl }:=by
  by_cases hb:b ∈ fs
  . exact u.slot b ob q n hb hx
  . exact ⟨ob.slots,u.keep b ob q n hb hx⟩
theorem Un.kept (k:∀ b u,h.get? b=some u -> h'.get? b=some u):Un fs ex H H h h' :=
  ⟨fun b ob q _ _ _=>k b ob q,fun b ob q _ _ _=>⟨ob.slots,k b ob q⟩,fun _ _ _ n _=>n,fun b ob q _=>⟨ob,k b ob q⟩,fun _ _ q=>q,fun _ _ _ q=>q,fun _ ps q=>⟨#[],by rw [q]; simp⟩⟩
theorem Un.refl:Un fs ex H H h h:=Un.kept fun _ _ q=>q
theorem Un.laid (k:∀ b u,h.get? b=some u -> h'.get? b=some u) (hp:h.objs.size <= a) (hn:H a=none):Un fs ex H (upd H a o) h h' where
  keep:=fun b u q _ _ _=>k b u q
  slot:=fun b u q _ _ _=>⟨u.slots,k b u q⟩
  free:=fun b u q n _=>by rw [upd_ne (Nat.ne_of_lt (Nat.lt_of_lt_of_le (Heap.lt_size q) hp))]; exact n
  there:=fun b u q _=>⟨u,k b u q⟩
  tups:=fun b xs q=>by rw [upd_ne (ne_of_none q hn)]; exact q
  frzs:=fun b u xs q=>by rw [upd_ne (ne_of_none q hn)]; exact q
  tbls:=fun b ps q=>⟨#[],by rw [upd_ne (ne_of_none q hn),q]; simp⟩
theorem Un.write (mu:Mut (H x)) (he:e=x \/ H e=some (.own x)) (k:∀ b u,b ≠ e -> h.get? b=some u -> h'.get? b=some u) (heo:∃ u,h'.get? e=some u):Un fs ex H (upd H x o) h h':=by
  have hx:∀ b,H b=none -> b ≠ x:=fun b n z=>by subst z; rw [n] at mu; exact mu
  have hb:∀ b,H b=none -> b ≠ e:=fun b n z=>by
    subst z
    rcases he with r | r
    . exact hx b n r
    . rw [n] at r; cases r
  have hm:∀ b u,H b=some u -> ¬ Mut (some u) -> b ≠ x:=fun b u q nm z=>by subst z; rw [q] at mu; exact nm mu
  refine ⟨fun b u q n _ _=>k b u (hb b n) q,fun b u q n _ _=>⟨u.slots,k b u (hb b n) q⟩,fun b u q n _=>by rw [upd_ne (hx b n)]; exact n,fun b u q _=>?_,
    fun b xs q=>by rw [upd_ne (hm b _ q fun z=>z)]; exact q,fun b u xs q=>by rw [upd_ne (hm b _ q fun z=>z)]; exact q,fun b ps q=>⟨#[],by rw [upd_ne (hm b _ q fun z=>z),q]; simp⟩⟩
  by_cases hbe:b=e
  . subst hbe; exact heo
  . exact ⟨u,k b u hbe q⟩
end
def trk (h:Heap) (H:Hp):List Addr:=(List.range h.objs.size).filter fun a=>(H a).isSome
def hidT (h:Heap) (H:Hp):Heap:=PySem.W.hideAll h (trk h H)
theorem hidT_size (h:Heap) (H:Hp):(hidT h H).objs.size=h.objs.size:=PySem.W.hideAll_size _ _
theorem hidT_get {h:Heap} {H:Hp} {b:Addr} {o:Obj} (e:h.get? b=some o) (n:H b=none):(hidT h H).get? b=some o :=
  PySem.W.hideAll_get _ e fun hm=>by
    have q:(H b).isSome=true:=(List.mem_filter.mp hm).2
    rw [n] at q; simp at q
theorem of_hidT {h:Heap} {H:Hp} {b:Addr} {o:Obj} (e:(hidT h H).get? b=some o):h.get? b=some o /\ H b=none:=by
  have e':h.get? b=some o:=PySem.W.of_hideAll (trk h H) e
  refine ⟨e',?_⟩
  cases q:H b with
  | none=>rfl
  | some x =>
    have hm:b ∈ trk h H:=List.mem_filter.mpr ⟨List.mem_range.mpr (Heap.lt_size e'),by simp [q]⟩
    have z:(hidT h H).get? b=none:=PySem.W.hideAll_none (trk h H) hm
    rw [z] at e; cases e
def allNews (g h:Heap) (L:Addr):List (Addr × Obj):=(List.range h.objs.size).filterMap fun a=>if a=L \/ (g.get? a).isSome=true then none else (h.get? a).map fun o=>(a,o)
def rest (g h:Heap) (L d:Addr):List (Addr × Obj):=(allNews g h L).filter fun p=>decide (p.1 ≠ d)
structure Mod (K:PySem.W.Frag) (mg:Str -> Option Value) (base:Heap):Prop where
  kin:K.In base
  glob:base.Ns mainGlobals mg
  blt:∃ mb,base.Ns builtinsNs mb /\ ∀ x:Str,x ≠ "__name__" -> mb x=bootBuiltins x
  nolimit:base.NoLimit
structure Cx where
  prog:Program
  w:World
  K:PySem.W.Frag
  mg:Str -> Option Value
  base:Heap
  A:Around
  N:List Str
  s₀:Shared
  H₀:Hp
  env:Env
  outer:List Env
  stack:List Env
  ex:List Addr
  fn:Str -> Bool
  calm:Bool
  pn:List (Addr × Obj)
  xe:Value -> Shared -> Prop
def frs (l:List Env):List Addr:=l.filterMap (·.frame)
abbrev Cx.fs (X:Cx):List Addr:=frs X.outer
def Vis (sc:Scope) (x:Str):Prop:=sc.names.lookup x=some .local \/ sc.names.lookup x=some .cell \/ sc.names.lookup x=some .free
def Loc (sc:Scope) (x:Str):Prop:=sc.names.lookup x=some .local \/ sc.names.lookup x=some .cell
def Look (env:Env) (h:Heap) (m:Str -> Option Value) (x:Str) (u:Value):Prop :=
  (env.kindOf x=some .local /\ m x=some u) \/ ((env.kindOf x=some .cell \/ env.kindOf x=some .free) /\ ∃ c,env.cells.lookup x=some c /\ h.IsCell c (some u))
structure Cx.Ok (X:Cx):Prop where
  mod:Mod X.K X.mg X.base
  kind:X.env.scope.kind=.function
  glob:X.env.globals=mainGlobals
  blt:X.env.builtins=builtinsNs
  above:X.s₀.heap.objs.size <= X.env.locals
  inj:∀ x y c,X.env.cells.lookup x=some c -> X.env.cells.lookup y=some c -> x=y
  has:∀ x,(X.env.kindOf x=some .cell \/ X.env.kindOf x=some .free) -> ∃ c,X.env.cells.lookup x=some c
  cab:∀ x c,X.fn x=true -> X.env.cells.lookup x=some c -> X.s₀.heap.objs.size <= c
  hd:X.calm=true -> X.A.handled=none
  frames:X.A.frames=some X.stack
  stk:X.stack=X.outer \/ (X.stack=X.env :: X.outer /\ X.env.frame=some X.env.locals)
  exf:∀ b ∈ X.ex,b ≠ X.env.locals /\ ∀ x c,X.env.cells.lookup x=some c -> c ≠ b
  bs:∀ b o,X.base.get? b=some o -> X.s₀.heap.get? b=some o /\ X.H₀ b=none
  bsz:X.base.objs.size <= X.s₀.heap.objs.size
  noex:∀ b o,X.base.get? b=some o -> b ∉ X.ex
  exfs:∀ b ∈ X.ex,b ∉ X.fs
  funs:X.s₀.heap.FunFrames X.base X.outer
  frf:∀ b ∈ X.fs,X.H₀ b=none
structure Inv (X:Cx) (pins:List (Addr × Obj)) (σ:List (Option V)) (H:Hp) (s:Shared):Prop where
  ok:X.Ok
  os:s.os=X.s₀.os
  bare:AllBare s.gens
  base:Un X.fs X.ex X.H₀ H X.s₀.heap s.heap
  loc:∃ m,s.heap.Ns X.env.locals m /\ ∀ (i:Nat) (x:Str) (v:V),X.N[i]?=some x -> σ[i]?=some (some v) -> Vis X.env.scope x -> ∃ u,RelV v u /\ Look X.env s.heap m x u
  cell:∀ x c,X.env.cells.lookup x=some c -> ∃ v,s.heap.IsCell c v
  free:H X.env.locals=none
  freeC:∀ x c,X.env.cells.lookup x=some c -> H c=none
  pin:∀ p ∈ X.pn ++ pins,s.heap.get? p.1=some p.2 /\ H p.1=none /\ p.1 ≠ X.env.locals /\ p.1 ∉ X.fs /\ ∀ v,p.2.data ≠ .cell v
  hok:HOk X.prog X.w H s.heap
  len:σ.length=X.N.length
section
variable {X:Cx} {pins:List (Addr × Obj)} {σ:List (Option V)} {H H':Hp} {s:Shared} {h':Heap}
theorem Cx.Ok.nofr (ok:X.Ok) {b:Addr} {o:Obj} (e:X.base.get? b=some o):b ∉ X.fs:=fun hb=>by
  have:=(ok.funs.mem hb).1
  rw [e] at this; cases this
theorem Inv.bs (I:Inv X pins σ H s):∀ b o,X.base.get? b=some o -> s.heap.get? b=some o /\ H b=none:=fun b o e =>
  ⟨I.base.keep b o (I.ok.bs b o e).1 (I.ok.bs b o e).2 (I.ok.nofr e) (I.ok.noex b o e),I.base.free b o (I.ok.bs b o e).1 (I.ok.bs b o e).2 (I.ok.noex b o e)⟩
theorem Inv.bk (I:Inv X pins σ H s):∀ b o,X.base.get? b=some o -> s.heap.get? b=some o:=fun b o e=>(I.bs b o e).1
theorem Inv.mod (I:Inv X pins σ H s):Mod X.K X.mg X.base:=I.ok.mod
theorem Inv.kIn (I:Inv X pins σ H s):X.K.In s.heap:=I.ok.mod.kin.keeps I.bk
theorem Inv.fr (I:Inv X pins σ H s):∃ m,Fr X.base X.env.locals s.heap m :=
  let ⟨m,hn,_⟩:=I.loc
  ⟨m,hn,I.bk,Nat.le_trans I.ok.bsz I.ok.above⟩
theorem Inv.lt (I:Inv X pins σ H s):X.env.locals < s.heap.objs.size:=let ⟨_,hn,_⟩:=I.loc; hn.lt
theorem Inv.sz (I:Inv X pins σ H s):X.s₀.heap.objs.size <= s.heap.objs.size:=Nat.le_trans I.ok.above (Nat.le_of_lt I.lt)
theorem Inv.nofs (I:Inv X pins σ H s) {a:Addr} (h:s.heap.objs.size <= a):a ∉ X.fs:=fun hb=>by
  obtain ⟨_,o,ho,_⟩:=I.ok.funs.mem hb
  exact absurd (Nat.lt_of_lt_of_le (Heap.lt_size ho) (Nat.le_trans I.sz h)) (Nat.lt_irrefl _)
theorem Inv.cne (I:Inv X pins σ H s):∀ x c,X.env.cells.lookup x=some c -> c ≠ X.env.locals:=fun x c e z=>by
  obtain ⟨v,o,ho,hd⟩:=I.cell x c e
  obtain ⟨m,⟨o',es,ep,ho',hd',_⟩,_⟩:=I.loc
  rw [z,ho'] at ho; cases ho; rw [hd'] at hd; cases hd
theorem Inv.funs (I:Inv X pins σ H s):s.heap.FunFrames X.base X.outer:=by
  have all:∀ (l:List Env),(∀ b ∈ frs l,b ∈ X.fs) -> X.s₀.heap.FunFrames X.base l -> s.heap.FunFrames X.base l:=by
    intro l
    induction l with
    | nil=>intro _ _; trivial
    | cons env r ih =>
      intro hs hl
      obtain ⟨hk,⟨L,o,hf,hn,ho,hd⟩,hr⟩:=hl
      have hL:L ∈ X.fs:=hs L (by unfold frs; rw [List.filterMap_cons,hf]; exact List.mem_cons_self)
      obtain ⟨sl,e⟩:=I.base.slot L o ho (I.ok.frf L hL) hL fun z=>I.ok.exfs L z hL
      exact ⟨hk,⟨L,_,hf,hn,e,hd⟩,ih (fun b hb=>hs b (by unfold frs; rw [List.filterMap_cons,hf]; exact List.mem_cons_of_mem _ hb)) hr⟩
  exact all X.outer (fun _ hb=>hb) I.ok.funs
theorem Inv.stack (I:Inv X pins σ H s):s.heap.FunFrames X.base X.stack:=by
  rcases I.ok.stk with e | ⟨e,hf⟩
  . rw [e]; exact I.funs
  . rw [e]
    obtain ⟨m,hn,_⟩:=I.loc
    refine .cons (by rw [I.ok.kind]; decide) hf hn ?_ I.funs
    exact Heap.get?_none_of_le (Nat.le_trans I.ok.bsz I.ok.above)
theorem Inv.stkSub (I:Inv X pins σ H s):∀ b ∈ frs X.stack,b ∈ X.env.locals :: X.fs:=fun b hb=>by
  rcases I.ok.stk with e | ⟨e,hf⟩
  . rw [e] at hb; exact List.mem_cons_of_mem _ hb
  . rw [e] at hb
    unfold frs at hb
    rw [List.filterMap_cons,hf] at hb
    exact hb
theorem Inv.stkFree (I:Inv X pins σ H s):∀ b ∈ frs X.stack,H b=none:=fun b hb=>by
  rcases List.mem_cons.mp (I.stkSub b hb) with e | hb
  . rw [e]; exact I.free
  . obtain ⟨_,o,ho,_⟩:=I.ok.funs.mem hb
    exact I.base.free b o ho (I.ok.frf b hb) fun z=>I.ok.exfs b z hb
theorem Inv.step {g':Array GenState} {t':Nat} {d':Drawn} {ch:List Addr} (I:Inv X pins σ H s)
    (hch:∀ b ∈ ch,(b ∈ X.ex \/ X.s₀.heap.objs.size <= b) /\ b ≠ X.env.locals /\ (∀ x c,X.env.cells.lookup x=some c -> c ≠ b) /\ ∀ p ∈ X.pn ++ pins,p.1 ≠ b)
    (keep:∀ b o,b ≠ X.env.locals -> b ∉ X.fs -> b ∉ ch -> s.heap.get? b=some o -> H b=none -> h'.get? b=some o)
    (slot:∀ b o,b ≠ X.env.locals -> b ∈ X.fs -> b ∉ ch -> s.heap.get? b=some o -> H b=none -> ∃ sl,h'.get? b=some { o with slots:=sl }) (free:∀ b o,b ∉ ch -> s.heap.get? b=some o -> H b=none -> H' b=none)
    (there:∀ b o,b ∉ ch -> s.heap.get? b=some o -> ∃ o',h'.get? b=some o')
    (tups:∀ b xs,H b=some (.tup xs) -> H' b=some (.tup xs)) (frzs:∀ b o u,H b=some (.frz o u) -> H' b=some (.frz o u)) (tbls:∀ b ps,H b=some (.tbl ps) -> ∃ more,H' b=some (.tbl (ps ++ more)))
    (ns:∀ m,s.heap.Ns X.env.locals m -> h'.Ns X.env.locals m) (hok:HOk X.prog X.w H' h') (hg:AllBare g') :
    Inv X pins σ H' { s with heap:=h',gens:=g',drawn:=d',toks:=t' }:=by
  have neL:∀ b o,X.s₀.heap.get? b=some o -> b ≠ X.env.locals:=fun b o e=>Nat.ne_of_lt (Nat.lt_of_lt_of_le (Heap.lt_size e) I.ok.above)
  have neC:∀ b o,X.s₀.heap.get? b=some o -> b ∉ X.ex -> b ∉ ch:=fun b o e hx hb=>by
    rcases (hch b hb).1 with z | z
    . exact hx z
    . exact absurd (Nat.lt_of_lt_of_le (Heap.lt_size e) z) (Nat.lt_irrefl _)
  have cellK:∀ x c,X.env.cells.lookup x=some c -> ∀ v,s.heap.IsCell c v -> h'.IsCell c v:=fun x c e v ⟨o,ho,hd⟩=>by
    have nch:c ∉ ch:=fun z=>(hch c z).2.2.1 x c e rfl
    by_cases hc:c ∈ X.fs
    . obtain ⟨sl,q⟩:=slot c o (I.cne x c e) hc nch ho (I.freeC x c e)
      exact ⟨_,q,hd⟩
    . exact ⟨o,keep c o (I.cne x c e) hc nch ho (I.freeC x c e),hd⟩
  refine ⟨I.ok,I.os,hg,⟨fun b o e n hb hx=>?_,fun b o e n hb hx=>?_,fun b o e n hx=>?_,fun b o e hx=>?_,fun b xs e=>tups b xs (I.base.tups b xs e),fun b o xs e=>frzs b o xs (I.base.frzs b o xs e),fun b ps e=>?_⟩,?_,fun x c e=>?_,?_,fun x c e=>?_,fun p hp=>?_,hok,I.len⟩
  . exact keep b o (neL b o e) hb (neC b o e hx) (I.base.keep b o e n hb hx) (I.base.free b o e n hx)
  . obtain ⟨sl,e1⟩:=I.base.slot b o e n hb hx
    obtain ⟨sl',e2⟩:=slot b _ (neL b o e) hb (neC b o e hx) e1 (I.base.free b o e n hx)
    exact ⟨sl',e2⟩
  . obtain ⟨o',e1⟩:=I.base.there b o e hx
    exact free b o' (neC b o e hx) e1 (I.base.free b o e n hx)
  . obtain ⟨o',e1⟩:=I.base.there b o e hx
    exact there b o' (neC b o e hx) e1
  . obtain ⟨m1,e1⟩:=I.base.tbls b ps e
    obtain ⟨m2,e2⟩:=tbls b _ e1
    exact ⟨m1 ++ m2,by rw [e2,Array.append_assoc]⟩
  . obtain ⟨m,hn,hl⟩:=I.loc
    refine ⟨m,ns m hn,fun i x v e1 e2 e3=>?_⟩
    obtain ⟨u,r,l⟩:=hl i x v e1 e2 e3
    refine ⟨u,r,?_⟩
    rcases l with l | ⟨k,c,e,z⟩
    . exact .inl l
    . exact .inr ⟨k,c,e,cellK x c e _ z⟩
  . obtain ⟨v,z⟩:=I.cell x c e
    exact ⟨v,cellK x c e v z⟩
  . obtain ⟨m,⟨o,_,_,ho,_⟩,_⟩:=I.loc
    exact free _ o (fun z=>(hch _ z).2.1 rfl) ho I.free
  . obtain ⟨v,o,ho,hd⟩:=I.cell x c e
    exact free c o (fun z=>(hch c z).2.2.1 x c e rfl) ho (I.freeC x c e)
  . obtain ⟨e,n,ne,nf,d⟩:=I.pin p hp
    have nch:p.1 ∉ ch:=fun z=>(hch p.1 z).2.2.2 p hp rfl
    exact ⟨keep p.1 p.2 ne nf nch e n,free p.1 p.2 nch e n,ne,nf,d⟩
theorem Inv.un {t':Nat} (I:Inv X pins σ H s) (u:Un X.fs [] H H' s.heap h') (hok:HOk X.prog X.w H' h'):Inv X pins σ H' { s with heap:=h',toks:=t' }:=by
  obtain ⟨m,⟨o,es,ep,ho,r⟩,_⟩:=id I.loc
  obtain ⟨sl,hL⟩:=u.any ho I.free (by simp)
  exact I.step (g':=s.gens) (d':=s.drawn) (ch:=[]) (fun _ z=>nomatch z) (fun b o _ hb _ e n=>u.keep b o e n hb (by simp)) (fun b o _ hb _ e n=>u.slot b o e n hb (by simp)) (fun b o _ e n=>u.free b o e n (by simp)) (fun b o _ e=>u.there b o e (by simp)) u.tups u.frzs u.tbls (fun m' hm=>by
    obtain ⟨o',es',ep',ho',r'⟩:=hm
    rw [ho] at ho'; cases ho'
    exact ⟨_,es',ep',hL,r'⟩) hok I.bare
theorem Inv.call {g':Array GenState} {t':Nat} {d':Drawn} {ch:List Addr} (I:Inv X pins σ H s) (u:Un (frs X.stack) ch H H' s.heap h') (hok:HOk X.prog X.w H' h') (hg:AllBare g')
    (hch:∀ b ∈ ch,(b ∈ X.ex \/ X.s₀.heap.objs.size <= b) /\ b ≠ X.env.locals /\ (∀ x c,X.env.cells.lookup x=some c -> c ≠ b) /\ ∀ p ∈ X.pn ++ pins,p.1 ≠ b) :
    Inv X pins σ H' { s with heap:=h',gens:=g',drawn:=d',toks:=t' }:=by
  obtain ⟨m,⟨o,es,ep,ho,r⟩,_⟩:=id I.loc
  obtain ⟨sl,hL⟩:=u.any ho I.free fun z=>(hch _ z).2.1 rfl
  exact I.step (ch:=ch) hch (fun b o hL hb hc e n=>u.keep b o e n (fun z=>(List.mem_cons.mp (I.stkSub b z)).elim hL hb) hc) (fun b o _ _ hc e n=>u.any e n hc) (fun b o hc e n=>u.free b o e n hc) (fun b o hc e=>u.there b o e hc) u.tups u.frzs u.tbls (fun m' hm=>by
    obtain ⟨o',es',ep',ho',r'⟩:=hm
    rw [ho] at ho'; cases ho'
    exact ⟨_,es',ep',hL,r'⟩) hok hg
theorem Inv.turned {t':Nat} {it:Addr} (I:Inv X pins σ H s) (k:∀ b o,b ≠ it -> s.heap.get? b=some o -> h'.get? b=some o) (hn:H it=none) (hL:it ≠ X.env.locals)
    (h1:it ∈ X.ex \/ X.s₀.heap.objs.size <= it) (h2:∀ x c,X.env.cells.lookup x=some c -> c ≠ it) (h3:∀ p ∈ X.pn ++ pins,p.1 ≠ it):Inv X pins σ H { s with heap:=h',toks:=t' }:=by
  have nit:∀ b u,H b=some u -> b ≠ it:=fun b u e z=>by rw [z,hn] at e; cases e
  refine I.step (g':=s.gens) (d':=s.drawn) (ch:=[it]) (fun b hb=>?_) (fun b o _ _ hc e _=>k b o (fun z=>hc (by simp [z])) e) (fun b o _ _ hc e _=>⟨o.slots,k b o (fun z=>hc (by simp [z])) e⟩) (fun _ _ _ _ n=>n)
    (fun b o hc e=>⟨o,k b o (fun z=>hc (by simp [z])) e⟩) (fun _ _ e=>e) (fun _ _ _ e=>e) (fun b ps e=>⟨#[],by rw [e]; simp⟩) (fun m hm=>?_) (fun b u e=>?_) I.bare
  . have e:b=it:=by simpa using hb
    subst e
    exact ⟨h1,hL,h2,h3⟩
  . obtain ⟨o,es,ep,ho,r⟩:=hm
    exact ⟨o,es,ep,k _ o (Ne.symm hL) ho,r⟩
  . refine (I.hok b u e).stay (fun c v hc q=>k c v ?_ q) (fun _ q=>q) fun _ _ q=>q
    rcases hc with z | z
    . rw [z]; exact nit b u e
    . exact nit c _ z
theorem Inv.tok (I:Inv X pins σ H s) (t:Nat):Inv X pins σ H { s with toks:=t }:=I.un (h':=s.heap) (t':=t) Un.refl I.hok
theorem Inv.kept {t':Nat} (I:Inv X pins σ H s) (k:∀ b u,s.heap.get? b=some u -> h'.get? b=some u):Inv X pins σ H { s with heap:=h',toks:=t' }:=I.un (Un.kept k) (I.hok.kept k)
theorem Inv.laid {a:Addr} {o:HO} {t':Nat} (I:Inv X pins σ H s) (k:∀ b u,s.heap.get? b=some u -> h'.get? b=some u) (hp:s.heap.objs.size <= a) (new:ObjOk X.prog X.w (upd H a o) h' a o) :
    Inv X pins σ (upd H a o) { s with heap:=h',toks:=t' }:=I.un (Un.laid k hp (I.hok.fresh hp)) (I.hok.laid k hp new)
theorem Inv.write {x e:Addr} {o:HO} {t':Nat} (I:Inv X pins σ H s) (mu:Mut (H x)) (he:e=x \/ H e=some (.own x)) (k:∀ b u,b ≠ e -> s.heap.get? b=some u -> h'.get? b=some u) (heo:∃ u,h'.get? e=some u)
    (new:ObjOk X.prog X.w (upd H x o) h' x o):Inv X pins σ (upd H x o) { s with heap:=h',toks:=t' }:=I.un (Un.write mu he k heo) (I.hok.write mu he k heo new)
theorem Inv.weak {σ':List (Option V)} (I:Inv X pins σ H s) (hl:σ'.length=σ.length) (w:∀ (i:Nat) v,σ'[i]?=some (some v) -> σ[i]?=some (some v)):Inv X pins σ' H s :=
  ⟨I.ok,I.os,I.bare,I.base,let ⟨m,hn,hl'⟩:=I.loc; ⟨m,hn,fun i x v e1 e2 e3=>hl' i x v e1 (w i v e2) e3⟩,I.cell,I.free,I.freeC,I.pin,I.hok,hl.trans I.len⟩
theorem Inv.pins_of {pins':List (Addr × Obj)} (I:Inv X pins σ H s) (h:∀ p ∈ pins',s.heap.get? p.1=some p.2 /\ H p.1=none /\ p.1 ≠ X.env.locals /\ p.1 ∉ X.fs /\ ∀ v,p.2.data ≠ .cell v):Inv X pins' σ H s :=
  ⟨I.ok,I.os,I.bare,I.base,I.loc,I.cell,I.free,I.freeC,fun p hp=>(List.mem_append.mp hp).elim (fun z=>I.pin p (List.mem_append_left _ z)) (h p),I.hok,I.len⟩
theorem nodup_ix {N:List Str} (hN:N.Nodup) {i j:Nat} {x:Str} (a:N[i]?=some x) (b:N[j]?=some x):i=j:=by
  obtain ⟨h1,e1⟩:=List.getElem?_eq_some_iff.mp a
  obtain ⟨h2,e2⟩:=List.getElem?_eq_some_iff.mp b
  exact (List.getElem_inj hN).mp (e1.trans e2.symm)
theorem store_ok2 {M:Model} {A:Around} {E:Value -> Shared -> Prop} {i:Nat} {x:Str} {v:V} {u:Value} {Q:Unit -> Shared -> Prop} (I:Inv X pins σ H s) (hN:X.N.Nodup) (hi:X.N[i]?=some x) (hx:Loc X.env.scope x) (r:RelV v u)
    (h:∀ s',Inv X pins (σ.set i (some v)) H s' -> (∃ a,Heap.SameBut a s.heap s'.heap /\ (a=X.env.locals \/ X.env.cells.lookup x=some a)) -> Q () s') (hf:X.fn x=true \/ X.env.scope.names.lookup x=some .local:=by first | exact .inl rfl | exact .inr rfl | assumption):wpAny M A (storeName X.env x u) Q E s:=by
  obtain ⟨m,hn,hl⟩:=id I.loc
  have hcls:(X.env.scope.kind == .class || (X.env.scope.kind == .module && X.env.locals != X.env.globals))=false:=by rw [I.ok.kind]; rfl
  have hiσ:i < σ.length:=by rw [I.len]; exact (List.getElem?_eq_some_iff.mp hi).1
  have cne:=I.cne
  have tracked:∀ {a:Addr} {h':Heap},(∃ o,s.heap.get? a=some o /\ H a=none) -> Heap.SameBut a s.heap h' -> HOk X.prog X.w H h':=fun {a h'} ha hs b ob e=>by
    obtain ⟨_,_,hfree⟩:=ha
    refine (I.hok b ob e).stay (fun c w' hc q=>(hs.2 c ?_).trans q) (fun _ q=>q) fun _ _ q=>q
    rintro rfl
    rcases hc with rfl | hc
    . rw [hfree] at e; cases e
    . rw [hfree] at hc; cases hc
  rcases hx with hk | hk
  . refine wpAny_storeName_local hk hn (fun h' hn' hs=>?_) hcls
    obtain ⟨oL,_,_,hoL,_⟩:=id hn
    refine h _ ⟨I.ok,I.os,I.bare,⟨fun b o e n hb hx=>?_,fun b o e n hb hx=>?_,I.base.free,fun b o e hx=>?_,I.base.tups,I.base.frzs,I.base.tbls⟩,⟨_,hn',fun j y v' e1 e2 e3=>?_⟩,fun y c e=>?_,I.free,I.freeC,fun p hp=>?_,tracked ⟨oL,hoL,I.free⟩ hs,by simpa using I.len⟩ ⟨_,hs,.inl rfl⟩
    . exact (hs.2 b (Nat.ne_of_lt (Nat.lt_of_lt_of_le (Heap.lt_size e) I.ok.above))).trans (I.base.keep b o e n hb hx)
    . obtain ⟨sl,e1⟩:=I.base.slot b o e n hb hx
      exact ⟨sl,(hs.2 b (Nat.ne_of_lt (Nat.lt_of_lt_of_le (Heap.lt_size e) I.ok.above))).trans e1⟩
    . obtain ⟨o',e1⟩:=I.base.there b o e hx
      exact ⟨o',(hs.2 b (Nat.ne_of_lt (Nat.lt_of_lt_of_le (Heap.lt_size e) I.ok.above))).trans e1⟩
    . by_cases hj:j=i
      . subst hj
        rw [hi] at e1; cases e1
        rw [List.getElem?_set_self hiσ] at e2
        cases e2
        exact ⟨u,r,.inl ⟨hk,by simp⟩⟩
      . rw [List.getElem?_set_ne (Ne.symm hj)] at e2
        obtain ⟨u',r',q⟩:=hl j y v' e1 e2 e3
        refine ⟨u',r',?_⟩
        rcases q with ⟨k,e⟩ | ⟨k,c,e,z⟩
        . refine .inl ⟨k,?_⟩
          have:y ≠ x:=fun e=>hj (nodup_ix hN e1 (e ▸ hi))
          simp [this,e]
        . exact .inr ⟨k,c,e,z.sameBut hs (cne y c e)⟩
    . obtain ⟨w',z⟩:=I.cell y c e
      exact ⟨w',z.sameBut hs (cne y c e)⟩
    . obtain ⟨e,n,ne,nf,d⟩:=I.pin p hp
      exact ⟨(hs.2 p.1 ne).trans e,n,ne,nf,d⟩
  . have hfn:X.fn x=true:=by
      rcases hf with z | z
      . exact z
      . rw [z] at hk; cases hk
    obtain ⟨c,hc⟩:=I.ok.has x (.inl hk)
    obtain ⟨w',z⟩:=I.cell x c hc
    refine wpAny_storeName_cell I.ok.kind hk hc z (fun h' hc' hs=>?_)
    obtain ⟨oc,hoc,hocd⟩:=id z
    refine h { s with heap:=h' } ⟨I.ok,I.os,I.bare,⟨fun b o e n hb hx=>?_,fun b o e n hb hx=>?_,I.base.free,fun b o e hx=>?_,I.base.tups,I.base.frzs,I.base.tbls⟩,⟨m,hn.sameBut hs (Ne.symm (cne x c hc)),fun j y v' e1 e2 e3=>?_⟩,fun y c' e=>?_,I.free,I.freeC,fun p hp=>?_,tracked ⟨oc,hoc,I.freeC x c hc⟩ hs,by simpa using I.len⟩ ⟨c,hs,.inr hc⟩
    . exact (hs.2 b (Nat.ne_of_lt (Nat.lt_of_lt_of_le (Heap.lt_size e) (I.ok.cab x c hfn hc)))).trans (I.base.keep b o e n hb hx)
    . obtain ⟨sl,e1⟩:=I.base.slot b o e n hb hx
      exact ⟨sl,(hs.2 b (Nat.ne_of_lt (Nat.lt_of_lt_of_le (Heap.lt_size e) (I.ok.cab x c hfn hc)))).trans e1⟩
    . obtain ⟨o',e1⟩:=I.base.there b o e hx
      exact ⟨o',(hs.2 b (Nat.ne_of_lt (Nat.lt_of_lt_of_le (Heap.lt_size e) (I.ok.cab x c hfn hc)))).trans e1⟩
    . by_cases hj:j=i
      . subst hj
        rw [hi] at e1; cases e1
        rw [List.getElem?_set_self hiσ] at e2
        cases e2
        exact ⟨u,r,.inr ⟨.inl hk,c,hc,hc'⟩⟩
      . rw [List.getElem?_set_ne (Ne.symm hj)] at e2
        obtain ⟨u',r',q⟩:=hl j y v' e1 e2 e3
        refine ⟨u',r',?_⟩
        rcases q with q | ⟨k,c',e,z'⟩
        . exact .inl q
        . refine .inr ⟨k,c',e,z'.sameBut hs ?_⟩
          rintro rfl
          exact hj (nodup_ix hN e1 (I.ok.inj _ _ _ e hc ▸ hi))
    . by_cases hcc:c'=c
      . subst hcc; exact ⟨_,hc'⟩
      . obtain ⟨w2,z2⟩:=I.cell y c' e
        exact ⟨w2,z2.sameBut hs hcc⟩
    . obtain ⟨e,n,ne,nf,d⟩:=I.pin p hp
      refine ⟨(hs.2 p.1 ?_).trans e,n,ne,nf,d⟩
      intro q
      rw [q,hoc] at e
      have q':oc=p.2:=Option.some.inj e
      exact d w' (by rw [<- q']; exact hocd)
theorem store_ok {M:Model} {A:Around} {E:Value -> Shared -> Prop} {i:Nat} {x:Str} {v:V} {u:Value} {Q:Unit -> Shared -> Prop} (I:Inv X pins σ H s) (hN:X.N.Nodup) (hi:X.N[i]?=some x) (hx:Loc X.env.scope x) (r:RelV v u)
    (h:∀ s',Inv X pins (σ.set i (some v)) H s' -> Q () s') (hf:X.fn x=true \/ X.env.scope.names.lookup x=some .local:=by first | exact .inl rfl | exact .inr rfl | assumption):wpAny M A (storeName X.env x u) Q E s :=
  store_ok2 I hN hi hx r (fun s' I' _=>h s' I') hf
theorem Inv.call' {s':Shared} {ch:List Addr} (I:Inv X pins σ H s) (ho:s'.os=s.os) (u:Un (frs X.stack) ch H H' s.heap s'.heap) (hok:HOk X.prog X.w H' s'.heap) (hg:AllBare s'.gens)
    (hch:∀ b ∈ ch,(b ∈ X.ex \/ X.s₀.heap.objs.size <= b) /\ b ≠ X.env.locals /\ (∀ x c,X.env.cells.lookup x=some c -> c ≠ b) /\ ∀ p ∈ X.pn ++ pins,p.1 ≠ b):Inv X pins σ H' s':=by
  obtain ⟨h',g',d',t',o'⟩:=s'
  have e:o'=s.os:=ho
  subst e
  exact I.call (g':=g') (t':=t') (d':=d') u hok hg hch
end
abbrev XK:=Value -> Option Addr -> Hp -> Prop
abbrev St:=List (Option V)
abbrev VK:=V -> Hp -> Prop
abbrev TE:=St -> Hp -> VK -> Prop
abbrev TT:=St -> Hp -> (Bool -> Hp -> Prop) -> Prop
abbrev TA:=St -> Hp -> (List V -> Hp -> Prop) -> Prop
structure Ends where
  nx:St -> Hp -> Prop
  rt:VK
  bk:St -> Hp -> Prop:=fun _ _=>False
  ct:St -> Hp -> Prop:=fun _ _=>False
abbrev TS:=Ends -> St -> Hp -> Prop
def EP (X:Cx) (pins:List (Addr × Obj)) (σ:St) (Q:VK) (u:Value) (s':Shared):Prop:=∃ v H',Inv X pins σ H' s' /\ RelV v u /\ Q v H'
def TP (X:Cx) (pins:List (Addr × Obj)) (σ:St) (Q:Bool -> Hp -> Prop) (b:Bool) (s':Shared):Prop:=∃ H',Inv X pins σ H' s' /\ Q b H'
def AP (X:Cx) (pins:List (Addr × Obj)) (σ:St) (Q:List V -> Hp -> Prop) (us:List Value) (s':Shared):Prop:=∃ vs H',Inv X pins σ H' s' /\ Vals vs us /\ Q vs H'
def SP (X:Cx) (pins:List (Addr × Obj)) (D:Ends) (f:Flow) (s':Shared):Prop :=
  match f with
  | .next=>∃ σ' H',Inv X pins σ' H' s' /\ D.nx σ' H'
  | .brk=>∃ σ' H',Inv X pins σ' H' s' /\ D.bk σ' H'
  | .cont=>∃ σ' H',Inv X pins σ' H' s' /\ D.ct σ' H'
  | .ret u=>∃ v σ' H',Inv X pins σ' H' s' /\ RelV v u /\ D.rt v H'
def PE (X:Cx) (e:Expr) (t:TE):Prop :=
  ∀ (pins:List (Addr × Obj)) (s:Shared) (σ:St) (H:Hp) (Q:VK),Inv X pins σ H s -> t σ H Q -> wpAny (model X.prog X.w) X.A (eval e X.env) (EP X pins σ Q) X.xe s
def PT (X:Cx) (e:Expr) (t:TT):Prop :=
  ∀ (pins:List (Addr × Obj)) (s:Shared) (σ:St) (H:Hp) (Q:Bool -> Hp -> Prop),Inv X pins σ H s -> t σ H Q -> wpAny (model X.prog X.w) X.A (isTrue e X.env (eval e X.env)) (TP X pins σ Q) X.xe s
def PW (X:Cx) (e:Expr) (t:TT):Prop :=
  ∀ (whole:Sem Value) (pins:List (Addr × Obj)) (s:Shared) (σ:St) (H:Hp) (Q:Bool -> Hp -> Prop),Inv X pins σ H s -> t σ H Q -> wpAny (model X.prog X.w) X.A (isTrue e X.env whole) (TP X pins σ Q) X.xe s
theorem PW.pt {X:Cx} {e:Expr} {t:TT} (h:PW X e t):PT X e t:=h _
def PA (X:Cx) (es:List Expr) (t:TA):Prop :=
  ∀ (pos:Pos) (pins:List (Addr × Obj)) (s:Shared) (σ:St) (H:Hp) (Q:List V -> Hp -> Prop),Inv X pins σ H s -> t σ H Q -> wpAny (model X.prog X.w) X.A (spliced (backTo pos (starEach es X.env))) (AP X pins σ Q) X.xe s
def PS (X:Cx) (st:Stmt) (t:TS):Prop :=
  ∀ (pins:List (Addr × Obj)) (s:Shared) (σ:St) (H:Hp) (D:Ends),Inv X pins σ H s -> t D σ H -> wpAny (model X.prog X.w) X.A (exec st X.env) (SP X pins D) X.xe s
def PSs (X:Cx) (st:List Stmt) (t:TS):Prop :=
  ∀ (pins:List (Addr × Obj)) (s:Shared) (σ:St) (H:Hp) (D:Ends),Inv X pins σ H s -> t D σ H -> wpAny (model X.prog X.w) X.A (execs st X.env) (SP X pins D) X.xe s
theorem thn {α:Type} {t:Sem α} {Q Q':α -> Shared -> Prop} {M:Model} {A:Around} {E:Value -> Shared -> Prop} {s:Shared} (h:wpAny M A t Q E s) (hQ:∀ a s,Q a s -> Q' a s):wpAny M A t Q' E s:=wpAny_mono h hQ fun _ _ x=>x
section
variable {X:Cx}
def tVar (i:Nat):TE:=fun σ H Q=>∃ v,σ[i]?=some (some v) /\ Q v H
def tC (v:V):TE:=fun _ H Q=>Q v H
theorem pe_var {i:Nat} {x:Str} {pos:Pos} (hN:X.N[i]?=some x) (hv:Vis X.env.scope x) (hd:(x == ("__debug__":Str))=false:=by decide) (hcd:(x == ("__classdict__":Str))=false:=by decide):PE X (.Name x pos) (tVar i):=by
  intro pins s σ H Q I h
  obtain ⟨v,e,h⟩:=h
  obtain ⟨m,hn,hl⟩:=I.loc
  obtain ⟨u,r,l⟩:=hl i x v hN e hv
  have fin:EP X pins σ Q u s:=⟨v,H,I,r,h⟩
  rcases l with ⟨hk,hm⟩ | ⟨hk,c,hc,hcell⟩
  . exact wpAny_Name (wpAny_loadName_local I.ok.kind hk hn hm fin) hd
  . rcases hk with hk | hk
    . exact wpAny_Name (wpAny_loadName_cell I.ok.kind hk hc hcell fin) hd
    . exact wpAny_Name (wpAny_loadName_free I.ok.kind hk hc hcell fin hcd) hd
theorem pe_int {i j pos}:PE X (.Constant (.int i) j pos) (tC (.int i)):=fun _ _ _ H _ I h=>wpAny_Constant_int ⟨.int i,H,I.tok _,⟨_,rfl⟩,h⟩
theorem pe_bl {b j pos}:PE X (.Constant (.bool b) j pos) (tC (.bl b)):=fun _ _ _ H _ I h=>Constant_bool ⟨.bl b,H,I,rfl,h⟩
theorem pe_non {j pos}:PE X (.Constant .none j pos) (tC .non):=fun _ _ _ H _ I h=>Constant_none ⟨.non,H,I,rfl,h⟩
theorem pe_str {x j pos}:PE X (.Constant (.str x) j pos) (tC (.str x)):=fun _ _ _ H _ I h=>Calls.Constant_str ⟨.str x,H,I.tok _,⟨_,rfl⟩,h⟩
def Gl (X:Cx) (x:Str):Prop:=X.env.kindOf x=some .globalImplicit
theorem ld_glob {E:Value -> Shared -> Prop} {pins:List (Addr × Obj)} {s:Shared} {σ:St} {H:Hp} {x:Str} {u:Value} {pos:Pos} {Q:Value -> Shared -> Prop} (I:Inv X pins σ H s) (hg:Gl X x) (hm:X.mg x=some u) (h:Q u s)
    (hd:(x == ("__debug__":Str))=false:=by decide):wpAny (model X.prog X.w) X.A (eval (.Name x pos) X.env) Q E s :=
  Calls.Name_function_global I.ok.kind hg (Calls.loadGlobal_global (by rw [I.ok.glob]; exact I.mod.glob.keeps I.bk) hm h) hd
theorem ld_blt {E:Value -> Shared -> Prop} {pins:List (Addr × Obj)} {s:Shared} {σ:St} {H:Hp} {x:Str} {u:Value} {pos:Pos} {Q:Value -> Shared -> Prop} (I:Inv X pins σ H s) (hg:Gl X x) (hm:X.mg x=none) (hv:bootBuiltins x=some u) (h:Q u s)
    (hn:x ≠ "__name__":=by decide) (hd:(x == ("__debug__":Str))=false:=by decide):wpAny (model X.prog X.w) X.A (eval (.Name x pos) X.env) Q E s:=by
  obtain ⟨mb,h1,h2⟩:=I.mod.blt
  exact Calls.Name_function_global I.ok.kind hg (Calls.loadGlobal_builtin (by rw [I.ok.glob]; exact I.mod.glob.keeps I.bk) hm (by rw [I.ok.blt]; exact h1.keeps I.bk) ((h2 x hn).trans hv) h) hd
theorem pe_glob {x:Str} {v:V} {u:Value} {pos:Pos} (hg:Gl X x) (hm:X.mg x=some u) (r:RelV v u) (hd:(x == ("__debug__":Str))=false:=by decide):PE X (.Name x pos) (tC v) :=
  fun _ _ _ H _ I h=>ld_glob I hg hm ⟨v,H,I,r,h⟩ hd
theorem pe_bltn {x:Str} {v:V} {u:Value} {pos:Pos} (hg:Gl X x) (hm:X.mg x=none) (hv:bootBuiltins x=some u) (r:RelV v u) (hn:x ≠ "__name__":=by decide) (hd:(x == ("__debug__":Str))=false:=by decide):PE X (.Name x pos) (tC v) :=
  fun _ _ _ H _ I h=>ld_blt I hg hm hv ⟨v,H,I,r,h⟩ hn hd
variable {a b:Expr} {ta tb:TE} {pos:Pos}
def tB (t:TE):TT:=fun σ H Q=>t σ H fun x H1=>∃ c,x=.bl c /\ Q c H1
theorem pt_val {e:Expr} {t:TE} (h:PE X e t) (he:∀ whole,isTrue e X.env whole=(do let v <- whole; standAt e.pos; holding [v] (truthy v)):=by intro _; rfl):PT X e (tB t):=by
  intro pins s σ H Q I hw
  refine isTrue_plain (thn (h pins s σ H _ I hw) fun v s1 ⟨x,H1,I1,r1,q1⟩=>?_) (he _)
  obtain ⟨d,rfl,q⟩:=q1
  cases r1
  exact wpAny_truthy_bool ⟨H1,I1,q⟩
variable {tA tB':TT} {rest:List Expr}
def tAnd (t u:TT):TT:=fun σ H Q=>t σ H fun c H1=>if c=true then u σ H1 Q else Q false H1
def tOr (t u:TT):TT:=fun σ H Q=>t σ H fun c H1=>if c=true then Q true H1 else u σ H1 Q
def tNot (t:TT):TT:=fun σ H Q=>t σ H fun c H1=>Q (!c) H1
theorem pw_and1 (ha:PT X a tA):PW X (.BoolOp .And [a] pos) tA:=by
  intro wh pins s σ H Q I h
  refine isTrue_and (thn (ha pins s σ H Q I h) fun c s1 e=>?_)
  cases c with
  | true=>exact isTrue_and_nil e
  | false=>exact e
theorem pw_or1 (ha:PT X a tA):PW X (.BoolOp .Or [a] pos) tA:=by
  intro wh pins s σ H Q I h
  refine isTrue_or (thn (ha pins s σ H Q I h) fun c s1 e=>?_)
  cases c with
  | false=>exact isTrue_or_nil e
  | true=>exact e
theorem pw_and (ha:PT X a tA) (hb:PW X (.BoolOp .And (b :: rest) pos) tB'):PW X (.BoolOp .And (a :: b :: rest) pos) (tAnd tA tB'):=by
  intro wh pins s σ H Q I h
  refine isTrue_and (thn (ha pins s σ H _ I h) fun c s1 ⟨H1,I1,q1⟩=>?_)
  cases c with
  | true=>exact hb wh pins s1 σ H1 Q I1 q1
  | false=>exact ⟨H1,I1,q1⟩
theorem pw_or (ha:PT X a tA) (hb:PW X (.BoolOp .Or (b :: rest) pos) tB'):PW X (.BoolOp .Or (a :: b :: rest) pos) (tOr tA tB'):=by
  intro wh pins s σ H Q I h
  refine isTrue_or (thn (ha pins s σ H _ I h) fun c s1 ⟨H1,I1,q1⟩=>?_)
  cases c with
  | true=>exact ⟨H1,I1,q1⟩
  | false=>exact hb wh pins s1 σ H1 Q I1 q1
theorem pt_not (ha:PT X a tA):PT X (.UnaryOp .Not a pos) (tNot tA):=by
  intro pins s σ H Q I h
  exact isTrue_not (ha pins s σ H (fun c H1=>Q (!c) H1) I h)
def tAndV (ta tb:TE):TE:=fun σ H Q=>ta σ H fun x H1=>∃ c,x=.bl c /\ if c=true then tb σ H1 Q else Q (.bl false) H1
def tNotV (ta:TE):TE:=fun σ H Q=>ta σ H fun x H1=>∃ c,x=.bl c /\ Q (.bl (!c)) H1
theorem pe_one {op} {t:TE} (h:PE X a t):PE X (.BoolOp op [a] pos) t:=fun pins s σ H Q I hw=>BoolOp_one (h pins s σ H Q I hw)
theorem pe_and (ha:PE X a ta) (hb:PE X (.BoolOp .And (b :: rest) pos) tb):PE X (.BoolOp .And (a :: b :: rest) pos) (tAndV ta tb):=by
  intro pins s σ H Q I h
  refine BoolOp_and (thn (ha pins s σ H _ I h) fun v s1 ⟨x,H1,I1,r1,q1⟩=>?_)
  obtain ⟨c,rfl,q1⟩:=q1
  cases r1
  refine wpAny_truthy_bool ?_
  cases c with
  | true=>exact hb pins s1 σ H1 Q I1 q1
  | false=>exact ⟨.bl false,H1,I1,rfl,q1⟩
theorem pe_not (ha:PE X a ta):PE X (.UnaryOp .Not a pos) (tNotV ta):=by
  intro pins s σ H Q I h
  refine UnaryOp_ (thn (ha pins s σ H _ I h) fun v s1 ⟨x,H1,I1,r1,q1⟩=>?_)
  obtain ⟨c,rfl,q1⟩:=q1
  cases r1
  exact not_of (wpAny_truthy_bool ⟨.bl (!c),H1,I1,rfl,q1⟩)
def tIf (t:TT) (ta tb:TE):TE:=fun σ H Q=>t σ H fun c H1=>if c=true then ta σ H1 Q else tb σ H1 Q
theorem pe_ifExp {c:Expr} (hc:PT X c tA) (ha:PE X a ta) (hb:PE X b tb):PE X (.IfExp c a b pos) (tIf tA ta tb):=by
  intro pins s σ H Q I h
  refine wpAny_IfExp (thn (hc pins s σ H _ I h) fun d s1 ⟨H1,I1,q1⟩=>?_)
  cases d with
  | true=>exact ha pins s1 σ H1 Q I1 q1
  | false=>exact hb pins s1 σ H1 Q I1 q1
end
def SqL (K:PySem.W.Frag) (H:Hp) (a:Addr) (xs:List V):Prop :=
  Rd H a (.lst xs) \/
    ∃ (o:Obj) (its:Array Value) (n:Nat),K.lookup a=some o /\ o.cls=.type "list" /\ o.dict=none /\ o.data=.seq its n /\ its.size <= sizeLine /\ Vals xs its.toList
def SqT (K:PySem.W.Frag) (H:Hp) (a:Addr) (xs:List V):Prop :=
  Rd H a (.tup xs) \/
    ∃ (o:Obj) (its:Array Value) (n:Nat),K.lookup a=some o /\ o.cls=.type "tuple" /\ o.data=.seq its n /\ its.size <= sizeLine /\ Vals xs its.toList
def absV:Value -> Option V
  | .none=>some .non
  | .bool b=>some (.bl b)
  | .int i _=>some (.int i)
  | .str x _=>some (.str x)
  | .bytes b _=>some (.byt b)
  | .float b _=>some (.flt b)
  | .ref a=>some (.ref a)
  | .type n=>some (.ty n)
  | _=>none
theorem RelV.abs {x:V} {u:Value} (r:RelV x u):absV u=some x:=by
  cases x with
  | non=>cases r; rfl
  | bl _=>cases r; rfl
  | int _=>obtain ⟨t,rfl⟩:=r; rfl
  | str _=>obtain ⟨t,rfl⟩:=r; rfl
  | byt _=>obtain ⟨t,rfl⟩:=r; rfl
  | flt _=>obtain ⟨t,rfl⟩:=r; rfl
  | ref _=>cases r; rfl
  | ty _=>cases r; rfl
theorem RelV.inj {x y:V} {u:Value} (r:RelV x u) (q:RelV y u):x=y:=Option.some.inj (r.abs.symm.trans q.abs)
theorem Vals.inj:∀ {xs ys:List V} {us:List Value},Vals xs us -> Vals ys us -> xs=ys
  | _,_,_,.nil,.nil=>rfl
  | _,_,_,.cons r t,.cons r' t'=>by rw [r.inj r',Vals.inj t t']
section
variable {X:Cx} {pins:List (Addr × Obj)} {σ:St} {H:Hp} {s:Shared} {a:Addr} {xs ys:List V}
theorem SqL.of {K:PySem.W.Frag} (h:H a=some (.lst xs)):SqL K H a xs:=.inl (.inl h)
theorem SqT.of {K:PySem.W.Frag} (h:H a=some (.tup xs)):SqT K H a xs:=.inl (.inl h)
theorem Inv.list (I:Inv X pins σ H s) (h:SqL X.K H a xs):∃ its:List Value,Vals xs its /\ PlainL s.heap a its.toArray /\ xs.length <= sizeLine:=by
  rcases h with h | ⟨o,its,n,hk,hc,hd,hs,hz,r⟩
  . obtain ⟨z,its,n,r,e⟩:=h.ok I.hok
    exact ⟨its,r,⟨_,n,e,rfl,rfl,rfl⟩,z⟩
  . refine ⟨its.toList,r,⟨o,n,I.kIn a o hk,hc,hd,by simpa using hs⟩,?_⟩
    have e:=r.length
    simp only [Array.length_toList] at e
    omega
theorem Inv.tuple (I:Inv X pins σ H s) (h:SqT X.K H a xs):∃ its:List Value,Vals xs its /\ IsTup s.heap a its.toArray /\ xs.length <= sizeLine:=by
  rcases h with h | ⟨o,its,n,hk,hc,hs,hz,r⟩
  . obtain ⟨z,its,r,p⟩:=h.ok I.hok
    exact ⟨its,r,p,z⟩
  . refine ⟨its.toList,r,⟨o,I.kIn a o hk,hc,n,by simpa using hs⟩,?_⟩
    have e:=r.length
    simp only [Array.length_toList] at e
    omega
theorem Inv.list_inj (I:Inv X pins σ H s) (h:SqL X.K H a xs) (h':SqL X.K H a ys):xs=ys:=by
  obtain ⟨its,r,⟨o,n,e,_,_,d⟩,_⟩:=I.list h
  obtain ⟨its',r',⟨o',n',e',_,_,d'⟩,_⟩:=I.list h'
  rw [e] at e'; cases e'
  rw [d] at d'
  injection d' with d1 _
  have:its=its':=by simpa using congrArg Array.toList d1
  subst this
  exact r.inj r'
end
abbrev Cx.wish (X:Cx) (E:Value -> Shared -> Prop):Cx:={ X with xe:=E }
abbrev Cx.nox (X:Cx):Cx:=X.wish fun _ _=>False
theorem Cx.Ok.wish {X:Cx} (ok:X.Ok) (E:Value -> Shared -> Prop):(X.wish E).Ok :=
  ⟨ok.mod,ok.kind,ok.glob,ok.blt,ok.above,ok.inj,ok.has,ok.cab,ok.hd,ok.frames,ok.stk,ok.exf,ok.bs,ok.bsz,ok.noex,ok.exfs,ok.funs,ok.frf⟩
theorem Cx.Ok.unwish {X:Cx} {E:Value -> Shared -> Prop} (ok:(X.wish E).Ok):X.Ok :=
  ⟨ok.mod,ok.kind,ok.glob,ok.blt,ok.above,ok.inj,ok.has,ok.cab,ok.hd,ok.frames,ok.stk,ok.exf,ok.bs,ok.bsz,ok.noex,ok.exfs,ok.funs,ok.frf⟩
section
variable {X:Cx} {pins:List (Addr × Obj)} {σ:St} {H:Hp} {s:Shared} {E:Value -> Shared -> Prop}
theorem Inv.wish (I:Inv X pins σ H s) (E:Value -> Shared -> Prop):Inv (X.wish E) pins σ H s:=⟨I.ok.wish E,I.os,I.bare,I.base,I.loc,I.cell,I.free,I.freeC,I.pin,I.hok,I.len⟩
theorem Inv.unwish (I:Inv (X.wish E) pins σ H s):Inv X pins σ H s:=⟨I.ok.unwish,I.os,I.bare,I.base,I.loc,I.cell,I.free,I.freeC,I.pin,I.hok,I.len⟩
theorem SP.unwish {D:Ends} {f:Flow} {s':Shared} (h:SP (X.wish E) pins D f s'):SP X pins D f s':=by
  cases f with
  | next=>obtain ⟨σ',H',I,q⟩:=h; exact ⟨σ',H',I.unwish,q⟩
  | brk=>obtain ⟨σ',H',I,q⟩:=h; exact ⟨σ',H',I.unwish,q⟩
  | cont=>obtain ⟨σ',H',I,q⟩:=h; exact ⟨σ',H',I.unwish,q⟩
  | ret u=>obtain ⟨v,σ',H',I,r,q⟩:=h; exact ⟨v,σ',H',I.unwish,r,q⟩
theorem PSs.nox {st:List Stmt} {t:TS} (h:PSs X.nox st t):PSs X st t:=fun pins s σ H D I hw =>
  wpAny_mono (h pins s σ H D (I.wish _) hw) (fun _ _ q=>q.unwish) fun _ _ z=>False.elim z
end
section
variable {X:Cx} {st:Stmt} {rest:List Stmt} {t u:TS} {e:Expr} {te:TE} {pos:Pos}
def tNext:TS:=fun D σ H=>D.nx σ H
def tSeq (t u:TS):TS:=fun D σ H=>t { D with nx:=u D } σ H
theorem pss_nil:PSs X [] tNext:=fun _ _ σ H _ I h=>wpAny_execs_nil ⟨σ,H,I,h⟩
theorem pss_cons (h1:PS X st t) (h2:PSs X rest u):PSs X (st :: rest) (tSeq t u):=by
  intro pins s σ H D I h
  refine wpAny_execs_cons (thn (h1 pins s σ H { D with nx:=u D } I h) fun f s1 q=>?_)
  cases f with
  | next =>
    obtain ⟨σ',H',I',q⟩:=q
    exact h2 pins s1 σ' H' D I' q
  | ret v=>exact q
  | brk=>exact q
  | cont=>exact q
theorem pss_one (h1:PS X st t):PSs X [st] t:=by
  intro pins s σ H D I h
  refine wpAny_execs_cons (thn (h1 pins s σ H D I h) fun f s1 q=>?_)
  cases f with
  | next=>exact wpAny_execs_nil q
  | ret v=>exact q
  | brk=>exact q
  | cont=>exact q
theorem Inv.quiet {pins:List (Addr × Obj)} {σ:St} {H:Hp} {s:Shared} (I:Inv X pins σ H s):interactive X.env=false:=by simp [interactive,I.ok.kind]
def tDrop (te:TE):TS:=fun D σ H=>te σ H fun _ H1=>D.nx σ H1
theorem ps_expr (he:PE X e te) (hs:swapsWith e none pos.line X.env=pure false:=by rfl):PS X (.Expr e pos) (tDrop te):=by
  intro pins s σ H D I h
  exact wpAny_Expr_any (thn (he pins s σ H _ I h) fun v s1 ⟨x,H1,I1,r1,q1⟩=>⟨σ,H1,I1,q1⟩) I.quiet hs
def tRet (te:TE):TS:=fun D σ H=>te σ H D.rt
theorem ps_ret (he:PE X e te):PS X (.Return (some e) pos) (tRet te):=by
  intro pins s σ H D I h
  exact wpAny_Return_some (thn (he pins s σ H _ I h) fun v s1 ⟨x,H1,I1,r1,q1⟩=>⟨x,σ,H1,I1,r1,q1⟩)
def tIfS (c:TT) (t u:TS):TS:=fun D σ H=>c σ H fun b H1=>if b=true then t D σ H1 else u D σ H1
theorem ps_if {c:Expr} {a b:List Stmt} {tc:TT} (hc:PT X c tc) (ha:PSs X a t) (hb:PSs X b u):PS X (.If c a b pos) (tIfS tc t u):=by
  intro pins s σ H D I h
  refine wpAny_If (thn (hc pins s σ H _ I h) fun d s1 ⟨H1,I1,q1⟩=>?_)
  cases d with
  | true=>exact ha pins s1 σ H1 D I1 q1
  | false=>exact hb pins s1 σ H1 D I1 q1
def tNever:TS:=fun _ _ _=>False
theorem ps_never:PS X st tNever:=fun _ _ _ _ _ _ h=>h.elim
end
abbrev TG:=V -> St -> Hp -> (St -> Hp -> Prop) -> Prop
abbrev TGs:=List V -> St -> Hp -> (St -> Hp -> Prop) -> Prop
def PG (X:Cx) (target:Expr) (t:TG):Prop :=
  ∀ (pins:List (Addr × Obj)) (s:Shared) (σ:St) (H:Hp) (v:V) (u:Value) (Q:St -> Hp -> Prop),Inv X pins σ H s -> RelV v u -> t v σ H Q ->
    wpAny (model X.prog X.w) X.A (assign target X.env u) (fun _ s'=>∃ σ' H',Inv X pins σ' H' s' /\ Q σ' H') X.xe s
def PGs (X:Cx) (ts:List Expr) (t:TGs):Prop :=
  ∀ (pins:List (Addr × Obj)) (s:Shared) (σ:St) (H:Hp) (vs:List V) (us:List Value) (Q:St -> Hp -> Prop),Inv X pins σ H s -> Vals vs us -> t vs σ H Q ->
    wpAny (model X.prog X.w) X.A (assignInOrder ((assignEach ts X.env).map (·.2)) us) (fun _ s'=>∃ σ' H',Inv X pins σ' H' s' /\ Q σ' H') X.xe s
abbrev TSet:=V -> V -> V -> Hp -> (Hp -> Prop) -> Prop
def PSet (X:Cx) (t:TSet):Prop :=
  ∀ (pins:List (Addr × Obj)) (s:Shared) (σ:St) (H:Hp) (o i v:V) (ov iv u:Value) (Q:Hp -> Prop),Inv X pins σ H s -> RelV o ov -> RelV i iv -> RelV v u -> t o i v H Q ->
    wpAny (model X.prog X.w) X.A (setItem ov iv u) (fun _ s'=>∃ H',Inv X pins σ H' s' /\ Q H') X.xe s
abbrev TIp:=V -> V -> Hp -> VK -> Prop
def PIp (X:Cx) (op:Operator) (t:TIp):Prop :=
  ∀ (pins:List (Addr × Obj)) (s:Shared) (σ:St) (H:Hp) (x y:V) (v u:Value) (Q:VK),Inv X pins σ H s -> RelV x v -> RelV y u -> t x y H Q ->
    wpAny (model X.prog X.w) X.A (inplaceOp op v u) (EP X pins σ Q) X.xe s
section
variable {X:Cx} {pos:Pos}
def gName (i:Nat):TG:=fun v σ H Q=>Q (σ.set i (some v)) H
theorem pg_name {i:Nat} {x:Str} (hN:X.N.Nodup) (hi:X.N[i]?=some x) (hx:Loc X.env.scope x) (hf:X.fn x=true \/ X.env.scope.names.lookup x=some .local:=by first | exact .inl rfl | exact .inr rfl | assumption):PG X (.Name x pos) (gName i):=by
  intro pins s σ H v u Q I r h
  exact wpAny_assign_Name (store_ok I hN hi hx r (fun s' I'=>⟨_,H,I',h⟩) hf)
def gNil:TGs:=fun vs σ H Q=>vs=[] /\ Q σ H
def gCons (t:TG) (u:TGs):TGs:=fun vs σ H Q=>∃ v r,vs=v :: r /\ t v σ H fun σ' H'=>u r σ' H' Q
theorem pgs_nil:PGs X [] gNil:=by
  intro pins s σ H vs us Q I r h
  obtain ⟨e,h⟩:=h
  subst e
  cases r
  exact assignInOrder_nil ⟨σ,H,I,h⟩
theorem pgs_cons {e:Expr} {es:List Expr} {t:TG} {u:TGs} (h1:PG X e t) (h2:PGs X es u)
    (hs:(assignEach (e :: es) X.env).map (·.2)=assign e X.env :: (assignEach es X.env).map (·.2):=by rfl):PGs X (e :: es) (gCons t u):=by
  intro pins s σ H vs us Q I r h
  obtain ⟨v,vr,e1,h⟩:=h
  subst e1
  cases r with
  | cons r rr =>
    rw [hs]
    refine assignInOrder_cons (thn (h1 pins s σ H _ _ _ I r h) fun _ s1 ⟨σ1,H1,I1,q1⟩=>?_)
    exact h2 pins s1 σ1 H1 _ _ Q I1 rr q1
def gTup (K:PySem.W.Frag) (n:Nat) (t:TGs):TG:=fun v σ H Q=>∃ a xs,v=.ref a /\ SqT K H a xs /\ xs.length=n /\ t xs σ H Q
theorem pg_tup {es:List Expr} {k:Nat} {t:TGs} {n:Nat} (hc:X.calm=true) (h:PGs X es t)
    (hn:(assignEach es X.env).length=n:=by rfl) (hst:(assignEach es X.env).findIdx? (·.1)=none:=by rfl):PG X (.Tuple es k pos) (gTup X.K n t):=by
  intro pins s σ H v u Q I r hw
  obtain ⟨a,xs,e1,hq,hl,hw⟩:=hw
  subst e1
  cases r
  obtain ⟨its,rv,ht,hz⟩:=I.tuple hq
  refine assign_Tuple_tuple (I.ok.hd hc) ht (by simp [hn,<- hl,rv.length]) hst fun h' hx=>?_
  have I1:Inv X pins σ H { s with heap:=h' }:=I.kept (t':=s.toks) fun b o e=>hx b o (Nat.ne_of_lt (Heap.lt_size e)) e
  exact h pins _ σ H xs _ Q I1 (by simpa using rv) hw
def gSub (to ti:TE) (t:TSet):TG:=fun v σ H Q=>to σ H fun o H1=>ti σ H1 fun i H2=>t o i v H2 fun H3=>Q σ H3
theorem pg_sub {o i:Expr} {to ti:TE} {t:TSet} (ho:PE X o to) (hi:PE X i ti) (hs:PSet X t)
    (ha:∀ v,assign (.Subscript o i pos) X.env v=(do
      let ov <- holding [v] (eval o X.env)
      let iv <- holding [v,ov] (eval i X.env)
      standAt pos
      holding [v,ov,iv] (setItem ov iv v)
      release [v,ov,iv] []):=by intro _; rfl):PG X (.Subscript o i pos) (gSub to ti t):=by
  intro pins s σ H v u Q I r h
  rw [ha]
  refine wpAny_bind (wpAny_holding (thn (ho pins s σ H _ I h) fun ov s1 ⟨x,H1,I1,r1,q1⟩=>?_))
  refine wpAny_bind (wpAny_holding (thn (hi pins s1 σ H1 _ I1 q1) fun iv s2 ⟨y,H2,I2,r2,q2⟩=>?_))
  refine wpAny_bind (wpAny_standAt (wpAny_bind (wpAny_holding (thn (hs pins s2 σ H2 x y v ov iv u _ I2 r1 r2 r q2) fun _ s3 ⟨H3,I3,q3⟩=>?_))))
  exact wpAny_release ⟨σ,H3,I3,q3⟩
def tAsg (te:TE) (g:TG):TS:=fun D σ H=>te σ H fun x H1=>g x σ H1 D.nx
theorem ps_asg {tg e:Expr} {te:TE} {g:TG} (he:PE X e te) (hg:PG X tg g) (hs:swapsWithSole [tg] e pos.line X.env=pure false:=by rfl) (hw:swappedStores [tg] e X.env=pure none:=by rfl)
    (h1:(assignEach [tg] X.env).map (·.2)=[assign tg X.env]:=by rfl):PS X (.Assign [tg] e pos) (tAsg te g):=by
  intro pins s σ H D I h
  refine wpAny_Assign_stores (thn (he pins s σ H _ I h) fun v s1 ⟨x,H1,I1,r1,q1⟩=>?_) hs hw
  rw [h1]
  exact thn (hg pins s1 σ H1 x v _ I1 r1 q1) fun _ s2 q=>q
theorem ps_set {i:Nat} {x:Str} {e:Expr} {te:TE} {pos':Pos} (hN:X.N.Nodup) (hi:X.N[i]?=some x) (hx:Loc X.env.scope x) (he:PE X e te) (hs:swapsWith e (some (.Name x pos')) pos.line X.env=pure false:=by rfl) (hf:X.fn x=true \/ X.env.scope.names.lookup x=some .local:=by first | exact .inl rfl | exact .inr rfl | assumption) :
    PS X (.Assign [.Name x pos'] e pos) (tAsg te (gName i)):=by
  intro pins s σ H D I h
  refine wpAny_Assign_Name (thn (he pins s σ H _ I h) fun v s1 ⟨y,H1,I1,r1,q1⟩=>?_) hs
  exact store_ok I1 hN hi hx r1 (fun s2 I2=>⟨_,H1,I2,q1⟩) hf
def tAug (i:Nat) (te:TE) (ti:TIp):TS:=fun D σ H=>∃ x,σ[i]?=some (some x) /\ te σ H fun y H1=>ti x y H1 fun z H2=>D.nx (σ.set i (some z)) H2
theorem ps_aug {i:Nat} {x:Str} {e:Expr} {te:TE} {op:Operator} {ti:TIp} {pos':Pos} (hN:X.N.Nodup) (hi:X.N[i]?=some x) (hx:Loc X.env.scope x) (he:PE X e te) (ho:PIp X op ti) (hf:X.fn x=true \/ X.env.scope.names.lookup x=some .local:=by first | exact .inl rfl | exact .inr rfl | assumption) :
    PS X (.AugAssign (.Name x pos') op e pos) (tAug i te ti):=by
  intro pins s σ H D I h
  obtain ⟨v,e1,h⟩:=h
  obtain ⟨m,hn,hl⟩:=I.loc
  have vis:Vis X.env.scope x:=by rcases hx with k | k; exact .inl k; exact .inr (.inl k)
  obtain ⟨u,r,l⟩:=hl i x v hi e1 vis
  refine wpAny_AugAssign_Name ?_
  have go:wpAny (model X.prog X.w) X.A (eval e X.env) (fun w s₂=>wpAny (model X.prog X.w) X.A (inplaceOp op u w) (fun r s₃=>wpAny (model X.prog X.w) X.A (storeName X.env x r) (fun _=>SP X pins D .next) X.xe s₃) X.xe s₂) X.xe s:=by
    refine thn (he pins s σ H _ I h) fun w s1 ⟨y,H1,I1,r1,q1⟩=>?_
    refine thn (ho pins s1 σ H1 v y u w _ I1 r r1 q1) fun z s2 ⟨zv,H2,I2,r2,q2⟩=>?_
    exact store_ok I2 hN hi hx r2 (fun s3 I3=>⟨_,H2,I3,q2⟩) hf
  rcases l with ⟨hk,hm⟩ | ⟨hk,c,hc,hcell⟩
  . exact wpAny_loadName_local I.ok.kind hk hn hm go
  . rcases hk with hk | hk
    . exact wpAny_loadName_cell I.ok.kind hk hc hcell go
    . rcases hx with k | k
      . have:X.env.scope.names.lookup x=some .free:=hk
        rw [k] at this; cases this
      . have:X.env.scope.names.lookup x=some .free:=hk
        rw [k] at this; cases this
def tAugS (to ti te:TE) (tget:V -> V -> Hp -> VK -> Prop) (tip:TIp) (tset:TSet):TS:=fun D σ H=>to σ H fun o H1=>ti σ H1 fun i H2=>tget o i H2 fun x H3=>te σ H3 fun y H4=>tip x y H4 fun z H5=>tset o i z H5 fun H6=>D.nx σ H6
def PGet (X:Cx) (t:V -> V -> Hp -> VK -> Prop):Prop :=
  ∀ (pins:List (Addr × Obj)) (s:Shared) (σ:St) (H:Hp) (o i:V) (ov iv:Value) (Q:VK),Inv X pins σ H s -> RelV o ov -> RelV i iv -> t o i H Q ->
    wpAny (model X.prog X.w) X.A (getItem ov iv) (EP X pins σ Q) X.xe s
theorem ps_augS {o i e:Expr} {to ti te:TE} {tget:V -> V -> Hp -> VK -> Prop} {tip:TIp} {tset:TSet} {op:Operator} {tpos:Pos} (ho:PE X o to) (hi:PE X i ti) (hg:PGet X tget) (he:PE X e te) (hp:PIp X op tip) (hs:PSet X tset)
    (ha:∀ ov iv new,augStore i ov iv new=(do holding [new,ov,iv] (setItem ov iv new); release [new,ov,iv] []; pure .next):=by intros; rfl):PS X (.AugAssign (.Subscript o i tpos) op e pos) (tAugS to ti te tget tip tset):=by
  intro pins s σ H D I h
  refine wpAny_AugAssign_SubscriptAny (thn (ho pins s σ H _ I h) fun ov s1 ⟨x1,H1,I1,r1,q1⟩=>?_) ha
  refine thn (hi pins s1 σ H1 _ I1 q1) fun iv s2 ⟨x2,H2,I2,r2,q2⟩=>?_
  refine thn (hg pins s2 σ H2 x1 x2 ov iv _ I2 r1 r2 q2) fun old s3 ⟨x3,H3,I3,r3,q3⟩=>?_
  refine thn (he pins s3 σ H3 _ I3 q3) fun v s4 ⟨x4,H4,I4,r4,q4⟩=>?_
  refine thn (hp pins s4 σ H4 x3 x4 old v _ I4 r3 r4 q4) fun new s5 ⟨x5,H5,I5,r5,q5⟩=>?_
  exact thn (hs pins s5 σ H5 x1 x2 x5 ov iv new _ I5 r1 r2 r5 q5) fun _ s6 ⟨H6,I6,q6⟩=>⟨σ,H6,I6,q6⟩
end
section
variable {X:Cx} {pos:Pos}
def tWhile (c:TT) (tb:TS):TS:=fun D σ H=>∃ W:Nat -> St -> Hp -> Prop,(∃ m,W m σ H) /\ ∀ m σ H,W m σ H ->
  c σ H fun b H1=>if b=true then ∃ N:St -> Hp -> Prop,(∀ σ' H',N σ' H' -> ∃ m',m' < m /\ W m' σ' H') /\ tb { D with nx:=N,ct:=N,bk:=D.nx } σ H1 else D.nx σ H1
theorem ps_while {c:Expr} {body:List Stmt} {tc:TT} {tb:TS} (hp:PassesOwn (model X.prog X.w) X.A X.env X.xe) (hc:PT X c tc) (hb:PSs X body tb):PS X (.While c body [] pos) (tWhile tc tb):=by
  intro pins s σ H D I h
  obtain ⟨W,⟨m0,w0⟩,turn⟩:=h
  refine wpAny_While (codeAny_whileLoop (fun n s'=>∃ σ' H',Inv X pins σ' H' s' /\ W n σ' H') ?_ m0 ⟨σ,H,I,w0⟩)
  rintro n s1 ⟨σ1,H1,I1,w1⟩
  refine wpAny_passesOwn hp (thn (hc pins s1 σ1 H1 _ I1 (turn n σ1 H1 w1)) fun b s2 ⟨H2,I2,q2⟩=>?_)
  cases b with
  | true =>
    obtain ⟨N,hN,q2⟩:=q2
    rw [if_pos rfl]
    refine wpAny_passesOwn hp (thn (hb pins s2 σ1 H2 _ I2 q2) fun f s3 q3=>?_)
    cases f with
    | next =>
      obtain ⟨σ3,H3,I3,n3⟩:=q3
      obtain ⟨m',hm,w3⟩:=hN σ3 H3 n3
      exact ⟨m',hm,σ3,H3,I3,w3⟩
    | cont =>
      obtain ⟨σ3,H3,I3,n3⟩:=q3
      obtain ⟨m',hm,w3⟩:=hN σ3 H3 n3
      exact ⟨m',hm,σ3,H3,I3,w3⟩
    | brk=>exact q3
    | ret v=>exact q3
  | false =>
    rw [if_neg Bool.false_ne_true]
    exact wpAny_execs_nil ⟨σ1,H2,I2,q2⟩
end
structure It where
  go:Nat -> Hp -> Prop
  yld:Nat -> Hp -> V -> Hp -> Prop
  stop:Nat -> Hp -> Prop
def FpOk (X:Cx) (pins:List (Addr × Obj)) (H:Hp) (b:Addr):Prop :=
  H b=none /\ b ≠ X.env.locals /\ b ∉ X.fs /\ (b ∈ X.ex \/ X.s₀.heap.objs.size <= b) /\ (∀ x c,X.env.cells.lookup x=some c -> c ≠ b) /\ ∀ p ∈ X.pn ++ pins,p.1 ≠ b
theorem Inv.fpOk {X:Cx} {pins:List (Addr × Obj)} {σ:St} {H H':Hp} {s:Shared} {b:Addr} (I:Inv X pins σ H s) (hb:s.heap.objs.size <= b) (hn:H' b=none):FpOk X pins H' b:=by
  refine ⟨hn,Nat.ne_of_gt (Nat.lt_of_lt_of_le I.lt hb),I.nofs hb,.inr (Nat.le_trans I.sz hb),fun x c e z=>?_,fun p hp z=>?_⟩
  . obtain ⟨v,q⟩:=I.cell x c e
    exact absurd (Nat.lt_of_lt_of_le q.lt (by rw [z]; exact hb)) (Nat.lt_irrefl _)
  . exact absurd (Nat.lt_of_lt_of_le (Heap.lt_size (I.pin p hp).1) (by rw [z]; exact hb)) (Nat.lt_irrefl _)
structure Turn (P:Program) (w:World) (K:PySem.W.Frag) (tg:Expr) (J:It) (fp:List Addr) (it:Addr) (tn:Nat -> Heap -> Prop):Prop where
  mem:it ∈ fp
  obj:∀ i h,tn i h -> ∀ b ∈ fp,∃ o,h.get? b=some o /\ ∀ v,o.data ≠ .cell v
  keep:∀ i h h',tn i h -> (∀ b ∈ fp,∀ o,h.get? b=some o -> h'.get? b=some o) -> tn i h'
  item:∀ (X:Cx),X.prog=P -> X.w=w -> X.K=K -> X.calm=true -> ∀ (i:Nat) (pins:List (Addr × Obj)) (s:Shared) (σ:St) (H:Hp) (E:Value -> Shared -> Prop),Inv X pins σ H s -> (∀ b ∈ fp,FpOk X pins H b) -> tn i s.heap -> J.go i H ->
    wpAny (model P w) X.A (pyNext (.ref it)) (fun r s1=>∃ u,r=some u /\
      wpAny (model P w) X.A (letOwnedTupleGo tg (.ref it) u) (fun _ s2=>∃ x H',Inv X pins σ H' s2 /\ RelV x u /\ J.yld i H x H' /\ tn (i + 1) s2.heap /\ ∀ b ∈ fp,H' b=none) E s1) E s
  done:∀ (X:Cx),X.prog=P -> X.w=w -> X.K=K -> X.calm=true -> ∀ (i:Nat) (pins:List (Addr × Obj)) (s:Shared) (σ:St) (H:Hp) (E:Value -> Shared -> Prop),Inv X pins σ H s -> (∀ b ∈ fp,FpOk X pins H b) -> tn i s.heap -> J.stop i H ->
    wpAny (model P w) X.A (pyNext (.ref it)) (fun r s1=>r=none /\ Inv X pins σ H s1) E s
  self:∀ (A:Around) (i:Nat) (s:Shared) (Q:Value -> Shared -> Prop) (E:Value -> Shared -> Prop),tn i s.heap -> Q (.ref it) s -> wpAny (model P w) A (pyIter (.ref it)) Q E s
abbrev TI:=St -> Hp -> (It -> Hp -> Prop) -> Prop
def PIE (X:Cx) (pins:List (Addr × Obj)) (σ:St) (tg:Expr) (R:It -> Hp -> Prop) (itv:Value) (s2:Shared):Prop :=
  ∃ (it:Addr) (fp:List Addr) (tn:Nat -> Heap -> Prop) (J:It) (H':Hp),itv=.ref it /\ Inv X pins σ H' s2 /\ Turn X.prog X.w X.K tg J fp it tn /\ tn 0 s2.heap /\ (∀ b ∈ fp,FpOk X pins H' b) /\ R J H'
def PI (X:Cx) (tg iter:Expr) (wi:TI):Prop :=
  ∀ (pins:List (Addr × Obj)) (s:Shared) (σ:St) (H:Hp) (R:It -> Hp -> Prop),Inv X pins σ H s -> wi σ H R ->
    wpAny (model X.prog X.w) X.A (eval iter X.env) (fun v s1=>wpAny (model X.prog X.w) X.A (pyIter v) (PIE X pins σ tg R) X.xe s1) X.xe s
theorem go_of {M:Model} {A:Around} {E:Value -> Shared -> Prop} {s:Shared} {tg:Expr} {it:Addr} {u:Value} {o:Obj} {n:String} {vs:Array Value} {Q:Unit -> Shared -> Prop} (ho:s.heap.get? it=some o) (hc:o.cls=.type n) (hd:o.data=.fields vs)
    (hn:["enumerate","zip","dict_itemiterator","dict_reverseitemiterator","odict_iterator","itertools.zip_longest","itertools.pairwise"].contains n=false) (hQ:Q () s):wpAny M A (letOwnedTupleGo tg (.ref it) u) Q E s:=by
  unfold letOwnedTupleGo
  cases tg <;> first
    | exact wpAny_pure hQ
    | (cases u <;> first
        | exact wpAny_pure hQ
        | (refine wpAny_bind (wpAny_load ho ?_)
           rw [hc,hd]
           show wpAny M A (if (["enumerate","zip","dict_itemiterator","dict_reverseitemiterator","odict_iterator","itertools.zip_longest","itertools.pairwise"].contains n && vs[0]? == some (rawInt _))=true then _ else _) Q E s
           rw [if_neg (by intro h; rw [hn,Bool.false_and] at h; cases h)]
           exact wpAny_pure hQ))
def Itl (K:PySem.W.Frag) (a:Addr):It :=
  ⟨fun i H=>∃ xs x,SqL K H a xs /\ xs[i]?=some x,fun i H x H'=>H'=H /\ ∀ xs,SqL K H a xs -> xs[i]?=some x,fun i H=>∃ xs,SqL K H a xs /\ xs.length <= i⟩
def Itr (lo:Int) (n:Nat):It:=⟨fun i _=>i < n,fun i H x H'=>H'=H /\ x=.int (lo + i),fun i _=>n <= i⟩
theorem turn_list {P:Program} {w:World} {K:PySem.W.Frag} {tg:Expr} (a it:Addr):Turn P w K tg (Itl K a) [it] it (fun i h=>h.IsListIter it a i) where
  mem:=by simp
  obj:=fun i h st b hb=>by
    have e:b=it:=by simpa using hb
    subst e
    obtain ⟨o,e,c,d⟩:=st
    exact ⟨o,e,fun v z=>by rw [d] at z; cases z⟩
  keep:=fun i h h' st k=>st.at fun o e=>k it (by simp) o e
  item:=by
    intro X hP hw hK hc i pins s σ H E I hf st hg
    subst hP hw hK
    obtain ⟨xs,x,hq,hx⟩:=hg
    obtain ⟨its,rv,p,hz⟩:=I.list hq
    obtain ⟨u,hu,ru⟩:=rv.get hx
    obtain ⟨f0,f1,f2,f3,f4,f5⟩:=hf it (by simp)
    refine wpAny_pyNext_list_item st p.isList (x:=u) (by simpa using hu) fun h' st' sb=>?_
    have I1:Inv X pins σ H { s with heap:=h' }:=I.turned (t':=s.toks) (fun b o hb e=>(sb.2 b hb).trans e) f0 f1 f3 f4 f5
    obtain ⟨o,e,c,d⟩:=id st'
    exact ⟨u,rfl,go_of (s:={ s with heap:=h' }) e c d (by decide) ⟨x,H,I1,ru,⟨rfl,fun ys hy=>by rw [I.list_inj hy hq]; exact hx⟩,st',fun b hb=>(hf b hb).1⟩⟩
  done:=by
    intro X hP hw hK hc i pins s σ H E I hf st hg
    subst hP hw hK
    obtain ⟨xs,hq,hx⟩:=hg
    obtain ⟨its,rv,p,hz⟩:=I.list hq
    obtain ⟨f0,f1,f2,f3,f4,f5⟩:=hf it (by simp)
    have hl:=rv.length
    exact wpAny_pyNext_list_end (I.ok.hd hc) st p.isList (by simp; omega) fun h' eb=>⟨rfl,I.turned (t':=s.toks) (fun b o hb e=>eb b o hb e) f0 f1 f3 f4 f5⟩
  self:=fun _ _ _ _ _ st h=>wpAny_pyIter_listiter st h
theorem turn_range {P:Program} {w:World} {K:PySem.W.Frag} {tg:Expr} (it:Addr) (lo:Int) (n:Nat):Turn P w K tg (Itr lo n) [it] it (fun i h=>IsRangeIter h it (lo + (i:Nat) * 1) ((n:Int) - (i:Nat)) 1) where
  mem:=by simp
  obj:=fun i h st b hb=>by
    have e:b=it:=by simpa using hb
    subst e
    exact ⟨_,st,fun v z=>by
      have z':Data.fields _=Data.cell v:=z
      cases z'⟩
  keep:=fun i h h' st k=>k it (by simp) _ st
  item:=by
    intro X hP hw hK hc i pins s σ H E I hf st hg
    subst hP hw hK
    obtain ⟨f0,f1,f2,f3,f4,f5⟩:=hf it (by simp)
    have W:=Walks.range (prog:=X.prog) (w:=X.w) (I.ok.hd hc) it lo 1 n
    refine W.item i s _ _ hg st fun v h' tk hv st' kk=>?_
    obtain ⟨t,rfl⟩:=hv
    have I1:Inv X pins σ H { s with heap:=h',toks:=tk }:=I.turned (fun b o hb e=>kk b o (by simpa using hb) e) f0 f1 f3 f4 f5
    refine ⟨_,rfl,go_of (s:={ s with heap:=h',toks:=tk }) (n:="range_iterator") st' rfl rfl (by decide) ⟨.int (lo + i),H,I1,⟨t,?_⟩,⟨rfl,rfl⟩,st',fun b hb=>(hf b hb).1⟩⟩
    rw [Int.mul_one]
  done:=by
    intro X hP hw hK hc i pins s σ H E I hf st hg
    subst hP hw hK
    obtain ⟨f0,f1,f2,f3,f4,f5⟩:=hf it (by simp)
    exact wpAny_pyNext_range_end (I.ok.hd hc) st (by have:n <= i:=hg; omega) fun h' eb=>⟨rfl,I.turned (t':=s.toks) (fun b o hb e=>eb b o hb e) f0 f1 f3 f4 f5⟩
  self:=fun _ _ _ _ _ st h=>wpAny_pyIter_rangeiter st h
section
variable {X:Cx} {tg:Expr}
def iList (K:PySem.W.Frag) (tl:TE):TI:=fun σ H R=>tl σ H fun x H1=>∃ a,x=.ref a /\ (∃ xs,SqL K H1 a xs) /\ R (Itl K a) H1
theorem pi_list {l:Expr} {tl:TE} (hl:PE X l tl):PI X tg l (iList X.K tl):=by
  intro pins s σ H R I h
  refine thn (hl pins s σ H _ I h) fun v s1 ⟨x,H1,I1,r1,q1⟩=>?_
  obtain ⟨a,e,⟨xs,hq⟩,q⟩:=q1
  subst e
  cases r1
  obtain ⟨its,rv,p,hz⟩:=I1.list hq
  refine wpAny_pyIter_list p.isList ?_
  refine ⟨s1.heap.objs.size,[s1.heap.objs.size],_,_,H1,rfl,I1.kept (t':=s1.toks) fun b o e=>Heap.get?_push_of_some _ e,turn_list a _,⟨_,Heap.get?_push_size _ rfl,rfl,rfl⟩,fun b hb=>?_,q⟩
  have e:b=s1.heap.objs.size:=by simpa using hb
  subst e
  exact I1.fpOk (Nat.le_refl _) (I1.hok.fresh (Nat.le_refl _))
theorem range_it {pins:List (Addr × Obj)} {σ:St} {H:Hp} {s:Shared} {R:It -> Hp -> Prop} {E:Value -> Shared -> Prop} {lo hi:Int} {t u v:Tok} {tk:Nat} (I:Inv X pins σ H s) (h1:-(2 ^ 62) <= lo) (h2:lo < 2 ^ 62) (h3:-(2 ^ 62) <= hi) (h4:hi < 2 ^ 62)
    (q:R (Itr lo (hi - lo).toNat) H):wpAny (model X.prog X.w) X.A (pyIter (.ref s.heap.objs.size)) (PIE X pins σ tg R) E { s with heap:=s.heap.push { cls:=.type "range",data:=.fields #[.int lo t,.int hi u,.int 1 v] },toks:=tk }:=by
  refine wpAny_pyIter_range (IsRange.new ..) (small_one h1 h2 h3 h4) ?_
  have I1:Inv X pins σ H { s with heap:=s.heap.push { cls:=.type "range",data:=.fields #[.int lo t,.int hi u,.int 1 v] },toks:=tk }:=I.kept fun b o e=>Heap.get?_push_of_some _ e
  refine ⟨(s.heap.push { cls:=.type "range",data:=.fields #[.int lo t,.int hi u,.int 1 v] }).objs.size,[(s.heap.push { cls:=.type "range",data:=.fields #[.int lo t,.int hi u,.int 1 v] }).objs.size],_,_,H,rfl,
    I1.kept (t':=tk) fun b o e=>Heap.get?_push_of_some _ e,turn_range _ lo (hi - lo).toNat,?_,fun b hb=>?_,q⟩
  . have e1:lo + ((0:Nat):Int) * 1=lo:=by simp
    have e2:(((hi - lo).toNat:Nat):Int) - ((0:Nat):Int)=Builtin.Range.rangeSize lo hi 1:=by rw [rangeSize_one]; split <;> omega
    show IsRangeIter _ _ (lo + ((0:Nat):Int) * 1) ((((hi - lo).toNat:Nat):Int) - ((0:Nat):Int)) 1
    rw [e1,e2]
    exact Heap.get?_push_size _ rfl
  . have e:b=(s.heap.push { cls:=.type "range",data:=.fields #[.int lo t,.int hi u,.int 1 v] }).objs.size:=by simpa using hb
    subst e
    exact I1.fpOk (Nat.le_refl _) (I1.hok.fresh (Nat.le_refl _))
def iRng1 (ta:TA):TI:=fun σ H R=>ta σ H fun vs H1=>∃ j:Int,vs=[.int j] /\ -(2 ^ 62) <= j /\ j < 2 ^ 62 /\ R (Itr 0 j.toNat) H1
def iRng2 (ta:TA):TI:=fun σ H R=>ta σ H fun vs H1=>∃ i j:Int,vs=[.int i,.int j] /\ (-(2 ^ 62) <= i /\ i < 2 ^ 62 /\ -(2 ^ 62) <= j /\ j < 2 ^ 62) /\ R (Itr i (j - i).toNat) H1
theorem pi_range1 {a:Expr} {ta:TA} {p pos:Pos} (hg:Gl X "range") (hm:X.mg "range"=none) (ha:PA X [a] ta) (hs:starEach [a] X.env=[(false,eval a X.env)]:=by rfl):PI X tg (.Call (.Name "range" p) [a] [] pos) (iRng1 ta):=by
  intro pins s σ H R I h
  refine Call_ (ld_blt I hg hm boot_range (PyProof.Rows.callWith_type1 (thn (ha pos pins s σ H _ I h) fun us s1 ⟨vs,H1,I1,r1,q1⟩=>?_) hs rfl))
  obtain ⟨j,e,q1,q2,q⟩:=q1
  subst e
  cases r1 with
  | cons r rr =>
    cases rr
    obtain ⟨t,rfl⟩:=r
    exact call_range_1 (range_it I1 (by omega) (by omega) q1 q2 (by simpa using q))
theorem pi_range2 {a b:Expr} {ta:TA} {p pos:Pos} (hg:Gl X "range") (hm:X.mg "range"=none) (ha:PA X [a,b] ta) (hs:starEach [a,b] X.env=[(false,eval a X.env),(false,eval b X.env)]:=by rfl) (hs2:starEach [b] X.env=[(false,eval b X.env)]:=by rfl) :
    PI X tg (.Call (.Name "range" p) [a,b] [] pos) (iRng2 ta):=by
  intro pins s σ H R I h
  refine Call_ (ld_blt I hg hm boot_range (PyProof.Rows.callWith_type1 (thn (ha pos pins s σ H _ I h) fun us s1 ⟨vs,H1,I1,r1,q1⟩=>?_) (by rw [hs,hs2]) (by rw [hs2]; rfl)))
  obtain ⟨i,j,e,⟨q1,q2,q3,q4⟩,q⟩:=q1
  subst e
  cases r1 with
  | cons r rr =>
    cases rr with
    | cons r' rr =>
      cases rr
      obtain ⟨t,rfl⟩:=r
      obtain ⟨t',rfl⟩:=r'
      exact call_range_2 (range_it I1 q1 q2 q3 q4 q)
def tFor (wi:TI) (g:TG) (tb:TS):TS:=fun D σ H=>wi σ H fun J H1=>∃ W:Nat -> Nat -> St -> Hp -> Prop,(∃ m,W 0 m σ H1) /\ ∀ i m σ H,W i m σ H ->
  (J.stop i H /\ D.nx σ H) \/ (J.go i H /\ ∃ N:St -> Hp -> Prop,(∀ σ' H',N σ' H' -> ∃ m',m' < m /\ W (i + 1) m' σ' H') /\ ∀ x H',J.yld i H x H' -> g x σ H' fun σ2 H2=>tb { D with nx:=N,ct:=N,bk:=D.nx } σ2 H2)
def pinsAt (fp:List Addr) (h:Heap):List (Addr × Obj):=fp.filterMap fun b=>(h.get? b).map fun o=>(b,o)
theorem mem_pinsAt {fp:List Addr} {h:Heap} {b:Addr} {o:Obj} (hb:b ∈ fp) (e:h.get? b=some o):(b,o) ∈ pinsAt fp h:=List.mem_filterMap.mpr ⟨b,hb,by rw [e]; rfl⟩
theorem of_pinsAt {fp:List Addr} {h:Heap} {p:Addr × Obj} (hp:p ∈ pinsAt fp h):p.1 ∈ fp /\ h.get? p.1=some p.2:=by
  obtain ⟨b,hb,e⟩:=List.mem_filterMap.mp hp
  cases q:h.get? b with
  | none=>rw [q] at e; cases e
  | some o =>
    rw [q] at e
    have e':(b,o)=p:=Option.some.inj e
    subst e'
    exact ⟨hb,q⟩
theorem Inv.pinned {pins:List (Addr × Obj)} {σ:St} {H:Hp} {s:Shared} {fp:List Addr} (I:Inv X pins σ H s) (hf:∀ b ∈ fp,FpOk X pins H b) (ho:∀ b ∈ fp,∃ o,s.heap.get? b=some o /\ ∀ v,o.data ≠ .cell v):Inv X (pins ++ pinsAt fp s.heap) σ H s :=
  I.pins_of fun p hp=>(List.mem_append.mp hp).elim (fun z=>I.pin p (List.mem_append_right _ z)) fun z=>by
    obtain ⟨hb,e⟩:=of_pinsAt z
    obtain ⟨f0,f1,f2,_⟩:=hf p.1 hb
    obtain ⟨o,e',d⟩:=ho p.1 hb
    rw [e] at e'; cases e'
    exact ⟨e,f0,f1,f2,d⟩
theorem Inv.unpinned {pins pl:List (Addr × Obj)} {σ:St} {H:Hp} {s:Shared} (I:Inv X (pins ++ pl) σ H s):Inv X pins σ H s:=I.pins_of fun p hp=>I.pin p (List.mem_append_right _ (List.mem_append_left _ hp))
theorem ps_for {iter:Expr} {body:List Stmt} {wi:TI} {g:TG} {tb:TS} {pos:Pos} (hp:PassesOwn (model X.prog X.w) X.A X.env X.xe) (hc:X.calm=true) (hi:PI X tg iter wi) (hg:PG X tg g) (hb:PSs X body tb)
    (hs:∀ x,foldedSetIterable iter X.env x=pure x:=by intro _; rfl):PS X (.For tg iter body [] pos) (tFor wi g tb):=by
  intro pins s σ H D I h
  refine wpAny_For (thn (hi pins s σ H _ I h) fun v s1 h1=>thn h1 fun itv s2 h2=>?_) hs
  obtain ⟨it,fp,tn,J,H2,e,I2,T,st2,f2,W,⟨m0,w0⟩,turn⟩:=h2
  subst e
  have stat:∀ {H':Hp},(∀ b ∈ fp,H' b=none) -> ∀ b ∈ fp,FpOk X pins H' b:=fun hn b hb=>⟨hn b hb,(f2 b hb).2⟩
  refine codeAny_forLoop_any (fun n s'=>∃ i σ' H',Inv X pins σ' H' s' /\ tn i s'.heap /\ (∀ b ∈ fp,H' b=none) /\ W i n σ' H') ?_ m0 ⟨0,σ,H2,I2,st2,fun b hb=>(f2 b hb).1,w0⟩
  rintro n s3 ⟨i,σ3,H3,I3,st3,fr3,w3⟩
  rcases turn i n σ3 H3 w3 with ⟨stop,qn⟩ | ⟨go,N,hN,step⟩
  . refine wpAny_passesOwn hp (thn (T.done X rfl rfl rfl hc i pins s3 σ3 H3 X.xe I3 (stat fr3) st3 stop) fun r s4 ⟨hr,I4⟩=>?_)
    subst hr
    exact wpAny_execs_nil ⟨σ3,H3,I4,qn⟩
  . refine wpAny_passesOwn hp (thn (T.item X rfl rfl rfl hc i pins s3 σ3 H3 X.xe I3 (stat fr3) st3 go) fun r s4 ⟨u,hr,h4⟩=>?_)
    subst hr
    refine wpAny_passesOwn hp (thn h4 fun _ s5 ⟨x,H5,I5,r5,y5,st5,fr5⟩=>?_)
    have I5':=I5.pinned (stat fr5) (T.obj _ _ st5)
    refine wpAny_passesOwn hp (thn (hg _ s5 σ3 H5 x u _ I5' r5 (step x H5 y5)) fun _ s6 ⟨σ6,H6,I6,q6⟩=>?_)
    refine wpAny_passesOwn hp (thn (hb _ s6 σ6 H6 _ I6 q6) fun f s7 q7=>?_)
    have again:∀ {σ7:St} {H7:Hp},Inv X (pins ++ pinsAt fp s5.heap) σ7 H7 s7 -> N σ7 H7 -> ∃ m,m < n /\ ∃ i σ' H',Inv X pins σ' H' s7 /\ tn i s7.heap /\ (∀ b ∈ fp,H' b=none) /\ W i m σ' H':=fun {σ7 H7} I7 n7=>by
      obtain ⟨m',hm,w7⟩:=hN σ7 H7 n7
      refine ⟨m',hm,i + 1,σ7,H7,I7.unpinned,T.keep _ _ _ st5 fun b hb o e=>(I7.pin (b,o) (List.mem_append_right _ (List.mem_append_right _ (mem_pinsAt hb e)))).1,fun b hb=>?_,w7⟩
      obtain ⟨o,e,d⟩:=T.obj _ _ st5 b hb
      exact (I7.pin (b,o) (List.mem_append_right _ (List.mem_append_right _ (mem_pinsAt hb e)))).2.1
    cases f with
    | next=>obtain ⟨σ7,H7,I7,n7⟩:=q7; exact again I7 n7
    | cont=>obtain ⟨σ7,H7,I7,n7⟩:=q7; exact again I7 n7
    | brk=>obtain ⟨σ7,H7,I7,q7⟩:=q7; exact ⟨σ7,H7,I7.unpinned,q7⟩
    | ret v=>obtain ⟨x7,σ7,H7,I7,r7,q7⟩:=q7; exact ⟨x7,σ7,H7,I7.unpinned,r7,q7⟩
end
theorem for_range {lo:Int} {n:Nat} {g:TG} {tb:TS} {D:Ends} {σ:St} {H:Hp} (Pv:Nat -> St -> Hp -> Prop) (h0:Pv 0 σ H)
    (hs:∀ i σ H,i < n -> Pv i σ H -> g (.int (lo + i)) σ H fun σ2 H2=>tb { D with nx:=Pv (i + 1),ct:=Pv (i + 1),bk:=D.nx } σ2 H2) (hd:∀ σ H,Pv n σ H -> D.nx σ H) :
    ∃ W:Nat -> Nat -> St -> Hp -> Prop,(∃ m,W 0 m σ H) /\ ∀ i m σ H,W i m σ H ->
      ((Itr lo n).stop i H /\ D.nx σ H) \/ ((Itr lo n).go i H /\ ∃ N:St -> Hp -> Prop,(∀ σ' H',N σ' H' -> ∃ m',m' < m /\ W (i + 1) m' σ' H') /\ ∀ x H',(Itr lo n).yld i H x H' -> g x σ H' fun σ2 H2=>tb { D with nx:=N,ct:=N,bk:=D.nx } σ2 H2):=by
  refine ⟨fun i m σ H=>m=n - i /\ i <= n /\ Pv i σ H,⟨n,by simp,Nat.zero_le _,h0⟩,?_⟩
  rintro i m σ H ⟨rfl,hi,p⟩
  by_cases hlt:i < n
  . refine .inr ⟨hlt,Pv (i + 1),fun σ' H' p'=>⟨n - (i + 1),by omega,rfl,hlt,p'⟩,fun x H' y=>?_⟩
    obtain ⟨e,y⟩:=y
    subst e y
    exact hs i σ _ hlt p
  . have e:i=n:=by omega
    subst e
    exact .inl ⟨Nat.le_refl _,hd σ H p⟩
theorem while_by {c:TT} {tb:TS} {D:Ends} {σ:St} {H:Hp} (Pv:St -> Hp -> Prop) (μ:St -> Hp -> Nat) (h0:Pv σ H)
    (hs:∀ σ H,Pv σ H -> c σ H fun b H1=>if b=true then tb { D with nx:=fun σ' H'=>Pv σ' H' /\ μ σ' H' < μ σ H,ct:=fun σ' H'=>Pv σ' H' /\ μ σ' H' < μ σ H,bk:=D.nx } σ H1 else D.nx σ H1)
    (mono:∀ σ H Q Q',(∀ b H1,Q b H1 -> Q' b H1) -> c σ H Q -> c σ H Q'):tWhile c tb D σ H:=by
  refine ⟨fun m σ H=>m=μ σ H /\ Pv σ H,⟨_,rfl,h0⟩,?_⟩
  rintro m σ H ⟨rfl,p⟩
  refine mono σ H _ _ (fun b H1 q=>?_) (hs σ H p)
  cases b with
  | true=>exact ⟨_,fun σ' H' ⟨p',l⟩=>⟨_,l,rfl,p'⟩,q⟩
  | false=>exact q
abbrev R2:=V -> V -> Hp -> VK -> Prop
def OpR (X:Cx) (f:Value -> Value -> Sem Value) (r:R2):Prop :=
  ∀ (pins:List (Addr × Obj)) (s:Shared) (σ:St) (H:Hp) (x y:V) (v u:Value) (Q:VK),Inv X pins σ H s -> RelV x v -> RelV y u -> r x y H Q ->
    wpAny (model X.prog X.w) X.A (f v u) (EP X pins σ Q) X.xe s
def UnR (X:Cx) (f:Value -> Sem Value) (r:V -> Hp -> VK -> Prop):Prop :=
  ∀ (pins:List (Addr × Obj)) (s:Shared) (σ:St) (H:Hp) (x:V) (v:Value) (Q:VK),Inv X pins σ H s -> RelV x v -> r x H Q ->
    wpAny (model X.prog X.w) X.A (f v) (EP X pins σ Q) X.xe s
def CallR (X:Cx) (f:Value) (r:List V -> Hp -> VK -> Prop):Prop :=
  ∀ (pins:List (Addr × Obj)) (s:Shared) (σ:St) (H:Hp) (xs:List V) (us:List Value) (Q:VK),Inv X pins σ H s -> Vals xs us -> r xs H Q ->
    wpAny (model X.prog X.w) X.A (call f us) (EP X pins σ Q) X.xe s
def TruR (X:Cx) (r:V -> Hp -> (Bool -> Hp -> Prop) -> Prop):Prop :=
  ∀ (pins:List (Addr × Obj)) (s:Shared) (σ:St) (H:Hp) (x:V) (v:Value) (Q:Bool -> Hp -> Prop),Inv X pins σ H s -> RelV x v -> r x H Q ->
    wpAny (model X.prog X.w) X.A (truthy v) (TP X pins σ Q) X.xe s
def tOp (r:R2) (ta tb:TE):TE:=fun σ H Q=>ta σ H fun x H1=>tb σ H1 fun y H2=>r x y H2 Q
def tUn (r:V -> Hp -> VK -> Prop) (ta:TE):TE:=fun σ H Q=>ta σ H fun x H1=>r x H1 Q
def rI (C:Int -> Int -> Prop) (g:Int -> Int -> V):R2:=fun x y H Q=>∃ i j,x=.int i /\ y=.int j /\ C i j /\ Q (g i j) H
def rI0 (g:Int -> Int -> V):R2:=fun x y H Q=>∃ i j,x=.int i /\ y=.int j /\ Q (g i j) H
def rU (g:Int -> V):V -> Hp -> VK -> Prop:=fun x H Q=>∃ i,x=.int i /\ Q (g i) H
section
variable {X:Cx} {a b c:Expr} {ta tb tc:TE} {pos:Pos}
theorem binT (ha:PE X a ta) (hb:PE X b tb) {pins:List (Addr × Obj)} {s:Shared} {σ:St} {H:Hp} {R:V -> V -> Hp -> Prop} (I:Inv X pins σ H s)
    (h:ta σ H fun x H1=>tb σ H1 fun y H2=>R x y H2) {Q:Value -> Shared -> Prop} {f:Value -> Value -> Sem Value}
    (hf:∀ v u s2 x y H2,Inv X pins σ H2 s2 -> RelV x v -> RelV y u -> R x y H2 -> wpAny (model X.prog X.w) X.A (f v u) Q X.xe s2) :
    wpAny (model X.prog X.w) X.A (eval a X.env) (fun v s₁=>wpAny (model X.prog X.w) X.A (eval b X.env) (fun u s₂=>wpAny (model X.prog X.w) X.A (f v u) Q X.xe s₂) X.xe s₁) X.xe s:=by
  refine thn (ha pins s σ H _ I h) fun v s1 ⟨x,H1,I1,r1,q1⟩=>?_
  refine thn (hb pins s1 σ H1 _ I1 q1) fun u s2 ⟨y,H2,I2,r2,q2⟩=>?_
  exact hf v u s2 x y H2 I2 r1 r2 q2
theorem pe_op {op:Operator} {r:R2} (ho:OpR X (binaryOp op) r) (ha:PE X a ta) (hb:PE X b tb):PE X (.BinOp a op b pos) (tOp r ta tb):=by
  intro pins s σ H Q I h
  exact wpAny_BinOp (binT ha hb I h fun v u s2 x y H2 I2 rx ry q=>ho pins s2 σ H2 x y v u Q I2 rx ry q)
theorem pe_un {op:UnaryOp} {r:V -> Hp -> VK -> Prop} (ho:UnR X (unaryOp op) r) (ha:PE X a ta):PE X (.UnaryOp op a pos) (tUn r ta):=by
  intro pins s σ H Q I h
  exact UnaryOp_ (thn (ha pins s σ H _ I h) fun v s1 ⟨x,H1,I1,r1,q1⟩=>ho pins s1 σ H1 x v Q I1 r1 q1)
theorem opI {f:Value -> Value -> Sem Value} {C:Int -> Int -> Prop} {g:Int -> Int -> Int}
    (rule:∀ (i j:Int) (t u:Tok) (s:Shared) (Q:Value -> Shared -> Prop) (E:Value -> Shared -> Prop),C i j -> Q (.int (g i j) s.toks) { s with toks:=s.toks + 1 } -> wpAny (model X.prog X.w) X.A (f (.int i t) (.int j u)) Q E s) :
    OpR X f (rI C fun i j=>.int (g i j)):=by
  intro pins s σ H x y v u Q I rx ry h
  obtain ⟨i,j,rfl,rfl,hc,q⟩:=h
  obtain ⟨t,rfl⟩:=rx
  obtain ⟨t',rfl⟩:=ry
  exact rule i j t t' s _ _ hc ⟨.int (g i j),H,I.tok _,⟨_,rfl⟩,q⟩
theorem opI0 {f:Value -> Value -> Sem Value} {g:Int -> Int -> Int}
    (rule:∀ (i j:Int) (t u:Tok) (s:Shared) (Q:Value -> Shared -> Prop) (E:Value -> Shared -> Prop),Q (.int (g i j) s.toks) { s with toks:=s.toks + 1 } -> wpAny (model X.prog X.w) X.A (f (.int i t) (.int j u)) Q E s) :
    OpR X f (rI0 fun i j=>.int (g i j)):=by
  intro pins s σ H x y v u Q I rx ry h
  obtain ⟨i,j,rfl,rfl,q⟩:=h
  obtain ⟨t,rfl⟩:=rx
  obtain ⟨t',rfl⟩:=ry
  exact rule i j t t' s _ _ ⟨.int (g i j),H,I.tok _,⟨_,rfl⟩,q⟩
theorem opB0 {f:Value -> Value -> Sem Value} {g:Int -> Int -> Bool}
    (rule:∀ (i j:Int) (t u:Tok) (s:Shared) (Q:Value -> Shared -> Prop) (E:Value -> Shared -> Prop),Q (.bool (g i j)) s -> wpAny (model X.prog X.w) X.A (f (.int i t) (.int j u)) Q E s) :
    OpR X f (rI0 fun i j=>.bl (g i j)):=by
  intro pins s σ H x y v u Q I rx ry h
  obtain ⟨i,j,rfl,rfl,q⟩:=h
  obtain ⟨t,rfl⟩:=rx
  obtain ⟨t',rfl⟩:=ry
  exact rule i j t t' s _ _ ⟨.bl (g i j),H,I,rfl,q⟩
def CDiv (i j:Int):Prop:=0 < j /\ j < 1073741824
def CPow (i j:Int):Prop:=0 <= j /\ j <= 1000000 /\ i.natAbs < 2 ^ 64
def CMul (i j:Int):Prop:=(-(2 ^ 64) < i /\ i < 2 ^ 64) \/ (-(2 ^ 64) < j /\ j < 2 ^ 64)
theorem op_add:OpR X (binaryOp .Add) (rI0 fun i j=>.int (i + j)):=opI0 fun _ _ _ _ _ _ _ q=>add_int q
theorem op_sub:OpR X (binaryOp .Sub) (rI0 fun i j=>.int (i - j)):=opI0 fun _ _ _ _ _ _ _ q=>sub_int q
theorem op_mod:OpR X (binaryOp .Mod) (rI (fun _ j=>0 < j) fun i j=>.int (i % j)):=opI fun i j _ _ _ _ _ hc q=>by
  have h1:(0:Int) < j:=hc
  exact mod_int' (by omega) (by rw [Int.fmod_eq_emod_of_nonneg i (by omega)]; exact q)
theorem op_pow:OpR X (binaryOp .Pow) (rI CPow fun i j=>.int (i ^ j.toNat)):=opI fun _ _ _ _ _ _ _ hc q=>pow_int_small hc.1 hc.2.1 hc.2.2 q
theorem iop_add:OpR X (inplaceOp .Add) (rI0 fun i j=>.int (i + j)):=opI0 fun _ _ _ _ _ _ _ q=>iadd_int q
theorem iop_fdiv:OpR X (inplaceOp .FloorDiv) (rI CDiv fun i j=>.int (i / j)):=opI fun i j _ _ _ _ _ hc q=>by
  have h1:(0:Int) < j:=hc.1
  have h2:j < 1073741824:=hc.2
  exact ifloordiv_int (by omega) (by rw [Int.fdiv_eq_ediv_of_nonneg i (by omega)]; exact q) (.inl (PyProof.noPylong_small (by omega)))
theorem unI {f:Value -> Sem Value} {g:Int -> Int}
    (rule:∀ (i:Int) (t:Tok) (s:Shared) (Q:Value -> Shared -> Prop) (E:Value -> Shared -> Prop),Q (.int (g i) s.toks) { s with toks:=s.toks + 1 } -> wpAny (model X.prog X.w) X.A (f (.int i t)) Q E s) :
    UnR X f (rU fun i=>.int (g i)):=by
  intro pins s σ H x v Q I rx h
  obtain ⟨i,rfl,q⟩:=h
  obtain ⟨t,rfl⟩:=rx
  exact rule i t s _ _ ⟨.int (g i),H,I.tok _,⟨_,rfl⟩,q⟩
theorem un_neg:UnR X (unaryOp .USub) (rU fun i=>.int (-i)):=unI fun _ _ _ _ _ q=>neg_int q
end
def scal:V -> V -> Bool
  | .non,.non=>true | .non,.int _=>true | .int _,.non=>true | .non,.bl _=>true | .bl _,.non=>true | .non,.str _=>true | .str _,.non=>true
  | .int _,.int _=>true | .bl _,.bl _=>true | .str _,.str _=>true | .byt _,.byt _=>true
  | .int _,.str _=>true | .str _,.int _=>true | .bl _,.str _=>true | .str _,.bl _=>true
  | _,_=>false
def rEq:R2:=fun x y H Q=>scal x y=true /\ Q (.bl (decide (x=y))) H
def rNe:R2:=fun x y H Q=>scal x y=true /\ Q (.bl (!decide (x=y))) H
theorem dec_int {i j:Int}:decide (V.int i=V.int j)=(i == j):=by
  rw [Bool.eq_iff_iff]
  simp
theorem dec_bl {i j:Bool}:decide (V.bl i=V.bl j)=(i == j):=by
  rw [Bool.eq_iff_iff]
  simp
theorem dec_str {i j:Str}:decide (V.str i=V.str j)=(i == j):=by
  rw [Bool.eq_iff_iff]
  simp
theorem dec_byt {i j:Array UInt8}:decide (V.byt i=V.byt j)=(i.toList == j.toList):=by
  rw [Bool.eq_iff_iff]
  cases i
  cases j
  simp
section
variable {X:Cx} {a b c:Expr} {ta tb tc:TE} {pos:Pos}
theorem fin_bl {pins:List (Addr × Obj)} {σ:St} {H:Hp} {s:Shared} {Q:VK} {k k':Bool} (I:Inv X pins σ H s) (q:Q (.bl k) H) (e:k=k'):EP X pins σ Q (.bool k') s:=by
  subst e
  exact ⟨.bl k,H,I,rfl,q⟩
theorem op_eq:OpR X (compareOp .Eq) rEq:=by
  intro pins s σ H x y v u Q I rx ry h
  obtain ⟨hs,q⟩:=h
  cases x with
  | non =>
    cases rx
    cases y with
    | non=>cases ry; exact PySem.EqNone.eq_none_none (fin_bl I q (by simp))
    | bl j=>cases ry; exact PySem.EqNone.eq_none_bool (fin_bl I q (by simp))
    | int j=>obtain ⟨t',rfl⟩:=ry; exact PySem.EqNone.eq_none_int (fin_bl I q (by simp))
    | str j=>obtain ⟨t',rfl⟩:=ry; exact PySem.EqNone.eq_none_str (fin_bl I q (by simp))
    | _=>exact absurd (show false=true from hs) Bool.false_ne_true
  | bl i =>
    cases rx
    cases y with
    | non=>cases ry; exact PySem.EqNone.eq_bool_none (fin_bl I q (by simp))
    | bl j=>cases ry; exact eq_bool (fin_bl I q dec_bl)
    | str j=>obtain ⟨t',rfl⟩:=ry; exact PySem.EqMixed.eq_bool_str (fin_bl I q (by simp))
    | _=>exact absurd (show false=true from hs) Bool.false_ne_true
  | int i =>
    obtain ⟨t,rfl⟩:=rx
    cases y with
    | non=>cases ry; exact PySem.EqNone.eq_int_none (fin_bl I q (by simp))
    | int j=>obtain ⟨t',rfl⟩:=ry; exact eq_int (fin_bl I q dec_int)
    | str j=>obtain ⟨t',rfl⟩:=ry; exact PySem.EqMixed.eq_int_str (fin_bl I q (by simp))
    | _=>exact absurd (show false=true from hs) Bool.false_ne_true
  | str i =>
    obtain ⟨t,rfl⟩:=rx
    cases y with
    | non=>cases ry; exact PySem.EqNone.eq_str_none (fin_bl I q (by simp))
    | bl j=>cases ry; exact PySem.EqMixed.eq_str_bool (fin_bl I q (by simp))
    | int j=>obtain ⟨t',rfl⟩:=ry; exact PySem.EqMixed.eq_str_int (fin_bl I q (by simp))
    | str j=>obtain ⟨t',rfl⟩:=ry; exact eq_str (fin_bl I q dec_str)
    | _=>exact absurd (show false=true from hs) Bool.false_ne_true
  | byt i =>
    obtain ⟨t,rfl⟩:=rx
    cases y with
    | byt j=>obtain ⟨t',rfl⟩:=ry; exact PySem.W.eq_bytes (fin_bl I q dec_byt)
    | _=>exact absurd (show false=true from hs) Bool.false_ne_true
  | _=>cases y <;> exact absurd (show false=true from hs) Bool.false_ne_true
theorem op_ne:OpR X (compareOp .NotEq) rNe:=by
  intro pins s σ H x y v u Q I rx ry h
  obtain ⟨hs,q⟩:=h
  cases x with
  | non =>
    cases rx
    cases y with
    | non=>cases ry; exact PySem.EqNone.ne_none_none (fin_bl I q (by simp))
    | bl j=>cases ry; exact PySem.EqNone.ne_none_bool (fin_bl I q (by simp))
    | int j=>obtain ⟨t',rfl⟩:=ry; exact PySem.EqNone.ne_none_int (fin_bl I q (by simp))
    | str j=>obtain ⟨t',rfl⟩:=ry; exact PySem.EqNone.ne_none_str (fin_bl I q (by simp))
    | _=>exact absurd (show false=true from hs) Bool.false_ne_true
  | bl i =>
    cases rx
    cases y with
    | non=>cases ry; exact PySem.EqNone.ne_bool_none (fin_bl I q (by simp))
    | bl j=>cases ry; exact ne_bool (fin_bl I q (congrArg not dec_bl))
    | str j=>obtain ⟨t',rfl⟩:=ry; exact PySem.EqMixed.ne_bool_str (fin_bl I q (by simp))
    | _=>exact absurd (show false=true from hs) Bool.false_ne_true
  | int i =>
    obtain ⟨t,rfl⟩:=rx
    cases y with
    | non=>cases ry; exact PySem.EqNone.ne_int_none (fin_bl I q (by simp))
    | int j=>obtain ⟨t',rfl⟩:=ry; exact ne_int (fin_bl I q (congrArg not dec_int))
    | str j=>obtain ⟨t',rfl⟩:=ry; exact PySem.EqMixed.ne_int_str (fin_bl I q (by simp))
    | _=>exact absurd (show false=true from hs) Bool.false_ne_true
  | str i =>
    obtain ⟨t,rfl⟩:=rx
    cases y with
    | non=>cases ry; exact PySem.EqNone.ne_str_none (fin_bl I q (by simp))
    | bl j=>cases ry; exact PySem.EqMixed.ne_str_bool (fin_bl I q (by simp))
    | int j=>obtain ⟨t',rfl⟩:=ry; exact PySem.EqMixed.ne_str_int (fin_bl I q (by simp))
    | str j=>obtain ⟨t',rfl⟩:=ry; exact ne_str (fin_bl I q (congrArg not dec_str))
    | _=>exact absurd (show false=true from hs) Bool.false_ne_true
  | byt i =>
    obtain ⟨t,rfl⟩:=rx
    cases y with
    | byt j=>obtain ⟨t',rfl⟩:=ry; exact PySem.W.ne_bytes (fin_bl I q (congrArg not dec_byt))
    | _=>exact absurd (show false=true from hs) Bool.false_ne_true
  | _=>cases y <;> exact absurd (show false=true from hs) Bool.false_ne_true
theorem op_lt:OpR X (compareOp .Lt) (rI0 fun i j=>.bl (decide (i < j))):=opB0 fun _ _ _ _ _ _ _ q=>lt_int q
theorem op_le:OpR X (compareOp .LtE) (rI0 fun i j=>.bl (decide (i <= j))):=opB0 fun _ _ _ _ _ _ _ q=>le_int q
theorem op_gt:OpR X (compareOp .Gt) (rI0 fun i j=>.bl (decide (j < i))):=opB0 fun _ _ _ _ _ _ _ q=>gt_int q
theorem op_ge:OpR X (compareOp .GtE) (rI0 fun i j=>.bl (decide (j <= i))):=opB0 fun _ _ _ _ _ _ _ q=>ge_int q
theorem op_notN:OpR X (compareOp .IsNot) (fun x y H Q=>y=.non /\ Q (.bl (!decide (x=.non))) H):=by
  intro pins s σ H x y v u Q I rx ry h
  obtain ⟨rfl,q⟩:=h
  cases ry
  refine isnot_none_gen (fin_bl I q ?_)
  cases x <;> first
    | (cases rx; rfl)
    | (obtain ⟨t,rfl⟩:=rx; rfl)
theorem nomark (b:Expr) {op:CmpOp} (h:op ≠ .In:=by decide) (h2:op ≠ .NotIn:=by decide):behindInMarks op b=false:=by
  have e1:(op == CmpOp.In)=false:=by cases op <;> first | rfl | exact absurd rfl h
  have e2:(op == CmpOp.NotIn)=false:=by cases op <;> first | rfl | exact absurd rfl h2
  cases b <;> simp [behindInMarks,e1,e2]
theorem pe_cmpR {op:CmpOp} {r:R2} (ho:OpR X (compareOp op) r) (ha:PE X a ta) (hb:PE X b tb) (hm:behindInMarks op b=false):PE X (.Compare a [op] [b] pos) (tOp r ta tb):=by
  intro pins s σ H Q I h
  exact wpAny_Compare1 (binT ha hb I h fun v u s2 x y H2 I2 rx ry q=>ho pins s2 σ H2 x y v u Q I2 rx ry q) hm
def tTest (t:TE):TT:=fun σ H Q=>t σ H fun x H'=>∃ k,x=.bl k /\ Q k H'
theorem pt_cmpR {op:CmpOp} {r:R2} (ho:OpR X (compareOp op) r) (ha:PE X a ta) (hb:PE X b tb) (hm:behindInMarks op b=false):PT X (.Compare a [op] [b] pos) (tTest (tOp r ta tb)):=by
  intro pins s σ H Q I h
  refine wpAny_isTrue_Compare1 (thn (ha pins s σ H _ I h) fun v s1 ⟨x,H1,I1,r1,q1⟩=>thn (hb pins s1 σ H1 _ I1 q1) fun u s2 ⟨y,H2,I2,r2,q2⟩ =>
    thn (ho pins s2 σ H2 x y v u _ I2 r1 r2 q2) fun c s3 ⟨z,H3,I3,r3,k,e,q3⟩=>?_) hm
  subst e
  cases r3
  exact wpAny_truthy_bool ⟨H3,I3,q3⟩
def TruV (K:PySem.W.Frag) (x:V) (H:Hp) (k:Bool):Prop :=
  match x with
  | .non=>k=false
  | .bl b=>k=b
  | .int i=>k=(i != 0)
  | .str y=>y.length <= sizeLine /\ k=((y.length:Int) != 0)
  | .byt y=>y.size <= sizeLine /\ k=((y.size:Int) != 0)
  | .ref p=>(∃ xs,SqL K H p xs /\ k = !xs.isEmpty) \/ (∃ xs,SqT K H p xs /\ k = !xs.isEmpty) \/ ∃ kvs,H p=some (.dK kvs) /\ k = !kvs.isEmpty
  | _=>False
theorem isEmpty_kv {κ:Type} {kvs:List (κ × V)} {vs:List (κ × Value)} (r:KV kvs vs):(!vs.isEmpty) = !kvs.isEmpty:=by
  cases r <;> rfl
theorem isEmpty_of {xs:List V} {its:List Value} (r:Vals xs its):(!its.toArray.isEmpty) = !xs.isEmpty:=by
  cases r <;> simp
theorem line63:(sizeLine:Nat) < 2 ^ 63:=by rw [sizeLine_eq]; decide
theorem tru_ok:TruR X (fun x H Q=>∃ k,TruV X.K x H k /\ Q k H):=by
  intro pins s σ H x v Q I rx h
  obtain ⟨k,e,q⟩:=h
  have hl:=line63
  have hs:sizeLine=16777216:=sizeLine_eq
  cases x with
  | non =>
    cases rx
    have e':k=false:=e
    subst e'
    exact truthy_none ⟨H,I,q⟩
  | bl b =>
    cases rx
    have e':k=b:=e
    subst e'
    exact wpAny_truthy_bool ⟨H,I,q⟩
  | int i =>
    obtain ⟨t,rfl⟩:=rx
    have e':k=(i != 0):=e
    subst e'
    exact PySem.P.truthy_int ⟨H,I,q⟩
  | str y =>
    obtain ⟨t,rfl⟩:=rx
    obtain ⟨hy,e'⟩:y.length <= sizeLine /\ k=((y.length:Int) != 0):=e
    subst e'
    exact PySem.P.truthy_str (by omega) ⟨H,I.tok _,q⟩
  | byt y =>
    obtain ⟨t,rfl⟩:=rx
    obtain ⟨hy,e'⟩:y.size <= sizeLine /\ k=((y.size:Int) != 0):=e
    subst e'
    exact PySem.W.truthy_bytes (by omega) ⟨H,I.tok _,q⟩
  | ref p =>
    cases rx
    have e':(∃ xs,SqL X.K H p xs /\ k = !xs.isEmpty) \/ (∃ xs,SqT X.K H p xs /\ k = !xs.isEmpty) \/ ∃ kvs,H p=some (.dK kvs) /\ k = !kvs.isEmpty:=e
    rcases e' with ⟨xs,hx,e'⟩ | ⟨xs,hx,e'⟩ | ⟨kvs,hx,e'⟩
    . subst e'
      obtain ⟨its,r,pl,hz⟩:=I.list hx
      have hlen:=r.length
      exact wpAny_truthy_list pl.isList (by simp only [List.size_toArray]; omega) ⟨H,I.tok _,by rw [isEmpty_of r]; exact q⟩
    . subst e'
      obtain ⟨its,r,pl,hz⟩:=I.tuple hx
      have hlen:=r.length
      exact truthy_tuple pl (by simp only [List.size_toArray]; omega) ⟨H,I.tok _,by rw [isEmpty_of r]; exact q⟩
    . subst e'
      obtain ⟨hz,hS,vs,r,m⟩:kvs.length <= sizeLine /\ (p == sysModules)=false /\ ∃ vs,KV kvs vs /\ s.heap.DictOf (mixKind X.prog X.w) p vs:=I.hok p _ hx
      have hlen:kvs.length=vs.length:=Paired.length r
      exact wpAny_truthy_dict hS m (by omega) ⟨H,I.tok _,by rw [isEmpty_kv r]; exact q⟩
  | _=>exact (show False from e).elim
theorem pt_truth (ha:PE X a ta) (he:∀ whole,isTrue a X.env whole=(do let v <- whole; standAt a.pos; holding [v] (truthy v))) :
    PT X a (fun σ H Q=>ta σ H fun x H'=>∃ k,TruV X.K x H' k /\ Q k H'):=by
  intro pins s σ H Q I h
  exact isTrue_plain (thn (ha pins s σ H _ I h) fun v s1 ⟨x,H1,I1,r1,q1⟩=>tru_ok pins s1 σ H1 x v Q I1 r1 q1) (he _)
theorem vals1 {x:V} {us:List Value} (r:Vals [x] us):∃ u,us=[u] /\ RelV x u:=by
  cases r with
  | cons r1 r2=>cases r2; exact ⟨_,rfl,r1⟩
theorem vals2 {x y:V} {us:List Value} (r:Vals [x,y] us):∃ u w',us=[u,w'] /\ RelV x u /\ RelV y w':=by
  cases r with
  | cons r1 r2 =>
    cases r2 with
    | cons r3 r4=>cases r4; exact ⟨_,_,rfl,r1,r3⟩
end
structure ObjM (h:Heap) (x dx C:Addr) (mA:Str -> Option Value):Prop where
  obj:h.get? x=some (PySem.W.instObj C dx)
  ns:h.Ns1 dx mA
  ne:dx ≠ x
theorem lookIn_ns {h:Heap} {dx:Addr} {mA:Str -> Option Value} (n:h.Ns1 dx mA):∃ od,h.get? dx=some od /\ ∀ name,PySem.W.lookIn name od=some (mA name):=by
  obtain ⟨o,es,ep,ho,hd,hk,_,hm⟩:=n
  refine ⟨o,ho,fun name=>?_⟩
  have e:=hm name
  unfold nsFind findBy at e
  rw [<- Array.find?_toList] at e
  unfold PySem.W.lookIn
  rw [hd]
  dsimp only
  split
  . rename_i y q
    rw [q] at e
    exact congrArg some e
  . rename_i q
    rw [q] at e
    have a:es.toList.any (·.refKey)=false:=by
      rw [List.any_eq_false]
      intro y hy
      obtain ⟨z,t,hkey⟩:=hk y (Array.mem_toList_iff.mp hy)
      simp [DictEntry.refKey,hkey]
    have a':¬ es.toList.any (·.refKey)=true:=by rw [a]; exact Bool.false_ne_true
    rw [if_neg a']
    exact congrArg some e
theorem ObjM.look {h:Heap} {x dx C:Addr} {mA:Str -> Option Value} (I:ObjM h x dx C mA):∃ od,PySem.W.InstAt h x (PySem.W.instObj C dx) C (some od) /\ ∀ name,PySem.W.lookIn name od=some (mA name) :=
  let ⟨od,ho,hl⟩:=lookIn_ns I.ns
  ⟨od,⟨I.obj,rfl,rfl,ho⟩,hl⟩
section
variable {prog:Program} {w:World} {A:Around} {E:Value -> Shared -> Prop} {s:Shared} {K:PySem.W.Frag} {x dx C f:Addr} {mA:Str -> Option Value} {name:Str} {v:Value}
theorem get_map {expr:Bool} {Q:Value -> Shared -> Prop} (X:K.In s.heap) (I:ObjM s.heap x dx C mA) (hg:PySem.W.plainGet K C name=true) (hh:PySem.W.hasDictIn K C=true)
    (ha:PySem.W.findIn K (.ref C) name=some none) (hv:mA name=some v) (hv':PySem.W.handedIn v=true) (h:Q v { s with toks:=s.toks + 1 }) :
    wpAny (model prog w) A (getAttr (.ref x) name expr) Q E s:=by
  obtain ⟨od,J,hl⟩:=I.look
  exact PySem.W.get_value X J (PySem.W.plainGet_of hg).1 (PySem.W.findObj_own hh ha rfl (by rw [hl,hv])) hv' h
theorem get_meth {pl:Sem Bool} {Q:Value × List Value -> Shared -> Prop} (X:K.In s.heap) (I:ObjM s.heap x dx C mA) (hg:PySem.W.plainGet K C name=true)
    (hf:PySem.W.findIn K (.ref C) name=some (some (.ref f))) (ht:PySem.W.isFn K (.ref f)=true) (hv:mA name=none) (h:Q (.ref f,[.ref x]) s) :
    wpAny (model prog w) A (getMethod (.ref x) name pl) Q E s:=by
  obtain ⟨od,J,hl⟩:=I.look
  exact PySem.W.method_fn X J (PySem.W.plainGet_of hg).1 (PySem.W.plainGet_of hg).2 hf (beq_iff_eq.mp ht) (by show (PySem.W.lookIn name od).map (·.isSome)=some false; rw [hl,hv]; rfl) h
theorem set_map {ns:List Str} {Q:Unit -> Shared -> Prop} (X:K.In s.heap) (I:ObjM s.heap x dx C mA)
    (hs:PySem.W.findIn K (.ref C) "__setattr__"=some (some (.builtin "object.__setattr__"))) (hp:PySem.W.plainOver K C=true) (ht:PySem.W.takerIn K C name=some none) (hh:PySem.W.hasDictIn K C=true)
    (hw:PySem.Within mA ns) (hsz:ns.length <= sizeLine)
    (h:∀ h',ObjM h' x dx C (fun y=>if y=name then some v else mA y) -> Heap.SameBut dx s.heap h' -> Q () { s with heap:=h',toks:=s.toks + 2 }) :
    wpAny (model prog w) A (setAttr (.ref x) name v) Q E s:=by
  obtain ⟨od,J,hl⟩:=I.look
  refine PySem.W.set_plain X J hs (PySem.W.osa_open (s:={ s with toks:=s.toks + 1 }) (r:=none) X J hp ht fun b=>?_)
  obtain ⟨cd,hc,hd'⟩:=PySem.W.any_some hh
  have hx:s.heap.get? x=some ⟨.ref C,some dx,.plain,#[]⟩:=I.obj
  refine wpAny_bind (wpAny_pure (wpAny_bind (wpAny_bind (wpAny_loadPart hx (wpAny_bind (PySem.W.Looks.here (s:={ s with toks:=s.toks + 1 }) (PySem.W.looks_clsIn X hc) ?_))))))
  rw [hd']
  refine wpAny_pure (a:=some dx) (wpAny_bind (wpAny_pure (wpAny_bind ?_)))
  refine wpAny_nsSet1 (s:={ s with toks:=s.toks + 1 }) I.ns fun h' hn2 hs2=>?_
  obtain ⟨oD,esD,epD,hoD,hdD,hcD⟩:=hn2.count (PySem.Within.cons name v hw)
  refine wpAny_bind (wpAny_lookBehind hoD (by rw [hdD]; exact pastItsLine_dict (Nat.le_trans hcD (by rw [List.length_cons]; omega))) ?_)
  exact wpAny_pure (h _ ⟨(hs2.2 _ (Ne.symm I.ne)).trans I.obj,hn2,I.ne⟩ hs2)
theorem make_map {R:Result -> Shared -> Prop} {vs:List Value} {kw:List (Str × Value)} (X:K.In s.heap) (hm:PySem.W.makesIn K C=true)
    (hi:PySem.W.findIn K (.ref C) "__init__"=some (some (.ref f))) (hf:PySem.W.typeIn K (.ref f)=some (.type "function"))
    (h:codeAny (model prog w) (A.under (.builtin "type.__call__" ⟨.ref C :: vs,kw⟩)) (.call (.ref f) ⟨.ref (s.heap.objs.size + 1) :: vs,kw⟩) (PySem.W.InitBack (s.heap.objs.size + 1) R)
      { s with heap:=(s.heap.push PySem.W.emptyDict).push (PySem.W.instObj C s.heap.objs.size) }) :
    codeAny (model prog w) A (.call (.ref C) ⟨vs,kw⟩) R s:=by
  obtain ⟨hh,g,d,t,os⟩:=s
  exact PySem.W.make_core (PySem.W.makes_of X hm) (PySem.W.looks_findIn X hi) (fun self=>PySem.W.bind_fn X self hf) (.inl rfl) h
end
def putF (f:Str) (v:V):List (Str × V) -> List (Str × V)
  | []=>[(f,v)]
  | (g,x) :: r=>if g=f then (g,v) :: r else (g,x) :: putF f v r
theorem lookup_putF (f g:Str) (v:V):∀ fs:List (Str × V),(putF f v fs).lookup g=if g=f then some v else fs.lookup g
  | []=>by
    show List.lookup g [(f,v)]=_
    by_cases h:g=f
    . have hb:(g == f)=true:=beq_iff_eq.mpr h
      simp only [List.lookup,hb,if_pos h]
    . have hb:(g == f)=false:=beq_eq_false_iff_ne.mpr h
      simp only [List.lookup,hb,if_neg h]
  | (k,x) :: r=>by
    have ih:=lookup_putF f g v r
    rw [show putF f v ((k,x) :: r)=(if k=f then (k,v) :: r else (k,x) :: putF f v r) from rfl]
    by_cases hk:k=f
    . rw [if_pos hk]
      by_cases h:g=k
      . have hb:(g == k)=true:=beq_iff_eq.mpr h
        simp only [List.lookup,hb,if_pos (h.trans hk)]
      . have hb:(g == k)=false:=beq_eq_false_iff_ne.mpr h
        simp only [List.lookup,hb,if_neg (fun e:g=f=>h (e.trans hk.symm))]
    . rw [if_neg hk]
      by_cases h:g=k
      . have hb:(g == k)=true:=beq_iff_eq.mpr h
        simp only [List.lookup,hb,if_neg (fun e:g=f=>hk (h.symm.trans e))]
      . have hb:(g == k)=false:=beq_eq_false_iff_ne.mpr h
        simp only [List.lookup,hb]
        exact ih
theorem keys_putF (f:Str) (v:V):∀ fs:List (Str × V),f ∈ (putF f v fs).map (·.1) /\ ∀ g,g ∈ fs.map (·.1) -> g ∈ (putF f v fs).map (·.1)
  | []=>⟨by simp [putF],fun g h=>by simp at h⟩
  | (k,x) :: r=>by
    obtain ⟨i1,i2⟩:=keys_putF f v r
    rw [show putF f v ((k,x) :: r)=(if k=f then (k,v) :: r else (k,x) :: putF f v r) from rfl]
    by_cases hk:k=f
    . rw [if_pos hk]
      subst hk
      exact ⟨by simp,fun g h=>by simpa using h⟩
    . rw [if_neg hk]
      refine ⟨?_,fun g h=>?_⟩
      . rw [List.map_cons]
        exact List.mem_cons_of_mem _ i1
      . rw [List.map_cons] at h ⊢
        rcases List.mem_cons.mp h with e | e
        . exact List.mem_cons.mpr (.inl e)
        . exact List.mem_cons_of_mem _ (i2 g e)
theorem length_putF (f:Str) (v:V):∀ fs:List (Str × V),(putF f v fs).length <= fs.length + 1
  | []=>by simp [putF]
  | (k,x) :: r=>by
    have ih:=length_putF f v r
    rw [show putF f v ((k,x) :: r)=(if k=f then (k,v) :: r else (k,x) :: putF f v r) from rfl]
    by_cases hk:k=f
    . rw [if_pos hk,List.length_cons,List.length_cons]; omega
    . rw [if_neg hk,List.length_cons,List.length_cons]; omega
theorem RelO.some_of {v:V} {o:Option Value} (r:RelO (some v) o):∃ u,o=some u /\ RelV v u:=by
  cases o with
  | none=>exact (show False from r).elim
  | some u=>exact ⟨u,rfl,r⟩
theorem RelO.none_of {o:Option Value} (r:RelO none o):o=none:=by
  cases o with
  | none=>rfl
  | some u=>exact (show False from r).elim
theorem handed_of {v:V} {u:Value} (r:RelV v u):PySem.W.handedIn u=true:=by
  cases v with
  | non=>cases (show u=Value.none from r); rfl
  | bl b=>cases (show u=Value.bool b from r); rfl
  | int i=>obtain ⟨t,e⟩:=(show ∃ t,u=Value.int i t from r); cases e; rfl
  | str x=>obtain ⟨t,e⟩:=(show ∃ t,u=Value.str x t from r); cases e; rfl
  | byt b=>obtain ⟨t,e⟩:=(show ∃ t,u=Value.bytes b t from r); cases e; rfl
  | flt b=>obtain ⟨t,e⟩:=(show ∃ t,u=Value.float b t from r); cases e; rfl
  | ref a=>cases (show u=Value.ref a from r); rfl
  | ty n=>cases (show u=Value.type n from r); rfl
section
variable {P:Program} {w:World} {H H':Hp} {h h':Heap} {a C dx:Addr} {fs fs':List (Str × V)}
theorem ins_get (hok:HOk P w H h) (e:H a=some (.ins C dx fs)):∃ mA,ObjM h a dx C mA /\ (∀ f,RelO (fs.lookup f) (mA f)) /\ PySem.Within mA (fs.map (·.1)) /\ fs.length <= 1000 /\ H dx=some (.own a):=by
  obtain ⟨d,z,ne,ob,mA,n,r,q⟩:=(show ObjOk P w H h a (.ins C dx fs) from hok a _ e)
  exact ⟨mA,⟨ob,n,ne⟩,r,q,z,d⟩
end
structure Cls (K:PySem.W.Frag) (C:Addr):Prop where
  pg:PySem.W.plainGet K C Str.empty=true
  hd:PySem.W.hasDictIn K C=true
  po:PySem.W.plainOver K C=true
  sa:PySem.W.findIn K (.ref C) "__setattr__"=some (some (.builtin "object.__setattr__"))
theorem Cls.get {K:PySem.W.Frag} {C:Addr} (c:Cls K C) (f:Str):PySem.W.plainGet K C f=true:=c.pg
def NoAttr (K:PySem.W.Frag) (C:Addr) (f:Str):Prop:=PySem.W.findIn K (.ref C) f=some none
theorem NoAttr.taker {K:PySem.W.Frag} {C:Addr} {f:Str} (n:NoAttr K C f):PySem.W.takerIn K C f=some none:=by
  unfold PySem.W.takerIn
  rw [show PySem.W.findIn K (.ref C) f=some none from n]
  rfl
structure Meth (K:PySem.W.Frag) (C:Addr) (m:Str) (f:Addr):Prop where
  at_:PySem.W.findIn K (.ref C) m=some (some (.ref f))
  fn:PySem.W.isFn K (.ref f)=true
  kp:PySem.W.keepIn K (.ref f)=true
section
variable {X:Cx} {pins:List (Addr × Obj)} {σ:St} {H:Hp} {s:Shared} {a C dx:Addr} {fs:List (Str × V)} {f:Str} {v:V} {A:Around} {E:Value -> Shared -> Prop}
theorem getattr_ok {b:Bool} {Q:Value -> Shared -> Prop} (I:Inv X pins σ H s) (e:H a=some (.ins C dx fs)) (c:Cls X.K C) (n:NoAttr X.K C f) (l:fs.lookup f=some v)
    (h:∀ u s',Inv X pins σ H s' -> RelV v u -> Q u s'):wpAny (model X.prog X.w) A (getAttr (.ref a) f b) Q E s:=by
  obtain ⟨mA,O,r,_,_,_⟩:=ins_get I.hok e
  obtain ⟨u,hu,ru⟩:=RelO.some_of (v:=v) (o:=mA f) (by rw [<- l]; exact r f)
  exact get_map I.kIn O (c.get f) c.hd n hu (handed_of ru) (h u _ (I.tok _) ru)
theorem getmeth_ok {m:Str} {g:Addr} {pl:Sem Bool} {Q:Value × List Value -> Shared -> Prop} (I:Inv X pins σ H s) (e:H a=some (.ins C dx fs)) (c:Cls X.K C) (k:Meth X.K C m g) (l:fs.lookup m=none)
    (h:Q (.ref g,[.ref a]) s):wpAny (model X.prog X.w) A (getMethod (.ref a) m pl) Q E s:=by
  obtain ⟨mA,O,r,_,_,_⟩:=ins_get I.hok e
  have hn:mA m=none:=RelO.none_of (by rw [<- l]; exact r m)
  exact get_meth I.kIn O (c.get m) k.at_ k.fn hn h
theorem setattr_ok {y:V} {u:Value} {Q:Unit -> Shared -> Prop} (I:Inv X pins σ H s) (e:H a=some (.ins C dx fs)) (c:Cls X.K C) (n:NoAttr X.K C f) (hl:fs.length < 1000) (ry:RelV y u)
    (h:∀ s',Inv X pins σ (upd H a (.ins C dx (putF f y fs))) s' -> Q () s'):wpAny (model X.prog X.w) A (setAttr (.ref a) f u) Q E s:=by
  obtain ⟨mA,O,r,wi,_,ho⟩:=ins_get I.hok e
  have hz:(fs.map (·.1)).length <= sizeLine:=by rw [List.length_map,sizeLine_eq]; omega
  refine set_map I.kIn O c.sa c.po n.taker c.hd wi hz fun h' O' sb=>h _ ?_
  have hd:∃ o,h'.get? dx=some o:=let ⟨o,_,_,e',_⟩:=O'.ns; ⟨o,e'⟩
  refine I.write (x:=a) (e:=dx) (by rw [e]; exact tJ) (.inr ho) (fun b q hb z=>(sb.2 b hb).trans z) hd ?_
  refine ⟨by rw [upd_ne O.ne]; exact ho,?_,O.ne,O'.obj,_,O'.ns,fun g=>?_,fun g hg=>?_⟩
  . have:=length_putF f y fs; omega
  . show RelO ((putF f y fs).lookup g) (if g=f then some u else mA g)
    rw [lookup_putF]
    by_cases q:g=f
    . rw [if_pos q,if_pos q]; exact ry
    . rw [if_neg q,if_neg q]; exact r g
  . by_cases q:g=f
    . rw [q]; exact (keys_putF f y fs).1
    . refine (keys_putF f y fs).2 g (wi g fun z=>hg ?_)
      show (if g=f then some u else mA g)=none
      rw [if_neg q]; exact z
theorem Inv.made (I:Inv X pins σ H s):Inv X pins σ (upd (upd H s.heap.objs.size (.own (s.heap.objs.size + 1))) (s.heap.objs.size + 1) (.ins C s.heap.objs.size []))
    { s with heap:=(s.heap.push PySem.W.emptyDict).push (PySem.W.instObj C s.heap.objs.size) }:=by
  have e1:(s.heap.push PySem.W.emptyDict).get? s.heap.objs.size=some PySem.W.emptyDict:=Heap.get?_push_size s.heap rfl
  have e2:((s.heap.push PySem.W.emptyDict).push (PySem.W.instObj C s.heap.objs.size)).get? (s.heap.objs.size + 1)=some (PySem.W.instObj C s.heap.objs.size):=by
    have:=Heap.get?_push_size (s.heap.push PySem.W.emptyDict) (o:=PySem.W.instObj C s.heap.objs.size) rfl
    rwa [Heap.size_push] at this
  have e3:(s.heap.push PySem.W.emptyDict).Ns s.heap.objs.size (fun _=>none):=⟨PySem.W.emptyDict,#[],_,e1,rfl,(fun e he=>absurd he (by simp)),fun _=>rfl⟩
  have I1:=I.laid (a:=s.heap.objs.size) (o:=.own (s.heap.objs.size + 1)) (h':=s.heap.push PySem.W.emptyDict) (t':=s.toks) (fun b u q=>Heap.get?_push_of_some _ q) (Nat.le_refl _) ⟨_,e1⟩
  refine I1.laid (a:=s.heap.objs.size + 1) (o:=.ins C s.heap.objs.size []) (t':=s.toks) (fun b u q=>Heap.get?_push_of_some _ q) (Nat.le_of_eq (Heap.size_push _ _)) ?_
  have ne:s.heap.objs.size ≠ s.heap.objs.size + 1:=Nat.ne_of_lt (Nat.lt_succ_self _)
  refine ⟨by rw [upd_ne ne,upd_same],Nat.zero_le _,ne,e2,fun _=>none,(Heap.Ns1.of_empty e3).at fun o q=>Heap.get?_push_of_some _ q,fun _=>tJ,fun y hy=>absurd rfl hy⟩
theorem attr_of {prog:Program} {w:World} {env:Env} {e:Expr} {f:Str} {pos:Pos} {s:Shared} {Q:Value -> Shared -> Prop} (hb:attributeBase e f env (eval e env)=eval e env)
    (h:wpAny (model prog w) A (eval e env) (fun o s₁=>wpAny (model prog w) A (getAttr o f true) Q E s₁) E s):wpAny (model prog w) A (eval (.Attribute e f pos) env) Q E s :=
  Attribute_any_ h (by rw [arm_eval_Attribute,hb])
end
def tFld (K:PySem.W.Frag) (ta:TE) (f:Str):TE:=fun σ H Q=>ta σ H fun x H1=>∃ a C dx fs v,x=.ref a /\ H1 a=some (.ins C dx fs) /\ Cls K C /\ NoAttr K C f /\ fs.lookup f=some v /\ Q v H1
def sFld (K:PySem.W.Frag) (ta tv:TE) (f:Str):TS:=fun D σ H=>tv σ H fun y H1=>ta σ H1 fun x H2=>∃ a C dx fs,x=.ref a /\ H2 a=some (.ins C dx fs) /\ Cls K C /\ NoAttr K C f /\ fs.length < 1000 /\
  D.nx σ (upd H2 a (.ins C dx (putF f y fs)))
section
variable {X:Cx} {o e value:Expr} {f:Str} {pos pos' tpos:Pos} {ta tv:TE}
theorem pe_fld (he:PE X e ta) (hb:attributeBase e f X.env (eval e X.env)=eval e X.env):PE X (.Attribute e f pos) (tFld X.K ta f):=by
  intro pins s σ H Q I h
  refine attr_of hb (thn (he pins s σ H _ I h) fun u s1 ⟨x,H1,I1,rx,a,C,dx,fs,v,ex,ea,c,n,l,q⟩=>?_)
  subst ex
  obtain rfl:u=Value.ref a:=rx
  exact getattr_ok I1 ea c n l fun u' s2 I2 ru=>⟨v,H1,I2,ru,q⟩
theorem ps_fld (ha:PE X o ta) (hv:PE X value tv) (hs:swapsWith value (some (.Attribute o f pos')) pos.line X.env=pure false):PS X (.Assign [.Attribute o f pos'] value pos) (sFld X.K ta tv f):=by
  intro pins s σ H D I h
  refine plainObj_wpAny_Assign_Attribute (thn (hv pins s σ H _ I h) fun u s1 ⟨y,H1,I1,ry,q⟩=>thn (ha pins s1 σ H1 _ I1 q) fun ov s2 ⟨x,H2,I2,rx,a,C,dx,fs,ex,ea,c,n,l,q2⟩=>?_) hs
  subst ex
  obtain rfl:ov=Value.ref a:=rx
  exact setattr_ok I2 ea c n l ry fun s3 I3=>⟨σ,_,I3,q2⟩
end
section
variable {X:Cx} {pins:List (Addr × Obj)} {σ:St} {H:Hp} {s:Shared} {A:Around} {E:Value -> Shared -> Prop} {Q:Value -> Shared -> Prop} {c:Value} {b:Bool}
inductive TyOf (K:PySem.W.Frag) (H:Hp):V -> Value -> Prop where
  | non:TyOf K H .non (.type "NoneType")
  | bl (x:Bool):TyOf K H (.bl x) (.type "bool")
  | int (i:Int):TyOf K H (.int i) (.type "int")
  | str (x:Str):TyOf K H (.str x) (.type "str")
  | flt (x:UInt64):TyOf K H (.flt x) (.type "float")
  | lst {a:Addr} {xs:List V} (e:H a=some (.lst xs)):TyOf K H (.ref a) (.type "list")
  | frz {a:Addr} {o:Obj} {xs:List V} (e:H a=some (.frz o (.lst xs))):TyOf K H (.ref a) (.type "list")
  | tup {a:Addr} {xs:List V} (e:H a=some (.tup xs)):TyOf K H (.ref a) (.type "tuple")
  | dK {a:Addr} {kvs:List (Key × V)} (e:H a=some (.dK kvs)):TyOf K H (.ref a) (.type "dict")
  | dT {a:Addr} {kvs:List (List Key × V)} (e:H a=some (.dT kvs)):TyOf K H (.ref a) (.type "dict")
  | ins {a C dx:Addr} {fs:List (Str × V)} (e:H a=some (.ins C dx fs)) (cl:Cls K C) (ha:PySem.W.findIn K (.ref C) "__class__"=some (some (.builtin "object.__class__")))
      (hn:PySem.W.specialIn K (.builtin "object.__class__") "__get__"=some (some (.builtin "getset_descriptor.__get__"))) (htk:PySem.W.takesIn K (.builtin "object.__class__")=some true)
      (hm:PySem.W.mroIn K C (.type "object")=some true):TyOf K H (.ref a) (.ref C)
theorem isinst_ok {x:V} {u t:Value} (I:Inv X pins σ H s) (rx:RelV x u) (ty:TyOf X.K H x t) (e:PySem.W.kitOne X.K t c=some b) (h:∀ tk,Q (.bool b) { s with toks:=tk }) :
    wpAny (model X.prog X.w) A (call (.builtin "isinstance") [u,c]) Q E s:=by
  cases ty with
  | non=>cases (show u=Value.none from rx); exact PySem.W.kia_one PySem.W.kitx_none I.kIn tJ e (fun z=>nomatch z) h
  | bl y=>cases (show u=Value.bool y from rx); exact PySem.W.kia_one PySem.W.kitx_bool I.kIn tJ e (fun z=>nomatch z) h
  | int i=>obtain ⟨t,q⟩:=(show ∃ t,u=Value.int i t from rx); cases q; exact PySem.W.kia_one PySem.W.kitx_int I.kIn tJ e (fun z=>nomatch z) h
  | str y=>obtain ⟨t,q⟩:=(show ∃ t,u=Value.str y t from rx); cases q; exact PySem.W.kia_one PySem.W.kitx_str I.kIn tJ e (fun z=>nomatch z) h
  | flt y=>obtain ⟨t,q⟩:=(show ∃ t,u=Value.float y t from rx); cases q; exact PySem.W.kia_one PySem.W.kitx_float I.kIn tJ e (fun z=>nomatch z) h
  | @lst a xs ea =>
    cases (show u=Value.ref a from rx)
    obtain ⟨_,_,n,_,h1⟩:=(show ObjOk X.prog X.w H s.heap a (.lst xs) from I.hok a _ ea)
    exact PySem.W.kia_one PySem.W.kitx_list I.kIn ⟨_,h1,rfl⟩ e (fun z=>nomatch z) h
  | @frz a ob xs ea =>
    cases (show u=Value.ref a from rx)
    obtain ⟨_,_,_,n,_,h1⟩:=(show ObjOk X.prog X.w H s.heap a (.frz ob (.lst xs)) from I.hok a _ ea)
    exact PySem.W.kia_one PySem.W.kitx_list I.kIn ⟨_,h1,rfl⟩ e (fun z=>nomatch z) h
  | @tup a xs ea =>
    cases (show u=Value.ref a from rx)
    obtain ⟨_,_,_,p⟩:=(show ObjOk X.prog X.w H s.heap a (.tup xs) from I.hok a _ ea)
    obtain ⟨o,h1,h2,_⟩:=p
    exact PySem.W.kia_one PySem.W.kitx_tuple I.kIn ⟨o,h1,h2⟩ e (fun z=>nomatch z) h
  | @dK a kvs ea =>
    cases (show u=Value.ref a from rx)
    obtain ⟨_,_,vs,_,p⟩:=(show ObjOk X.prog X.w H s.heap a (.dK kvs) from I.hok a _ ea)
    obtain ⟨o,es,ep,h1,h2,_⟩:=p
    exact PySem.W.kia_one PySem.W.kitx_dict I.kIn ⟨o,h1,h2.1⟩ e (fun z=>nomatch z) h
  | @dT a kvs ea =>
    cases (show u=Value.ref a from rx)
    obtain ⟨_,_,xs,_,o,es,ep,h1,h2,_⟩:=(show ObjOk X.prog X.w H s.heap a (.dT kvs) from I.hok a _ ea)
    exact PySem.W.kia_one PySem.W.kitx_dict I.kIn ⟨o,h1,h2.1⟩ e (fun z=>nomatch z) h
  | @ins a C dx fs ea cl ha hn htk hm =>
    cases (show u=Value.ref a from rx)
    obtain ⟨mA,O,_⟩:=ins_get I.hok ea
    obtain ⟨od,J,_⟩:=O.look
    exact PySem.W.kia_one (PySem.W.kitx_own (cl.get _) cl.hd ha hn htk hm) I.kIn J e (fun z=>nomatch z) h
end
structure Room (k:Nat) (A:Around):Prop where
  hd:A.handled=none
  dp:A.depth + 3 * k + 5 < recursionLimit
  un:A.units + 16 * k + 200 < cLine
theorem Room.mono {j k:Nat} {A:Around} (r:Room k A) (h:j <= k):Room j A:=⟨r.hd,by have:=r.dp; omega,by have:=r.un; omega⟩
theorem Room.deeper {k:Nat} {A:Around} (r:Room (k + 1) A) (env:Env):Room k (A.deeper env) :=
  ⟨r.hd,by have:=r.dp; show A.depth + 1 + 3 * k + 5 < _; omega,by have:=r.un; show A.units + 3 + 16 * k + 200 < _; omega⟩
theorem make_depth {A:Around} {C:Addr} {us:List Value} {kw:List (Str × Value)}:(A.under (.builtin "type.__call__" ⟨.ref C :: us,kw⟩)).depth=A.depth + 1:=by
  first | rfl | simp [Around.under,Code.weight,Code.isCreation,Code.isGuard,Code.isCaller,Code.frames,Code.isFrame,guardIds]
theorem make_units {A:Around} {C:Addr} {us:List Value} {kw:List (Str × Value)}:(A.under (.builtin "type.__call__" ⟨.ref C :: us,kw⟩)).units=A.units + 1:=by
  first | rfl | simp [Around.under,Code.cUnits,Code.frames,Code.isFrame]
theorem Room.make {k:Nat} {A:Around} (r:Room (k + 1) A) (C:Addr) (us:List Value) (kw:List (Str × Value)):Room k (A.under (.builtin "type.__call__" ⟨.ref C :: us,kw⟩)) :=
  ⟨r.hd,by have:=r.dp; rw [make_depth]; omega,by have:=r.un; rw [make_units]; omega⟩
theorem Room.depth {k:Nat} {A:Around} (r:Room k A):A.depth < recursionLimit:=by have:=r.dp; omega
theorem Room.units {k:Nat} {A:Around} (r:Room k A):A.units + 64 < cLine:=by have:=r.un; omega
def tNil:TA:=fun _ H Q=>Q [] H
def tCons (ta:TE) (tr:TA):TA:=fun σ H Q=>ta σ H fun x H1=>tr σ H1 fun xs H2=>Q (x :: xs) H2
section
variable {X:Cx} {e:Expr} {es:List Expr} {te:TE} {t:TA} {pos:Pos}
theorem pa_nil:PA X [] tNil:=fun _ _ _ _ H Q I h=>Calls.spliced_nil ⟨[],H,I,.nil,h⟩
theorem pa_cons (ha:PE X e te) (hr:PA X es t) (hs:starEach (e :: es) X.env=(false,eval e X.env) :: starEach es X.env:=by rfl):PA X (e :: es) (tCons te t):=by
  intro pos pins s σ H Q I h
  rw [hs]
  show wpAny _ _ (spliced ((false,eval e X.env) :: backTo pos (starEach es X.env))) _ _ s
  refine Calls.spliced_cons (thn (ha pins s σ H _ I h) fun u s1 ⟨x,H1,I1,r1,q1⟩=>?_)
  exact thn (hr pos pins s1 σ H1 _ I1 q1) fun us s2 ⟨xs,H2,I2,r2,q2⟩=>⟨x :: xs,H2,I2,.cons r1 r2,q2⟩
def tTup (t:TA):TE:=fun σ H Q=>t σ H fun xs H1=>xs.length <= sizeLine /\ ∀ p,H1 p=none -> Q (.ref p) (upd H1 p (.tup xs))
def tLst (t:TA):TE:=fun σ H Q=>t σ H fun xs H1=>xs.length <= sizeLine /\ ∀ p,H1 p=none -> Q (.ref p) (upd H1 p (.lst xs))
theorem pe_tup {x1} (h:PA X es t):PE X (.Tuple es x1 pos) (tTup t):=by
  intro pins s σ H Q I hq
  refine wpAny_Tuple_spliced (thn (h pos pins s σ H _ I hq) fun us s1 ⟨xs,H1,I1,r,z,q⟩=>⟨by rw [<- r.length]; exact z,?_⟩)
  have hf:H1 s1.heap.objs.size=none:=I1.hok.fresh (Nat.le_refl _)
  refine ⟨.ref s1.heap.objs.size,upd H1 s1.heap.objs.size (.tup xs),I1.laid (t':=s1.toks) (fun b u e=>Heap.get?_push_of_some _ e) (Nat.le_refl _) ?_,rfl,q _ hf⟩
  exact ⟨z,us,r,⟨_,Heap.get?_push_size _ rfl,rfl,_,rfl⟩⟩
theorem pe_lst (h:PA X es t):PE X (.List es pos) (tLst t):=by
  intro pins s σ H Q I hq
  refine wpAny_List_spliced (thn (h pos pins s σ H _ I hq) fun us s1 ⟨xs,H1,I1,r,z,q⟩=>⟨by rw [<- r.length]; exact z,?_⟩)
  have hf:H1 s1.heap.objs.size=none:=I1.hok.fresh (Nat.le_refl _)
  refine ⟨.ref s1.heap.objs.size,upd H1 s1.heap.objs.size (.lst xs),I1.laid (t':=s1.toks) (fun b u e=>Heap.get?_push_of_some _ e) (Nat.le_refl _) ?_,rfl,q _ hf⟩
  exact ⟨z,us,0,r,Heap.get?_push_size _ rfl⟩
end
abbrev Sp:=List V -> Hp -> VK -> XK -> Prop
abbrev CXT:=List Env -> Hp -> Shared -> XK -> Value -> Shared -> Prop
structure Env0 (P:Program) (w:World) (K:PySem.W.Frag) (mg:Str -> Option Value) (base:Heap) (A:Around) (outer:List Env) (s:Shared) (H:Hp):Prop where
  frames:A.frames=some outer
  mod:Mod K mg base
  bs:∀ b o,base.get? b=some o -> s.heap.get? b=some o /\ H b=none
  bsz:base.objs.size <= s.heap.objs.size
  funs:s.heap.FunFrames base outer
  frf:∀ b ∈ frs outer,H b=none
  hok:HOk P w H s.heap
  bare:AllBare s.gens
def CE (outer:List Env) (P:Program) (w:World) (H:Hp) (s:Shared) (Q:VK) (u:Value) (s':Shared):Prop :=
  ∃ v H',s'.os=s.os /\ AllBare s'.gens /\ Un (frs outer) [] H H' s.heap s'.heap /\ HOk P w H' s'.heap /\ RelV v u /\ Q v H'
def CR (CX:CXT) (outer:List Env) (P:Program) (w:World) (H:Hp) (s:Shared) (Q:VK) (E:XK) (r:Result) (s':Shared):Prop :=
  match r with
  | .ok (.ret u)=>CE outer P w H s Q u s'
  | .ok _=>False
  | .error e=>CX outer H s E e s'
structure FnOk (P:Program) (w:World) (K:PySem.W.Frag) (mg:Str -> Option Value) (base:Heap) (CX:CXT) (k:Nat) (f:Addr) (fd:FuncData) (ps:List Str) (sp:Sp):Prop where
  len:∀ vs H Q E,sp vs H Q E -> vs.length=ps.length
  run:∀ (A:Around) (outer:List Env) (s:Shared) (H:Hp) (args:Args) (us:List Value) (vs:List V) (Q:VK) (E:XK),Room k A -> Env0 P w K mg base A outer s H -> BindsTo s fd args (ps.zip us) -> Vals vs us -> sp vs H Q E ->
    codeAny (model P w) A (.call (.ref f) args) (CR CX outer P w H s Q E) s
theorem FnOk.mono {P:Program} {w:World} {K:PySem.W.Frag} {mg:Str -> Option Value} {base:Heap} {CX:CXT} {j k:Nat} {f:Addr} {fd:FuncData} {ps:List Str} {sp:Sp} (F:FnOk P w K mg base CX j f fd ps sp) (h:j <= k) :
    FnOk P w K mg base CX k f fd ps sp:=⟨F.len,fun A outer s H args us vs Q E hr=>F.run A outer s H args us vs Q E (hr.mono h)⟩
theorem FnOk.imp {P:Program} {w:World} {K:PySem.W.Frag} {mg:Str -> Option Value} {base:Heap} {CX:CXT} {k:Nat} {f:Addr} {fd:FuncData} {ps:List Str} {sp sp':Sp} (F:FnOk P w K mg base CX k f fd ps sp)
    (h:∀ vs H Q E,sp' vs H Q E -> sp vs H Q E):FnOk P w K mg base CX k f fd ps sp' :=
  ⟨fun vs H Q E q=>F.len vs H Q E (h _ _ _ _ q),fun A outer s H args us vs Q E hr he hb hv hs=>F.run A outer s H args us vs Q E hr he hb hv (h _ _ _ _ hs)⟩
theorem Env0.make {P:Program} {w:World} {K:PySem.W.Frag} {mg:Str -> Option Value} {base:Heap} {A:Around} {outer:List Env} {s:Shared} {H:Hp} (e:Env0 P w K mg base A outer s H) (C:Addr) (us:List Value) (kw:List (Str × Value)) :
    Env0 P w K mg base (A.under (.builtin "type.__call__" ⟨.ref C :: us,kw⟩)) outer s H:=⟨by first | exact e.frames | (simpa [Around.under,Code.envs,Code.isFrame,pushEnvs] using e.frames),e.mod,e.bs,e.bsz,e.funs,e.frf,e.hok,e.bare⟩
section
variable {X:Cx} {pins:List (Addr × Obj)} {σ:St} {H:Hp} {s s':Shared}
theorem Inv.env0 (I:Inv X pins σ H s):Env0 X.prog X.w X.K X.mg X.base X.A X.stack s H :=
  ⟨I.ok.frames,I.ok.mod,I.bs,Nat.le_trans I.ok.bsz I.sz,I.stack,I.stkFree,I.hok,I.bare⟩
theorem Inv.after {Q:VK} {u:Value} (I:Inv X pins σ H s) (h:CE X.stack X.prog X.w H s Q u s'):EP X pins σ Q u s':=by
  obtain ⟨v,H',os,bare,un,hok,r,q⟩:=h
  obtain ⟨hh,g,d,t,os'⟩:=s'
  obtain rfl:os'=s.os:=os
  exact ⟨v,H',I.call (h':=hh) (g':=g) (d':=d) (t':=t) (ch:=[]) un hok bare (fun b z=>absurd z (by simp)),r,q⟩
end
def tCall (sp:Sp) (dvs:List V) (E:XK) (t:TA):TE:=fun σ H Q=>t σ H fun vs H1=>sp (vs ++ dvs) H1 Q E
def tMeth (C:Addr) (m:Str) (sp:Sp) (dvs:List V) (E:XK) (ta:TE) (t:TA):TE:=fun σ H Q=>ta σ H fun x H1=>∃ a dx fs,x=.ref a /\ H1 a=some (.ins C dx fs) /\ fs.lookup m=none /\
  t σ H1 fun vs H2=>sp (x :: (vs ++ dvs)) H2 Q E
def tMake (C:Addr) (sp:Sp) (dvs:List V) (E:XK) (t:TA):TE:=fun σ H Q=>t σ H fun vs H1=>∀ x dx,H1 x=none -> H1 dx=none -> dx ≠ x ->
  sp (.ref x :: (vs ++ dvs)) (upd (upd H1 dx (.own x)) x (.ins C dx [])) (fun v H2=>v=.non /\ Q (.ref x) H2) E
def Binds (K:PySem.W.Frag) (fd:FuncData) (ps:List Str) (ds:List Value):Prop :=
  ∀ (s:Shared) (us:List Value),K.In s.heap -> (us ++ ds).length=ps.length -> BindsTo s fd ⟨us,[]⟩ (ps.zip (us ++ ds))
theorem Binds.all {K:PySem.W.Frag} {fd:FuncData} {ps:List Str} (h:∀ us:List Value,us.length=ps.length -> bindArgs fd ⟨us,[]⟩=pure (ps.zip us)):Binds K fd ps []:=fun s us _ hl=>by
  rw [List.append_nil] at hl ⊢
  exact .of_eq (h us hl)
def Passes (CX:CXT) (X:Cx) (E:XK):Prop:=∀ (pins:List (Addr × Obj)) (σ:St) (H:Hp) (s:Shared) (e:Value) (s':Shared),Inv X pins σ H s -> CX X.stack H s E e s' -> X.xe e s'
section
variable {X:Cx} {CX:CXT} {k:Nat} {f C:Addr} {fd:FuncData} {ps:List Str} {sp:Sp} {dvs:List V} {ds:List Value} {E:XK} {x m:Str} {p pos apos:Pos} {e o:Expr} {es:List Expr} {ta:TE} {t:TA}
theorem run_fn {pins:List (Addr × Obj)} {σ:St} {H:Hp} {s:Shared} {Q:VK} {us:List Value} {vs:List V} (F:FnOk X.prog X.w X.K X.mg X.base CX k f fd ps sp) (hr:Room k X.A) (hb:Binds X.K fd ps ds) (hd:Vals dvs ds) (hx:Passes CX X E)
    (I:Inv X pins σ H s) (r:Vals vs us) (h:sp (vs ++ dvs) H Q E):wpAny (model X.prog X.w) X.A (call (.ref f) us) (EP X pins σ Q) X.xe s:=by
  have r2:Vals (vs ++ dvs) (us ++ ds):=r.append hd
  have hl:(us ++ ds).length=ps.length:=by rw [<- r2.length]; exact F.len _ _ _ _ h
  refine wpAny_call (codeAny_mono (F.run X.A X.stack s H ⟨us,[]⟩ (us ++ ds) (vs ++ dvs) Q E hr I.env0 (hb s us I.kIn hl) r2 h) fun r s' hq=>?_)
  cases r with
  | error e=>exact hx pins σ H s e s' I hq
  | ok fl =>
    cases fl with
    | ret u=>exact I.after hq
    | next=>exact False.elim hq
    | brk=>exact False.elim hq
    | cont=>exact False.elim hq
theorem pe_call (F:FnOk X.prog X.w X.K X.mg X.base CX k f fd ps sp) (hr:Room k X.A) (hg:Gl X x) (hm:X.mg x=some (.ref f)) (hk:PySem.W.keepIn X.K (.ref f)=true) (hb:Binds X.K fd ps ds) (hd:Vals dvs ds) (hx:Passes CX X E)
    (ha:PA X (e :: es) t) (hdb:(x == ("__debug__":Str))=false:=by decide) (he:starEach (e :: es) X.env=(false,eval e X.env) :: starEach es X.env:=by rfl) (hpl:(backTo pos (starEach es X.env)).any (·.1)=false:=by rfl) :
    PE X (.Call (.Name x p) (e :: es) [] pos) (tCall sp dvs E t):=by
  intro pins s σ H Q I h
  refine wpAny_Call_Name_kw (ld_glob I hg hm ?_ hdb)
  refine PySem.W.callWith_K (h₀:=X.base) I.ok.mod.kin hk (thn (ha pos pins s σ H _ I h) fun us s1 ⟨vs,H1,I1,r,q⟩=>⟨I1.kIn,?_⟩) he hpl
  exact run_fn F hr hb hd hx I1 r q
theorem pe_meth {pl:Sem Bool} (he:PE X o ta) (c:Cls X.K C) (hm:Meth X.K C m f) (F:FnOk X.prog X.w X.K X.mg X.base CX k f fd ps sp) (hr:Room k X.A) (hb:Binds X.K fd ps ds) (hd:Vals dvs ds) (hx:Passes CX X E) (ha:PA X (e :: es) t)
    (hst:starEach (e :: es) X.env=(false,eval e X.env) :: starEach es X.env:=by rfl) (hpl:(backTo pos (starEach es X.env)).any (·.1)=false:=by rfl)
    (ht:eval (.Call (.Attribute o m apos) (e :: es) [] pos) X.env=(do
      let ov <- eval o X.env
      standAt apos.atName
      let (f,first) <- holding [ov] (getMethod ov m pl)
      callWith pos f first (backTo pos (starEach (e :: es) X.env)) (backToKw pos (keywordEach [] X.env))):=by rfl) :
    PE X (.Call (.Attribute o m apos) (e :: es) [] pos) (tMeth C m sp dvs E ta t):=by
  intro pins s σ H Q I h
  refine PySem.W.methodCall_KW (pl:=pl) (thn (he pins s σ H _ I h) fun u s1 ⟨x,H1,I1,rx,a,dx,fs,ex,ea,l,q⟩=>?_) ht
  subst ex
  obtain rfl:u=Value.ref a:=rx
  refine getmeth_ok I1 ea c hm l ?_
  refine PySem.W.callWith_K (first:=[.ref a]) (h₀:=X.base) I.ok.mod.kin hm.kp (thn (ha pos pins s1 σ H1 _ I1 q) fun us s2 ⟨vs,H2,I2,r,q2⟩=>⟨I2.kIn,?_⟩) hst hpl
  exact run_fn (us:=.ref a :: us) (vs:=.ref a :: vs) F hr hb hd hx I2 (.cons rfl r) q2
structure Mk (K:PySem.W.Frag) (C f:Addr):Prop where
  makes:PySem.W.makesIn K C=true
  init:PySem.W.findIn K (.ref C) "__init__"=some (some (.ref f))
  fn:PySem.W.isFn K (.ref f)=true
  kp:PySem.W.keepIn K (.ref C)=true
theorem run_make {pins:List (Addr × Obj)} {σ:St} {H:Hp} {s:Shared} {Q:VK} {us:List Value} {vs:List V} (M:Mk X.K C f) (F:FnOk X.prog X.w X.K X.mg X.base CX k f fd ps sp) (hr:Room (k + 1) X.A) (hb:Binds X.K fd ps ds) (hd:Vals dvs ds)
    (hx:Passes CX X E) (I:Inv X pins σ H s) (r:Vals vs us)
    (h:∀ x dx,H x=none -> H dx=none -> dx ≠ x -> sp (.ref x :: (vs ++ dvs)) (upd (upd H dx (.own x)) x (.ins C dx [])) (fun v H2=>v=.non /\ Q (.ref x) H2) E) :
    wpAny (model X.prog X.w) X.A (call (.ref C) us) (EP X pins σ Q) X.xe s:=by
  have hq:=h (s.heap.objs.size + 1) s.heap.objs.size (I.hok.fresh (Nat.le_succ _)) (I.hok.fresh (Nat.le_refl _)) (Nat.ne_of_lt (Nat.lt_succ_self _))
  have I2:=Inv.made (C:=C) I
  have r2:Vals (V.ref (s.heap.objs.size + 1) :: (vs ++ dvs)) (Value.ref (s.heap.objs.size + 1) :: (us ++ ds)):=.cons rfl (r.append hd)
  have hl:(Value.ref (s.heap.objs.size + 1) :: us ++ ds).length=ps.length:=by
    have e:=r2.length
    rw [F.len _ _ _ _ hq] at e
    exact e.symm
  refine wpAny_call (make_map (f:=f) I.kIn M.makes M.init (beq_iff_eq.mp M.fn) (codeAny_mono (F.run _ X.stack _ _ ⟨Value.ref (s.heap.objs.size + 1) :: us,[]⟩ (Value.ref (s.heap.objs.size + 1) :: (us ++ ds)) _ _ E (hr.make C us [])
    (I2.env0.make C us []) (hb _ (Value.ref (s.heap.objs.size + 1) :: us) I2.kIn hl) r2 hq) fun r s' hq'=>?_))
  cases r with
  | error e=>exact hx pins σ _ _ e s' I2 hq'
  | ok fl =>
    cases fl with
    | ret u =>
      obtain ⟨v,H',I3,rv,ev,q3⟩:=I2.after hq'
      subst ev
      exact ⟨rv,⟨V.ref (s.heap.objs.size + 1),H',I3,rfl,q3⟩⟩
    | next=>exact False.elim hq'
    | brk=>exact False.elim hq'
    | cont=>exact False.elim hq'
theorem pe_make (M:Mk X.K C f) (F:FnOk X.prog X.w X.K X.mg X.base CX k f fd ps sp) (hr:Room (k + 1) X.A) (hg:Gl X x) (hm:X.mg x=some (.ref C)) (hb:Binds X.K fd ps ds) (hd:Vals dvs ds) (hx:Passes CX X E)
    (ha:PA X (e :: es) t) (hdb:(x == ("__debug__":Str))=false:=by decide) (he:starEach (e :: es) X.env=(false,eval e X.env) :: starEach es X.env:=by rfl) (hpl:(backTo pos (starEach es X.env)).any (·.1)=false:=by rfl) :
    PE X (.Call (.Name x p) (e :: es) [] pos) (tMake C sp dvs E t):=by
  intro pins s σ H Q I h
  refine wpAny_Call_Name_kw (ld_glob I hg hm ?_ hdb)
  refine PySem.W.callWith_K (h₀:=X.base) I.ok.mod.kin M.kp (thn (ha pos pins s σ H _ I h) fun us s1 ⟨vs,H1,I1,r,q⟩=>⟨I1.kIn,?_⟩) he hpl
  exact run_make M F hr hb hd hx I1 r q
end
structure FnScope (N P:List Str) (sc:Scope):Prop where
  kind:sc.kind=.function
  co:sc.isCoroutine=false
  gen:sc.isGenerator=false
  nd:N.Nodup
  pre:N.take P.length=P
  par:∀ x ∈ P,sc.names.lookup x=some .local \/ sc.names.lookup x=some .cell
  nofree:∀ y ∈ sc.names,y.2 ≠ .free
theorem bindL_out {kindOf:Str -> Option NameKind} {x:Str}:∀ {binds:List (Str × Value)} {m:Str -> Option Value},(∀ v,(x,v) ∉ binds) -> bindL kindOf binds m x=m x
  | [],_,_=>rfl
  | (n,v) :: r,m,h=>by
    unfold bindL
    rw [bindL_out fun w hw=>h w (List.mem_cons_of_mem _ hw)]
    split
    . have:x ≠ n:=by rintro rfl; exact h v List.mem_cons_self
      simp [this]
    . rfl
theorem bindC_out {kindOf:Str -> Option NameKind} {x:Str}:∀ {binds:List (Str × Value)} {m:Str -> Option Value},(∀ v,(x,v) ∉ binds) -> bindC kindOf binds m x=m x
  | [],_,_=>rfl
  | (n,v) :: r,m,h=>by
    unfold bindC
    rw [bindC_out fun w hw=>h w (List.mem_cons_of_mem _ hw)]
    split
    . rfl
    . have:x ≠ n:=by rintro rfl; exact h v List.mem_cons_self
      simp [this]
theorem bindL_get {kindOf:Str -> Option NameKind} {x:Str} {v:Value}:∀ {P:List Str} {vs:List Value} {i:Nat} {m:Str -> Option Value},P.Nodup -> P[i]?=some x -> vs[i]?=some v -> kindOf x=some .local ->
    bindL kindOf (P.zip vs) m x=some v
  | [],_,_,_,_,h,_,_=>by simp at h
  | _ :: _,[],_,_,_,_,h,_=>by simp at h
  | p :: P,w :: vs,0,m,nd,h1,h2,hk=>by
    simp at h1 h2; subst h1; subst h2
    show bindL kindOf ((p,w) :: P.zip vs) m p=_
    unfold bindL
    rw [bindL_out fun v hv=>(List.nodup_cons.mp nd).1 (List.of_mem_zip hv).1,if_pos hk]
    simp
  | p :: P,w :: vs,i + 1,m,nd,h1,h2,hk=>by
    show bindL kindOf ((p,w) :: P.zip vs) m x=_
    unfold bindL
    exact bindL_get (i:=i) (List.nodup_cons.mp nd).2 (by simpa using h1) (by simpa using h2) hk
theorem bindC_get {kindOf:Str -> Option NameKind} {x:Str} {v:Value}:∀ {P:List Str} {vs:List Value} {i:Nat} {m:Str -> Option Value},P.Nodup -> P[i]?=some x -> vs[i]?=some v -> kindOf x ≠ some .local ->
    bindC kindOf (P.zip vs) m x=some v
  | [],_,_,_,_,h,_,_=>by simp at h
  | _ :: _,[],_,_,_,_,h,_=>by simp at h
  | p :: P,w :: vs,0,m,nd,h1,h2,hk=>by
    simp at h1 h2; subst h1; subst h2
    show bindC kindOf ((p,w) :: P.zip vs) m p=_
    unfold bindC
    rw [bindC_out fun v hv=>(List.nodup_cons.mp nd).1 (List.of_mem_zip hv).1,if_neg hk]
    simp
  | p :: P,w :: vs,i + 1,m,nd,h1,h2,hk=>by
    show bindC kindOf ((p,w) :: P.zip vs) m x=_
    unfold bindC
    exact bindC_get (i:=i) (List.nodup_cons.mp nd).2 (by simpa using h1) (by simpa using h2) hk
def start (N:List Str) (vs:List V):St:=vs.map some ++ List.replicate (N.length - vs.length) none
def cxOf (CX:CXT) (P:Program) (w:World) (K:PySem.W.Frag) (mg:Str -> Option Value) (base:Heap) (N:List Str) (qual:Str) (scope:Scope) (f:Addr) (cd:Value) (A:Around) (outer:List Env) (s:Shared) (H:Hp) (E:XK):Cx where
  prog:=P
  w:=w
  K:=K
  mg:=mg
  base:=base
  A:=A.deeper (envOfC qual scope s.heap.objs.size f cd)
  N:=N
  s₀:=s
  H₀:=H
  env:=envOfC qual scope s.heap.objs.size f cd
  outer:=outer
  stack:=envOfC qual scope s.heap.objs.size f cd :: outer
  ex:=[]
  calm:=true
  fn:=fun _=>true
  pn:=[]
  xe:=fun e s'=>wpAny (model P w) (A.deeper (envOfC qual scope s.heap.objs.size f cd)) (leaving (envOfC qual scope s.heap.objs.size f cd) e) (fun _ s''=>CX outer H s E e s'') (fun e' s''=>CX outer H s E e' s'') s'
theorem cell_has {sc:Scope} {n:Nat} {x:Str} (h:sc.names.lookup x=some .cell):∃ c,(cellsFrom n sc.names []).lookup x=some c:=by
  have q:=PySem.W.cellsFrom_some sc.names n [] (.inl h)
  exact Option.isSome_iff_exists.mp q
theorem inv_start {CX:CXT} {P:Program} {w:World} {K:PySem.W.Frag} {mg:Str -> Option Value} {base:Heap} {N ps:List Str} {qual:Str} {scope:Scope} {f:Addr} {cd:Value} {A:Around} {outer:List Env} {s s1:Shared} {H:Hp} {E:XK} {us:List Value} {vs:List V}
    (S:FnScope N ps scope) (hd:A.handled=none) (e0:Env0 P w K mg base A outer s H) (hl:vs.length=ps.length) (r:Vals vs us)
    (x:InCallC s s.heap.objs.size (bindL (envOfC qual scope s.heap.objs.size f cd).kindOf (ps.zip us) fun _=>none) (cellsFrom (s.heap.objs.size + 1) scope.names []) (bindC (envOfC qual scope s.heap.objs.size f cd).kindOf (ps.zip us) fun _=>none) s1) :
    Inv (cxOf CX P w K mg base N qual scope f cd A outer s H E) [] (start N vs) H s1:=by
  have hpl:ps.length <= N.length:=by have:=congrArg List.length S.pre; rw [List.length_take] at this; omega
  obtain ⟨h1,tk,rfl,hk⟩:=x.done
  have noA:∀ b:Addr,b ∉ (cxOf CX P w K mg base N qual scope f cd A outer s H E).ex:=fun b z=>absurd (show b ∈ ([]:List Addr) from z) (by simp)
  refine ⟨⟨e0.mod,S.kind,rfl,rfl,Nat.le_refl _,fun y z c h1 h2=>?_,fun y hy=>?_,fun y c _ h=>?_,fun _=>hd,Around.frames_deeper e0.frames,.inr ⟨rfl,rfl⟩,fun b z=>absurd z (noA b),e0.bs,e0.bsz,fun b _ _=>noA b,fun b z=>absurd z (noA b),e0.funs,e0.frf⟩,
    rfl,e0.bare,Un.kept hk,⟨_,x.toInCall.ns,fun i y v h1 h2 h3=>?_⟩,fun y c h=>⟨_,x.cell y c h⟩,e0.hok.fresh (Nat.le_refl _),fun y c h=>?_,fun p hp=>absurd (show p ∈ ([]:List (Addr × Obj)) from hp) (by simp),e0.hok.kept hk,?_⟩
  . exact name_of_addr x.apart (PySem.mem_of_lookup h1) (PySem.mem_of_lookup h2)
  . have hy:scope.names.lookup y=some .cell \/ scope.names.lookup y=some .free:=hy
    rcases hy with hy | hy
    . exact cell_has hy
    . exact absurd rfl (S.nofree _ (PySem.mem_of_lookup hy))
  . exact Nat.le_of_lt (x.above y c (PySem.mem_of_lookup h))
  . have hi:i < vs.length:=by
      unfold start at h2
      by_cases hi:i < vs.length
      . exact hi
      . rw [List.getElem?_append_right (by simpa using hi)] at h2
        rw [List.getElem?_replicate] at h2
        split at h2 <;> cases h2
    have ha:vs[i]?=some v:=by
      unfold start at h2
      rw [List.getElem?_append_left (by simpa using hi),List.getElem?_map] at h2
      cases e:vs[i]? with
      | none=>rw [e] at h2; cases h2
      | some a=>rw [e] at h2; cases h2; rfl
    obtain ⟨u,hu,rv⟩:=r.get ha
    have hp:ps[i]?=some y:=by
      rw [<- S.pre,List.getElem?_take_of_lt (by omega)]; exact h1
    have ndP:ps.Nodup:=by rw [<- S.pre]; exact S.nd.sublist (List.take_sublist _ _)
    refine ⟨u,rv,?_⟩
    rcases S.par y (List.mem_of_getElem? hp) with k | k
    . exact .inl ⟨k,bindL_get ndP hp hu k⟩
    . obtain ⟨c,e⟩:=cell_has (n:=s.heap.objs.size + 1) k
      refine .inr ⟨.inl k,c,e,?_⟩
      have q:=x.cell y c e
      rw [bindC_get ndP hp hu (by show scope.names.lookup y ≠ _; rw [k]; decide)] at q
      exact q
  . exact e0.hok.fresh (Nat.le_of_lt (x.above y c (PySem.mem_of_lookup h)))
  . unfold start
    show _=N.length
    rw [List.length_append,List.length_map,List.length_replicate]
    omega
theorem fn_of {CX:CXT} {P:Program} {w:World} {K:PySem.W.Frag} {mg:Str -> Option Value} {base:Heap} {k:Nat} {f:Addr} {name qual:Str} {params:Arguments} {body:List Stmt} {scope:Scope} {dV kV doc pm cdv ct oc:Value} {an od:Option Addr}
    {osl:Array (Option Value)} {N ps:List Str} {sp:Sp} (lk:K.lookup f=some ⟨oc,od,.func (PySem.W.fnOf name qual params body scope dV kV doc pm an cdv ct),osl⟩) (hcd:PySem.W.codeIn K cdv qual=true) (S:FnScope N ps scope)
    (len:∀ vs H Q E,sp vs H Q E -> vs.length=ps.length)
    (hbody:∀ (A:Around) (outer:List Env) (s:Shared) (H:Hp) (vs:List V) (Q:VK) (E:XK),Room k (A.deeper (envOfC qual scope s.heap.objs.size f cdv)) -> sp vs H Q E ->
      ∃ t,PSs (cxOf CX P w K mg base N qual scope f cdv A outer s H E) body t /\ t { nx:=fun _ H'=>Q .non H',rt:=Q } (start N vs) H) :
    FnOk P w K mg base CX (k + 1) f (PySem.W.fnOf name qual params body scope dV kV doc pm an cdv ct) ps sp:=by
  refine ⟨len,fun A outer s H args us vs Q E hr e0 hb r hsp=>?_⟩
  have hl:=len _ _ _ _ hsp
  have KX:K.In s.heap:=e0.mod.kin.keeps fun b o e=>(e0.bs b o e).1
  have lim:s.heap.NoLimit:=e0.mod.nolimit.keeps fun b o e=>(e0.bs b o e).1
  have hkind:∀ y ∈ ps.zip us,scope.names.lookup y.1=some .local \/ (scope.names.lookup y.1=some .cell /\ ((cellsFrom (s.heap.objs.size + 1) scope.names []).lookup y.1).isSome=true):=fun ⟨n,v⟩ hy=>by
    rcases S.par n (List.of_mem_zip hy).1 with q | q
    . exact .inl q
    . exact .inr ⟨q,PySem.W.cellsFrom_some _ _ _ (.inl q)⟩
  refine codeAny_call_function hr.depth (KX _ _ lk) rfl S.co S.gen rfl (PySem.W.codeRec_of KX hcd) (hb _ _ _ _ ?_)
  refine wpAny_newFunctionEnv_cells S.kind hkind fun env he s1 x=>?_
  subst he
  refine ⟨lim.keeps x.toInCall.keep,codeAny_func ?_⟩
  obtain ⟨t,ht,hq⟩:=hbody A outer s H vs Q E (hr.deeper _) hsp
  have I:Inv (cxOf CX P w K mg base N qual scope f cdv A outer s H E) [] (start N vs) H s1:=inv_start S hr.hd e0 hl r x
  refine wpAny_mono (ht [] s1 (start N vs) H _ I hq) (fun fl s' hs=>?_) fun e s' hs=>hs
  have fin:∀ {σ':St} {H':Hp} {v:V} {u:Value},Inv (cxOf CX P w K mg base N qual scope f cdv A outer s H E) [] σ' H' s' -> RelV v u -> Q v H' -> CE outer P w H s Q u s' :=
    fun {σ' H' v u} J rv q=>⟨v,H',J.os,J.bare,J.base,J.hok,rv,q⟩
  cases fl with
  | ret u =>
    obtain ⟨v,σ',H',J,rv,q⟩:=hs
    exact fin J rv q
  | next =>
    obtain ⟨σ',H',J,q⟩:=hs
    exact fin (v:=V.non) (u:=Value.none) J rfl q
  | brk =>
    obtain ⟨_,_,_,q⟩:=hs
    exact False.elim q
  | cont =>
    obtain ⟨_,_,_,q⟩:=hs
    exact False.elim q
section
variable {X:Cx} {x:Str} {p pos:Pos} {e:Expr} {es:List Expr} {t:TA} {id T:String} {r:List V -> Hp -> VK -> Prop}
def tCB (r:List V -> Hp -> VK -> Prop) (t:TA):TE:=fun σ H Q=>t σ H fun vs H1=>r vs H1 Q
theorem pe_callB (hc:CallR X (.builtin id) r) (hg:Gl X x) (hm:X.mg x=none) (hv:bootBuiltins x=some (.builtin id)) (ha:PA X (e :: es) t) (hn:x ≠ "__name__":=by decide) (hdb:(x == ("__debug__":Str))=false:=by decide)
    (he:starEach (e :: es) X.env=(false,eval e X.env) :: starEach es X.env:=by rfl) (hpl:(backTo pos (starEach es X.env)).any (·.1)=false:=by rfl):PE X (.Call (.Name x p) (e :: es) [] pos) (tCB r t):=by
  intro pins s σ H Q I h
  refine wpAny_Call_Name_kw (ld_blt I hg hm hv ?_ hn hdb)
  exact PyProof.Rows.callWith_builtin1 (thn (ha pos pins s σ H _ I h) fun us s1 ⟨vs,H1,I1,r1,q1⟩=>hc pins s1 σ H1 vs us Q I1 r1 q1) he hpl
theorem pe_callTy (hc:CallR X (.type T) r) (hg:Gl X x) (hm:X.mg x=none) (hv:bootBuiltins x=some (.type T)) (ha:PA X (e :: es) t) (hn:x ≠ "__name__":=by decide) (hdb:(x == ("__debug__":Str))=false:=by decide)
    (he:starEach (e :: es) X.env=(false,eval e X.env) :: starEach es X.env:=by rfl) (hpl:(backTo pos (starEach es X.env)).any (·.1)=false:=by rfl):PE X (.Call (.Name x p) (e :: es) [] pos) (tCB r t):=by
  intro pins s σ H Q I h
  refine wpAny_Call_Name_kw (ld_blt I hg hm hv ?_ hn hdb)
  exact PyProof.Rows.callWith_type1 (thn (ha pos pins s σ H _ I h) fun us s1 ⟨vs,H1,I1,r1,q1⟩=>hc pins s1 σ H1 vs us Q I1 r1 q1) he hpl
end
end L2
namespace HT
open PySem PyProof.Rows
section
variable {prog:Program} {w:World} {A:Around} {E:Value -> Shared -> Prop} {s:Shared}
def sIx (n d:Nat):Option Int -> Nat
  | none=>d
  | some v=>if v < 0 then (v + (n:Int)).toNat else min v.toNat n
theorem sIx_none (n d:Nat):sIx n d none=d:=rfl
theorem sIx_nat (n d k:Nat):sIx n d (some (k:Int))=min k n:=by
  show (if (k:Int) < 0 then ((k:Int) + (n:Int)).toNat else min (k:Int).toNat n)=min k n
  rw [if_neg (by omega),Int.toNat_natCast]
end
end HT
namespace L2
open PySem PySem.Spec PyProof.Rows
abbrev TO:=St -> Hp -> (Option Int -> Hp -> Prop) -> Prop
def PO (X:Cx) (e:Option Expr) (t:TO):Prop :=
  ∀ (pins:List (Addr × Obj)) (s:Shared) (σ:St) (H:Hp) (Q:Option Int -> Hp -> Prop),Inv X pins σ H s -> t σ H Q ->
    wpAny (model X.prog X.w) X.A (evalPart e X.env) (fun u s'=>∃ o H',Inv X pins σ H' s' /\ IsPart u o /\ Q o H') X.xe s
def tNoPart:TO:=fun _ H Q=>Q none H
def tPart (t:TE):TO:=fun σ H Q=>t σ H fun x H1=>∃ i,x=.int i /\ Q (some i) H1
section
variable {X:Cx} {e:Expr} {te:TE} {lo hi:Option Expr} {tl th:TO} {pos p2:Pos}
theorem po_none:PO X none tNoPart:=by
  intro pins s σ H Q I h
  rw [evalPart_none]
  exact wpAny_pure ⟨none,H,I,.none,h⟩
theorem po_some (h:PE X e te):PO X (some e) (tPart te):=by
  intro pins s σ H Q I hw
  rw [evalPart_some]
  refine thn (h pins s σ H _ I hw) fun u s1 ⟨x,H1,I1,r1,q1⟩=>?_
  obtain ⟨i,rfl,q⟩:=q1
  obtain ⟨t,rfl⟩:=r1
  exact ⟨some i,H1,I1,.int i t,q⟩
def SlR (X:Cx) (r:V -> Option Int -> Option Int -> Hp -> VK -> Prop):Prop :=
  ∀ (pins:List (Addr × Obj)) (s:Shared) (σ:St) (H:Hp) (x:V) (v vl vu:Value) (lo hi:Option Int) (sl:Addr) (Q:VK),Inv X pins σ H s -> RelV x v -> s.heap.IsSliceOf sl vl vu .none -> IsPart vl lo -> IsPart vu hi -> r x lo hi H Q ->
    ∃ T id,typeLookup (.type T) "__getitem__"=pure (some (.builtin id)) /\ s.TypeIs v T /\ wpAny (model X.prog X.w) X.A (getItem v (.ref sl)) (EP X pins σ Q) X.xe s
def tSl (r:V -> Option Int -> Option Int -> Hp -> VK -> Prop) (te:TE) (tl th:TO):TE:=fun σ H Q=>te σ H fun x H1=>tl σ H1 fun l H2=>th σ H2 fun u H3=>r x l u H3 Q
theorem pe_slice {r:V -> Option Int -> Option Int -> Hp -> VK -> Prop} (hr:SlR X r) (he:PE X e te) (hl:PO X lo tl) (hu:PO X hi th):PE X (.Subscript e (.Slice lo hi none p2) pos) (tSl r te tl th):=by
  intro pins s σ H Q I h
  refine Subscript_ (thn (he pins s σ H _ I h) fun v s1 ⟨x,H1,I1,r1,q1⟩=>?_)
  refine wpAny_Slice (thn (hl pins s1 σ H1 _ I1 q1) fun vl s2 ⟨l,H2,I2,pl,q2⟩=>thn (hu pins s2 σ H2 _ I2 q2) fun vu s3 ⟨u,H3,I3,pu,q3⟩=>?_)
  rw [evalPart_none]
  refine wpAny_pure ?_
  have I4:Inv X pins σ H3 { s3 with heap:=s3.heap.push { cls:=.type "slice",data:=.fields #[vl,vu,.none] } }:=I3.kept (t':=s3.toks) fun b ob q=>Heap.get?_push_of_some _ q
  obtain ⟨T,id,hT,ht,hg⟩:=hr pins { s3 with heap:=s3.heap.push { cls:=.type "slice",data:=.fields #[vl,vu,.none] } } σ H3 x v vl vu l u s3.heap.objs.size Q I4 r1 (Heap.IsSliceOf.new ..) pl pu q3
  show wpAny (model X.prog X.w) X.A (subscriptTail e (.Slice lo hi none p2) v (.ref s3.heap.objs.size)) (EP X pins σ Q) X.xe { s3 with heap:=s3.heap.push { cls:=.type "slice",data:=.fields #[vl,vu,.none] } }
  exact tail_any (ops:=[.ref s3.heap.objs.size,v]) ht hT hg (by with_unfolding_all rfl)
def cutV (xs:List V) (lo hi:Option Int):List V:=(xs.drop (HT.sIx xs.length 0 lo)).take (HT.sIx xs.length xs.length hi - HT.sIx xs.length 0 lo)
theorem cutV_length (xs:List V) (lo hi:Option Int):(cutV xs lo hi).length <= xs.length:=by
  unfold cutV
  rw [List.length_take,List.length_drop]
  omega
end
def ixN (n:Nat) (i:Int):Option Nat:=if 0 <= i then (if i < n then some i.toNat else none) else if -(n:Int) <= i then some (i + n).toNat else none
def atI {α:Type} (xs:List α) (i:Int):Option α:=(ixN xs.length i).bind fun j=>xs[j]?
theorem ixN_seq {n:Nat} {i:Int} {j:Nat} (h:ixN n i=some j):seqIndex? i n=some j /\ j < n /\ -(n:Int) <= i /\ i < n:=by
  unfold ixN at h
  by_cases h0:0 <= i
  . rw [if_pos h0] at h
    by_cases h1:i < n
    . rw [if_pos h1] at h
      have e:i.toNat=j:=Option.some.inj h
      exact ⟨by rw [seqIndex_of h0 h1,e],by omega,by omega,h1⟩
    . rw [if_neg h1] at h; cases h
  . rw [if_neg h0] at h
    by_cases h1:-(n:Int) <= i
    . rw [if_pos h1] at h
      have e:(i + n).toNat=j:=Option.some.inj h
      exact ⟨by rw [seqIndex_neg (by omega) h1,e],by omega,h1,by omega⟩
    . rw [if_neg h1] at h; cases h
theorem atI_get {α:Type} {xs:List α} {i:Int} {v:α} (h:atI xs i=some v):∃ j,seqIndex? i xs.length=some j /\ xs[j]?=some v /\ j < xs.length /\ -(xs.length:Int) <= i /\ i < xs.length:=by
  unfold atI at h
  cases e:ixN xs.length i with
  | none=>rw [e] at h; cases h
  | some j =>
    rw [e] at h
    obtain ⟨h1,h2,h3,h4⟩:=ixN_seq e
    exact ⟨j,h1,h,h2,h3,h4⟩
theorem atI_nat {α:Type} {xs:List α} {j:Nat} {v:α} (h:xs[j]?=some v):atI xs (j:Int)=some v:=by
  have hj:j < xs.length:=(List.getElem?_eq_some_iff.mp h).1
  have e:ixN xs.length (j:Int)=some j:=by
    unfold ixN
    rw [if_pos (by omega),if_pos (by omega)]; simp
  unfold atI; rw [e]; exact h
def PlainIx (b:Expr):Prop:=∀ o i,subscripted b false o i=operate [o,i] (getItem o i)
def IxR (X:Cx) (r:R2):Prop :=
  ∀ (value slice:Expr) (pins:List (Addr × Obj)) (s:Shared) (σ:St) (H:Hp) (x y:V) (v u:Value) (Q:VK),Inv X pins σ H s -> RelV x v -> RelV y u -> r x y H Q ->
    subscripted slice false v u=operate [v,u] (getItem v u) -> wpAny (model X.prog X.w) X.A (subscriptTail value slice v u) (EP X pins σ Q) X.xe s
def MtR (X:Cx) (id:String) (r:V -> List V -> Hp -> VK -> Prop):Prop :=
  ∀ (pins:List (Addr × Obj)) (s:Shared) (σ:St) (H:Hp) (x:V) (xs:List V) (v:Value) (us:List Value) (Q:VK),Inv X pins σ H s -> RelV x v -> Vals xs us -> r x xs H Q ->
    wpAny (model X.prog X.w) X.A (call (.builtin id) (v :: us)) (EP X pins σ Q) X.xe s
section
variable {X:Cx} {a b:Expr} {ta tb:TE} {pos:Pos}
theorem IxR.or {r r':R2} (h:IxR X r) (h':IxR X r'):IxR X (fun x y H Q=>r x y H Q \/ r' x y H Q):=by
  intro value slice pins s σ H x y v u Q I rx ry q hs
  rcases q with q | q
  . exact h value slice pins s σ H x y v u Q I rx ry q hs
  . exact h' value slice pins s σ H x y v u Q I rx ry q hs
theorem pe_ix {r:R2} (hr:IxR X r) (ha:PE X a ta) (hb:PE X b tb) (hs:PlainIx b):PE X (.Subscript a b pos) (tOp r ta tb):=by
  intro pins s σ H Q I h
  exact Subscript_ (binT ha hb I h fun v u s2 x y H2 I2 rx ry q=>hr a b pins s2 σ H2 x y v u Q I2 rx ry q (hs _ _))
def rIxL (K:PySem.W.Frag):R2:=fun x y H Q=>∃ p xs i v,x=.ref p /\ y=.int i /\ SqL K H p xs /\ atI xs i=some v /\ Q v H
def rIxT (K:PySem.W.Frag):R2:=fun x y H Q=>∃ p xs i v,x=.ref p /\ y=.int i /\ SqT K H p xs /\ atI xs i=some v /\ Q v H
def rIxS:R2:=fun x y H Q=>∃ z i c,x=.str z /\ y=.int i /\ z.length <= sizeLine /\ atI z.cps.toList i=some c /\ Q (.str ⟨#[c]⟩) H
theorem ix_list:IxR X (rIxL X.K):=by
  intro value slice pins s σ H x y v u Q I rx ry h hs
  obtain ⟨p,xs,i,z,rfl,rfl,hq,he,q⟩:=h
  cases rx
  obtain ⟨t,rfl⟩:=ry
  obtain ⟨its,r,pl,hz⟩:=I.list hq
  obtain ⟨j,h1,h2,h3,h4,h5⟩:=atI_get he
  obtain ⟨w,ew,rw'⟩:=r.get h2
  have hl:=r.length
  have hn:=line63
  have fin:EP X pins σ Q w s:=⟨z,H,I,rw',q⟩
  by_cases h0:0 <= i
  . have hj:i.toNat=j:=by
      rw [seqIndex_of h0 h5] at h1
      exact Option.some.inj h1
    exact item_listR pl.isList h0 (by omega) (by rw [hj]; simpa using ew) fin hs
  . have hj:(i + (its.toArray.size:Int)).toNat=j:=by
      rw [seqIndex_neg (by omega) h4] at h1
      rw [List.size_toArray,<- hl]
      exact Option.some.inj h1
    exact subscriptTail_builtinR (x:=w) pl.isList.typeIs slot_list_getitem.lookup
      (wpAny_getItem_list_neg (Q:=fun r s'=>r=w /\ EP X pins σ Q r s') pl.isList (by omega) (by rw [List.size_toArray] <;> omega) (by omega) (by rw [hj]; simpa using ew) ⟨rfl,fin⟩) hs
theorem ix_tup:IxR X (rIxT X.K):=by
  intro value slice pins s σ H x y v u Q I rx ry h hs
  obtain ⟨p,xs,i,z,rfl,rfl,hq,he,q⟩:=h
  cases rx
  obtain ⟨t,rfl⟩:=ry
  obtain ⟨its,r,pl,hz⟩:=I.tuple hq
  obtain ⟨j,h1,h2,h3,h4,h5⟩:=atI_get he
  obtain ⟨w,ew,rw'⟩:=r.get h2
  have hl:=r.length
  have hn:=line63
  have fin:EP X pins σ Q w s:=⟨z,H,I,rw',q⟩
  exact subscriptTail_builtinR (x:=w) pl.typeIs slot_tuple_getitem.lookup
    (getItem_tuple (j:=j) (Q:=fun r s'=>r=w /\ EP X pins σ Q r s') pl (by omega) (by omega) (by rw [List.size_toArray,<- hl]; exact h1) (by simpa using ew) ⟨rfl,fin⟩) hs
theorem ix_str:IxR X rIxS:=by
  intro value slice pins s σ H x y v u Q I rx ry h hs
  obtain ⟨z,i,c,rfl,rfl,hz,he,q⟩:=h
  obtain ⟨t,rfl⟩:=rx
  obtain ⟨t',rfl⟩:=ry
  obtain ⟨j,h1,h2,h3,h4,h5⟩:=atI_get he
  have hl:z.cps.toList.length=z.length:=by simp [Str.length]
  rw [hl] at h1 h4 h5
  have hn:=line63
  exact tail_any (typeIs_str s z t) slot_str_getitem.lookup (getItem_str (c:=c) (by
    have e1:decide (i < -(2 ^ 63:Int))=false:=decide_eq_false (by omega)
    have e2:decide (i ≥ 2 ^ 63)=false:=decide_eq_false (by omega)
    rw [e1,e2,Bool.or_false]) (by rw [h1]; simpa using h2) ⟨.str ⟨#[c]⟩,H,I.tok _,⟨_,rfl⟩,q⟩) hs
def rIx (K:PySem.W.Frag):R2:=fun x y H Q=>rIxL K x y H Q \/ rIxT K x y H Q \/ rIxS x y H Q
theorem ix_seq:IxR X (rIx X.K):=ix_list.or (ix_tup.or ix_str)
theorem mapSeq_set (its:List Value) (n j:Nat) (u:Value):Obj.mapSeq (·.setIfInBounds j u) { cls:=.type "list",data:=.seq its.toArray n }={ cls:=.type "list",data:=.seq (its.set j u).toArray n }:=by
  simp [Obj.mapSeq]
theorem Inv.lst {pins:List (Addr × Obj)} {σ:St} {H:Hp} {s:Shared} {p:Addr} {xs:List V} (I:Inv X pins σ H s) (h:H p=some (.lst xs)) :
    ∃ (its:List Value) (n:Nat),Vals xs its /\ s.heap.get? p=some { cls:=.type "list",data:=.seq its.toArray n } /\ xs.length <= sizeLine:=by
  obtain ⟨z,its,n,r,e⟩:=I.hok p _ h
  exact ⟨its,n,r,e,z⟩
theorem Inv.lstUpd {pins:List (Addr × Obj)} {σ:St} {H:Hp} {s:Shared} {p:Addr} {xs ys:List V} {its its':List Value} {n n':Nat} {f:Obj -> Obj} (I:Inv X pins σ H s) (h:H p=some (.lst xs))
    (ho:s.heap.get? p=some { cls:=.type "list",data:=.seq its.toArray n }) (hf:f { cls:=.type "list",data:=.seq its.toArray n }={ cls:=.type "list",data:=.seq its'.toArray n' }) (r:Vals ys its') (hz:ys.length <= sizeLine) (t:Nat) :
    Inv X pins σ (upd H p (.lst ys)) { s with heap:=s.heap.update p f,toks:=t }:=by
  have e:(s.heap.update p f).get? p=some { cls:=.type "list",data:=.seq its'.toArray n' }:=by
    rw [Heap.get?_update_self f ho (by rw [hf] <;> rfl),hf]
  refine I.write (x:=p) (e:=p) (by rw [h]; trivial) (.inl rfl) (fun b u hb q=>(Heap.get?_update_other _ _ (Ne.symm hb)).trans q) ⟨_,e⟩ ?_
  exact ⟨hz,its',n',r,e⟩
def rSetL:V -> V -> V -> Hp -> (Hp -> Prop) -> Prop:=fun o i v H Q=>∃ p xs k j,o=.ref p /\ i=.int k /\ H p=some (.lst xs) /\ ixN xs.length k=some j /\ Q (upd H p (.lst (xs.set j v)))
theorem set_list:PSet X rSetL:=by
  intro pins s σ H o i v ov iv u Q I ro ri rv h
  obtain ⟨p,xs,k,j,rfl,rfl,hp,hj,q⟩:=h
  cases ro
  obtain ⟨t,rfl⟩:=ri
  obtain ⟨its,n,r,ho,hz⟩:=I.lst hp
  obtain ⟨h1,h2,h3,h4⟩:=ixN_seq hj
  have hl:=r.length
  have hn:=line63
  have I':Inv X pins σ (upd H p (.lst (xs.set j v))) { s with heap:=s.heap.update p (Obj.mapSeq (·.setIfInBounds j u)) } :=
    I.lstUpd hp ho (mapSeq_set its n j u) (r.set rv j) (by rw [List.length_set]; exact hz) s.toks
  by_cases h0:0 <= k
  . have hk:k.toNat=j:=by
      rw [seqIndex_of h0 h4] at h1
      exact Option.some.inj h1
    exact PySem.W.ki_setAt ho h0 (by omega) (by rw [List.size_toArray,<- hl]; exact h4) (by rw [hk]; exact ⟨_,I',q⟩)
  . have hk:(k + (its.toArray.size:Int)).toNat=j:=by
      rw [seqIndex_neg (by omega) h3] at h1
      rw [List.size_toArray,<- hl]
      exact Option.some.inj h1
    exact PySem.W.ki_setBack ho (by omega) (by rw [List.size_toArray,<- hl]; exact h3) (by omega) (by rw [hk]; exact ⟨_,I',q⟩)
theorem slice_bounds (lo hi:Option Int) (n:Nat):(sliceBounds lo hi none n).1=((HT.sIx n 0 lo:Nat):Int) /\ (sliceBounds lo hi none n).2.1=((HT.sIx n n hi:Nat):Int) /\ (sliceBounds lo hi none n).2.2=1:=by
  refine ⟨?_,?_,rfl⟩
  . cases lo with
    | none=>simp [sliceBounds,HT.sIx]
    | some i =>
      simp only [sliceBounds,HT.sIx,Option.getD_none,show (1:Int) > 0 by decide,if_true]
      by_cases h:i < 0
      . simp only [h,if_true] <;> omega
      . simp only [h,if_false] <;> omega
  . cases hi with
    | none=>simp [sliceBounds,HT.sIx]
    | some i =>
      simp only [sliceBounds,HT.sIx,Option.getD_none,show (1:Int) > 0 by decide,if_true]
      by_cases h:i < 0
      . simp only [h,if_true] <;> omega
      . simp only [h,if_false] <;> omega
theorem slicePick_cut (its:List Value) (lo hi:Option Int):slicePick its.toArray lo hi none=((its.drop (HT.sIx its.length 0 lo)).take (HT.sIx its.length its.length hi - HT.sIx its.length 0 lo)).toArray:=by
  obtain ⟨h1,h2,h3⟩:=slice_bounds lo hi its.toArray.size
  unfold slicePick
  rw [h1,h2,h3]
  simp only [sliceRange_one,pick_run,List.size_toArray] <;> rfl
def rSlL (K:PySem.W.Frag):V -> Option Int -> Option Int -> Hp -> VK -> Prop:=fun x lo hi H Q=>∃ a xs,x=.ref a /\ SqL K H a xs /\ ∀ p,H p=none -> Q (.ref p) (upd H p (.lst (cutV xs lo hi)))
theorem sl_list:SlR X (rSlL X.K):=by
  intro pins s σ H x v vl vu lo hi sl Q I rx hs pl pu h
  obtain ⟨a,xs,rfl,hx,q⟩:=h
  cases rx
  obtain ⟨its,r,ht,hz⟩:=I.list hx
  have hlen:=r.length
  refine ⟨"list",_,slot_list_getitem.lookup,ht.isList.typeIs,?_⟩
  refine wpAny_getItem_list_slice ht.isList hs pl pu .none (by simp) ?_ (by rw [List.size_toArray] <;> omega)
  rw [slicePick_cut,<- hlen]
  refine ⟨.ref s.heap.objs.size,_,I.laid (t':=s.toks) (o:=.lst (cutV xs lo hi)) (fun b ob q=>Heap.get?_push_of_some _ q) (Nat.le_refl _) ?_,rfl,q _ (I.hok.fresh (Nat.le_refl _))⟩
  exact ⟨Nat.le_trans (cutV_length xs lo hi) hz,_,0,(r.drop (HT.sIx xs.length 0 lo)).take (HT.sIx xs.length xs.length hi - HT.sIx xs.length 0 lo),Heap.get?_push_size _ rfl⟩
def flatV:V -> Bool
  | .non=>true
  | .bl _=>true
  | .int _=>true
  | .str _=>true
  | _=>false
def eqV:V -> V -> Bool
  | .non,.non=>true
  | .bl a,.bl b=>a == b
  | .bl a,.int b=>(if a then 1 else 0) == b
  | .int a,.bl b=>a == (if b then 1 else 0)
  | .int a,.int b=>a == b
  | .str a,.str b=>a == b
  | _,_=>false
theorem eqAt_V {A:Around} {s:Shared} {y x:V} {u v:Value} (ry:RelV y u) (rx:RelV x v) (fy:flatV y=true) (fx:flatV x=true):SeqAt.EqAt A s u v (eqV y x):=by
  cases y with
  | non =>
    cases ry
    cases x with
    | non=>cases rx; exact SeqAt.EqAt.same _
    | bl b=>cases rx; exact SeqAt.EqAt.none_bool b
    | int b=>obtain ⟨t,rfl⟩:=rx; exact SeqAt.EqAt.none_int b t
    | str b=>obtain ⟨t,rfl⟩:=rx; exact SeqAt.EqAt.none_str b t
    | _=>exact absurd (show false=true from fx) Bool.false_ne_true
  | bl a =>
    cases ry
    cases x with
    | non=>cases rx; exact SeqAt.EqAt.bool_none a
    | bl b=>cases rx; exact SeqAt.EqAt.bool_bool a b
    | int b=>obtain ⟨t,rfl⟩:=rx; exact SeqAt.EqAt.bool_int a b t
    | str b=>obtain ⟨t,rfl⟩:=rx; exact SeqAt.EqAt.bool_str a b t
    | _=>exact absurd (show false=true from fx) Bool.false_ne_true
  | int a =>
    obtain ⟨t',rfl⟩:=ry
    cases x with
    | non=>cases rx; exact SeqAt.EqAt.int_none a t'
    | bl b=>cases rx; exact SeqAt.EqAt.int_bool a t' b
    | int b=>obtain ⟨t,rfl⟩:=rx; exact SeqAt.EqAt.int_int a t' b t
    | str b=>obtain ⟨t,rfl⟩:=rx; exact SeqAt.EqAt.int_str a t' b t
    | _=>exact absurd (show false=true from fx) Bool.false_ne_true
  | str a =>
    obtain ⟨t',rfl⟩:=ry
    cases x with
    | non=>cases rx; exact SeqAt.EqAt.str_none a t'
    | bl b=>cases rx; exact SeqAt.EqAt.str_bool a t' b
    | int b=>obtain ⟨t,rfl⟩:=rx; exact SeqAt.EqAt.str_int a t' b t
    | str b=>obtain ⟨t,rfl⟩:=rx; exact SeqAt.EqAt.str_str a t' b t
    | _=>exact absurd (show false=true from fx) Bool.false_ne_true
  | _=>exact absurd (show false=true from fy) Bool.false_ne_true
def eqU (x:V) (u:Value):Bool:=match u with
  | .none=>eqV .non x
  | .bool b=>eqV (.bl b) x
  | .int i _=>eqV (.int i) x
  | .str z _=>eqV (.str z) x
  | _=>false
theorem eqU_of {x y:V} {u:Value} (r:RelV y u) (f:flatV y=true):eqU x u=eqV y x:=by
  cases y with
  | non=>cases r; rfl
  | bl b=>cases r; rfl
  | int i=>obtain ⟨t,rfl⟩:=r; rfl
  | str z=>obtain ⟨t,rfl⟩:=r; rfl
  | _=>exact absurd (show false=true from f) Bool.false_ne_true
theorem any_eqU {x:V}:∀ {xs:List V} {us:List Value},Vals xs us -> xs.all flatV=true -> us.any (eqU x)=xs.any fun y=>eqV y x
  | _,_,.nil,_=>rfl
  | y :: xs,u :: us,.cons r t,f=>by
    rw [List.all_cons,Bool.and_eq_true] at f
    rw [List.any_cons,List.any_cons,eqU_of r f.1,any_eqU t f.2]
theorem mem_eqAt {A:Around} {s:Shared} {x:V} {v:Value} (rx:RelV x v) (fx:flatV x=true):∀ {xs:List V} {us:List Value},Vals xs us -> xs.all flatV=true -> ∀ u ∈ us,SeqAt.EqAt A s u v (eqU x u)
  | _,_,.nil,_=>fun u hu=>by cases hu
  | y :: xs,u :: us,.cons r t,f=>fun u' hu=>by
    rw [List.all_cons,Bool.and_eq_true] at f
    rcases List.mem_cons.mp hu with rfl | hu
    . rw [eqU_of r f.1]; exact eqAt_V r rx f.1 fx
    . exact mem_eqAt rx fx t f.2 u' hu
def inV (x:V) (xs:List V):Bool:=xs.any fun y=>eqV y x
def rIn (K:PySem.W.Frag) (neg:Bool):R2:=fun x y H Q=>∃ p xs,y=.ref p /\ (SqL K H p xs \/ SqT K H p xs) /\ flatV x=true /\ xs.all flatV=true /\ Q (.bl (if neg then !inV x xs else inV x xs)) H
theorem op_notIn_seq:OpR X (compareOp .NotIn) (rIn X.K true):=by
  intro pins s σ H x y v u Q I rx ry h
  obtain ⟨p,xs,rfl,hq,fx,fs,q⟩:=h
  cases ry
  rcases hq with hq | hq
  . obtain ⟨its,r,pl,hz⟩:=I.list hq
    refine SeqAt.notIn_listAt (eqU x) pl.isList (fun w hw=>mem_eqAt rx fx r fs w (by simpa using hw)) ⟨.bl _,H,I,rfl,?_⟩
    rw [show its.toArray.any (eqU x)=its.any (eqU x) by simp,any_eqU r fs]
    exact q
  . obtain ⟨its,r,pl,hz⟩:=I.tuple hq
    refine SeqAt.notIn_tupleAt (eqU x) pl (fun w hw=>mem_eqAt rx fx r fs w (by simpa using hw)) ⟨.bl _,H,I,rfl,?_⟩
    rw [show its.toArray.any (eqU x)=its.any (eqU x) by simp,any_eqU r fs]
    exact q
theorem call_len_seq:CallR X (.builtin "len") (fun xs H Q=>∃ p ys,xs=[.ref p] /\ (SqL X.K H p ys \/ SqT X.K H p ys) /\ Q (.int ys.length) H):=by
  intro pins s σ H xs us Q I r h
  obtain ⟨p,ys,rfl,hq,q⟩:=h
  obtain ⟨u,rfl,rx⟩:=vals1 r
  cases rx
  have hn:=line63
  rcases hq with hq | hq
  . obtain ⟨its,r',pl,hz⟩:=I.list hq
    have hlen:=r'.length
    exact Calls.call_len_list pl.isList (by simp only [List.size_toArray] <;> omega) ⟨.int ys.length,H,I.tok _,⟨s.toks + 1,by rw [List.size_toArray,hlen]⟩,q⟩
  . obtain ⟨its,r',pl,hz⟩:=I.tuple hq
    have hlen:=r'.length
    exact len_tuple pl (by simp only [List.size_toArray] <;> omega) ⟨.int ys.length,H,I.tok _,⟨s.toks + 1,by rw [List.size_toArray,hlen]⟩,q⟩
theorem call_list_of:CallR X (.type "list") (fun xs H Q=>∃ p ys,xs=[.ref p] /\ (SqL X.K H p ys \/ SqT X.K H p ys) /\ ∀ l,H l=none -> Q (.ref l) (upd H l (.lst ys))):=by
  intro pins s σ H xs us Q I r h
  obtain ⟨p,ys,rfl,hq,q⟩:=h
  obtain ⟨u,rfl,rx⟩:=vals1 r
  cases rx
  have fin:∀ (its:List Value),Vals ys its -> ys.length <= sizeLine -> ∀ (h':Heap) (c':Nat),(∀ b o',s.heap.get? b=some o' -> h'.get? b=some o') ->
      h'.get? s.heap.objs.size=some { cls:=.type "list",dict:=none,data:=.seq its.toArray c',slots:=#[] } -> EP X pins σ Q (.ref s.heap.objs.size) { s with heap:=h' }:=fun its r' hz h' c' kp e =>
    ⟨.ref s.heap.objs.size,_,I.laid (t':=s.toks) kp (Nat.le_refl _) (show ObjOk X.prog X.w _ h' _ (.lst ys) from ⟨hz,its,c',r',e⟩),rfl,q _ (I.hok.fresh (Nat.le_refl _))⟩
  rcases hq with hq | hq
  . obtain ⟨its,r',pl,hz⟩:=I.list hq
    have hlen:=r'.length
    obtain ⟨o,ho,hc,n,hd⟩:=pl.isList
    exact call_list_seq p (.inl rfl) ho hc hd (fun h' c' kp e=>fin its r' hz h' c' kp e) (by simp only [List.size_toArray] <;> omega)
  . obtain ⟨its,r',pl,hz⟩:=I.tuple hq
    have hlen:=r'.length
    obtain ⟨o,ho,hc,n,hd⟩:=pl
    exact call_list_seq p (.inr rfl) ho hc hd (fun h' c' kp e=>fin its r' hz h' c' kp e) (by simp only [List.size_toArray] <;> omega)
def tyV (K:PySem.W.Frag) (T:String) (x:V) (H:Hp):Prop:=match x with
  | .str _=>T="str"
  | .int _=>T="int"
  | .ref p=>(T="list" /\ ∃ xs,SqL K H p xs) \/ (T="tuple" /\ ∃ o,K.lookup p=some o /\ o.cls=.type "tuple" /\ o.dict=none) \/
      (T="dict" /\ ((∃ kvs,H p=some (.dK kvs)) \/ ∃ kvs,H p=some (.dT kvs))) \/ (T="set" /\ ∃ S n,H p=some (.set S n))
  | _=>False
theorem tyV_is {pins:List (Addr × Obj)} {σ:St} {H:Hp} {s:Shared} {T:String} {x:V} {v:Value} (I:Inv X pins σ H s) (r:RelV x v) (ty:tyV X.K T x H) :
    s.TypeIs v T /\ ∀ a,v=.ref a -> ∃ ob,s.heap.get? a=some ob /\ ob.dict=none:=by
  cases x with
  | str z =>
    obtain ⟨t,rfl⟩:=r
    cases (show T="str" from ty)
    exact ⟨typeIs_str s z t,fun _ e=>nomatch e⟩
  | int i =>
    obtain ⟨t,rfl⟩:=r
    cases (show T="int" from ty)
    exact ⟨typeIs_int s i t,fun _ e=>nomatch e⟩
  | ref p =>
    cases r
    rcases ty with ⟨rfl,xs,hq⟩ | ⟨rfl,o,hk,hc,hd⟩ | ⟨rfl,hk⟩ | ⟨rfl,S,n,hk⟩
    . obtain ⟨its,_,pl,_⟩:=I.list hq
      refine ⟨pl.isList.typeIs,fun a e=>?_⟩
      cases e
      obtain ⟨o,n,e,c,hd,_⟩:=pl
      exact ⟨o,e,hd⟩
    . refine ⟨⟨o,I.kIn p o hk,hc⟩,fun a e=>?_⟩
      cases e
      exact ⟨o,I.kIn _ o hk,hd⟩
    . have z:∃ o,s.heap.get? p=some o /\ o.ExactDict:=by
        rcases hk with ⟨kvs,hk⟩ | ⟨kvs,hk⟩
        . obtain ⟨_,_,_,_,o,_,_,e,ex,_⟩:=I.hok p _ hk
          exact ⟨o,e,ex⟩
        . obtain ⟨_,_,_,_,o,_,_,e,ex,_⟩:=I.hok p _ hk
          exact ⟨o,e,ex⟩
      obtain ⟨o,e,ex⟩:=z
      refine ⟨⟨o,e,ex.1⟩,fun a e2=>?_⟩
      cases e2
      exact ⟨o,e,ex.2.1⟩
    . obtain ⟨o,_,_,_,e,ex,_⟩:=I.hok p _ hk
      refine ⟨⟨o,e,ex.1⟩,fun a e2=>?_⟩
      cases e2
      exact ⟨o,e,ex.2.1⟩
  | _=>exact False.elim ty
def tBM0 (K:PySem.W.Frag) (T:String) (r:V -> List V -> Hp -> VK -> Prop) (to:TE):TE:=fun σ H Q=>to σ H fun x H1=>tyV K T x H1 /\ r x [] H1 Q
def tBM (K:PySem.W.Frag) (T:String) (r:V -> List V -> Hp -> VK -> Prop) (to:TE) (t:TA):TE:=fun σ H Q=>to σ H fun x H1=>tyV K T x H1 /\ t σ H1 fun xs H2=>r x xs H2 Q
variable {o e:Expr} {es:List Expr} {to:TE} {t:TA} {name:Str} {apos cpos:Pos} {T id:String} {r:V -> List V -> Hp -> VK -> Prop}
theorem pe_bm0 (pa:PlainAttrs T) (slot:Slot T name id) (hty:typeOf (.builtin id)=pure (.type "method_descriptor")) (hm:MtR X id r) (ho:PE X o to)
    (hbase:attributeBase o name X.env (eval o X.env)=eval o X.env:=by rfl) (hline:(apos.endLine == cpos.line)=true:=by rfl):PE X (.Call (.Attribute o name apos) [] [] cpos) (tBM0 X.K T r to):=by
  intro pins s σ H Q I h
  refine wpAny_Call_method0_late hbase hline (thn (ho pins s σ H _ I h) fun v s1 ⟨x,H1,I1,r1,ty,q1⟩=>?_)
  obtain ⟨h1,h2⟩:=tyV_is I1 r1 ty
  exact ⟨T,id,pa,slot,hty,h1,h2,Calls.callWith_builtin rfl (PySem.evalArgs_none (hm pins s1 σ H1 x [] v [] Q I1 r1 .nil q1))⟩
theorem pe_bm (pa:PlainAttrs T) (slot:Slot T name id) (hty:typeOf (.builtin id)=pure (.type "method_descriptor")) (hm:MtR X id r) (ho:PE X o to) (ha:PA X (e :: es) t)
    (hbase:attributeBase o name X.env (eval o X.env)=eval o X.env:=by rfl)
    (hfew:((backTo cpos (starEach (e :: es) X.env)).all (fun x=>!x.1) && (backToKw cpos (keywordEach [] X.env)).all (fun x=>x.1.isSome)
      && decide ((e :: es).length + ([]:List Keyword).length + (if ([]:List Keyword).isEmpty then 0 else 1) < 30))=true:=by rfl)
    (hline:(apos.endLine == cpos.line)=true:=by rfl) (hs:starEach (e :: es) X.env=(false,eval e X.env) :: starEach es X.env:=by rfl) (hplain:(backTo cpos (starEach es X.env)).any (·.1)=false:=by rfl) :
    PE X (.Call (.Attribute o name apos) (e :: es) [] cpos) (tBM X.K T r to t):=by
  intro pins s σ H Q I h
  refine wpAny_Call_method_late hbase hfew hline rfl (thn (ho pins s σ H _ I h) fun v s1 ⟨x,H1,I1,r1,ty,q1⟩=>?_)
  obtain ⟨h1,h2⟩:=tyV_is I1 r1 ty
  refine ⟨T,id,pa,slot,hty,h1,h2,?_⟩
  have hA:=ha cpos pins s1 σ H1 _ I1 q1
  rw [hs] at hA ⊢
  refine Calls.callWith_builtin (by show (false || (backTo cpos (starEach es X.env)).any (·.1))=false; rw [hplain] <;> rfl) (Calls.evalArgs_plain ?_)
  exact thn hA fun us s2 ⟨vs,H2,I2,r2,q2⟩=>hm pins s2 σ H2 x vs v us Q I2 r1 r2 q2
/- xs.append(e),list.index on a module's tuple .. are MtR facts of 06m -/
end
def MtM (X:Cx) (id:String) (r:V -> List V -> Hp -> VK -> Prop):Prop :=
  ∀ (pins:List (Addr × Obj)) (s:Shared) (σ:St) (H:Hp) (x:V) (xs:List V) (v:Value) (us:List Value) (Q:VK),Inv X pins σ H s -> RelV x v -> Vals xs us -> r x xs H Q ->
    wpAny (model X.prog X.w) X.A (call (.builtin id) (v :: us)) (EP X pins σ Q) X.xe s
theorem Vals.one:∀ {x:V} {us:List Value},Vals [x] us -> ∃ u,us=[u] /\ RelV x u
  | _,_,.cons r .nil=>⟨_,rfl,r⟩
theorem Vals.zero:∀ {us:List Value},Vals [] us -> us=[]
  | _,.nil=>rfl
theorem Vals.dropLast {xs:List V} {us:List Value} (h:Vals xs us):Vals xs.dropLast us.dropLast:=by
  induction h with
  | nil=>exact .nil
  | cons r t ih =>
    cases t with
    | nil=>exact .nil
    | cons q t'=>exact .cons r ih
theorem Vals.rep {xs:List V} {us:List Value} (h:Vals xs us):∀ k:Nat,Vals (List.replicate k xs).flatten (List.replicate k us).flatten
  | 0=>.nil
  | k + 1=>by
    rw [List.replicate_succ,List.replicate_succ,List.flatten_cons,List.flatten_cons]
    exact Vals.append h (Vals.rep h k)
theorem erase_last {α:Type} (l:List α):l.eraseIdx (l.length - 1)=l.dropLast:=by
  induction l with
  | nil=>rfl
  | cons a r ih =>
    cases r with
    | nil=>rfl
    | cons b r =>
      have e:(a :: b :: r).length - 1=((b :: r).length - 1) + 1:=by
        have h1:(a :: b :: r).length=r.length + 2:=rfl
        have h2:(b :: r).length=r.length + 1:=rfl
        omega
      rw [e,List.eraseIdx_cons_succ,ih]
      all_goals rfl
theorem foldl_rep (its:List Value):∀ (k:Nat) (acc:List Value),
    List.foldl (fun x1 x2=>x1 ++ x2) acc.toArray (List.replicate k its.toArray)=(acc ++ (List.replicate k its).flatten).toArray
  | 0,acc=>by simp
  | k + 1,acc=>by
    have e:acc.toArray ++ its.toArray=(acc ++ its).toArray:=by simp
    have e2:(acc ++ its) ++ (List.replicate k its).flatten=acc ++ (List.replicate (k + 1) its).flatten:=by
      rw [List.replicate_succ,List.flatten_cons,List.append_assoc]
    rw [<- e2,<- foldl_rep its k (acc ++ its),<- e,List.replicate_succ,List.foldl_cons]
section
variable {X:Cx} {pins:List (Addr × Obj)} {σ:St} {H:Hp} {s:Shared} {l b:Addr} {xs ys zs:List V}
theorem Inv.lset {its its':List Value} {n:Nat} {f:Array Value -> Array Value} {t':Nat} (I:Inv X pins σ H s) (hH:H l=some (.lst xs))
    (e:s.heap.get? l=some { cls:=.type "list",data:=.seq its.toArray n }) (hf:f its.toArray=its'.toArray) (hv:Vals ys its') (hz:ys.length <= sizeLine) :
    Inv X pins σ (upd H l (.lst ys)) { s with heap:=s.heap.update l (Obj.mapSeq f),toks:=t' }:=by
  have q:=PySem.IsL.update e f
  rw [hf] at q
  refine I.write (x:=l) (e:=l) (by rw [hH]; exact trivial) (.inl rfl) (fun b' u hb hu=>(Heap.get?_update_other s.heap (Obj.mapSeq f) (Ne.symm hb)).trans hu) ⟨_,q⟩ ?_
  exact ⟨hz,its',_,hv,q⟩
theorem Inv.lnew {its:List Value} {t':Nat} (I:Inv X pins σ H s) (hv:Vals ys its) (hz:ys.length <= sizeLine) :
    Inv X pins σ (upd H s.heap.objs.size (.lst ys)) { s with heap:=s.heap.push { cls:=.type "list",data:=.seq its.toArray },toks:=t' } :=
  I.laid (fun _ _ q=>Heap.get?_push_of_some _ q) (Nat.le_refl _) ⟨hz,its,0,hv,Heap.get?_push_size _ rfl⟩
theorem Inv.fresh (I:Inv X pins σ H s):H s.heap.objs.size=none:=I.hok.fresh (Nat.le_refl _)
theorem Inv.lstM (I:Inv X pins σ H s) (hH:H l=some (.lst xs)):xs.length <= sizeLine /\ ∃ (its:List Value) (n:Nat),Vals xs its /\ xs.length=its.length /\ s.heap.get? l=some { cls:=.type "list",data:=.seq its.toArray n }:=by
  obtain ⟨z,its,n,r,e⟩:=I.hok l _ hH
  exact ⟨z,its,n,r,r.length,e⟩
theorem notLongL {n:Nat} (h:n <= sizeLine):Builtin.List.listTooLong n=false:=by
  unfold Builtin.List.listTooLong
  exact decide_eq_false (by omega)
end
section
variable {X:Cx}
def rAppend:V -> List V -> Hp -> VK -> Prop:=fun x vs H Q=>∃ l xs y,x=.ref l /\ vs=[y] /\ H l=some (.lst xs) /\ xs.length < sizeLine /\ Q .non (upd H l (.lst (xs ++ [y])))
theorem mt_append:MtM X "list.append" rAppend:=by
  intro pins s σ H x vs v us Q I rx rv h
  obtain ⟨l,xs,y,rfl,rfl,hH,hz,q⟩:=h
  cases rx
  obtain ⟨u,rfl,ru⟩:=rv.one
  obtain ⟨z,its,n,r,hl,e⟩:=I.lstM hH
  refine call_meets F.slot_list_append ⟨_,e,rfl⟩ F.entry_list_append (F.args_list_append_2 _ _) (PySem.list_append l its.toArray n u (by rw [List.size_toArray]; omega)) ⟨e,?_⟩
  refine ⟨.non,_,I.lset (its':=its ++ [u]) hH e (by simp) (r.append (.cons ru .nil)) ?_,rfl,q⟩
  rw [List.length_append,List.length_singleton]
  omega
def rPop:V -> List V -> Hp -> VK -> Prop:=fun x vs H Q=>∃ l xs y,x=.ref l /\ vs=[] /\ H l=some (.lst xs) /\ xs[xs.length - 1]?=some y /\ Q y (upd H l (.lst xs.dropLast))
theorem mt_pop:MtM X "list.pop" rPop:=by
  intro pins s σ H x vs v us Q I rx rv h
  obtain ⟨l,xs,y,rfl,rfl,hH,hy,q⟩:=h
  cases rx
  have hus:=rv.zero
  subst hus
  obtain ⟨z,its,n,r,hl,e⟩:=I.lstM hH
  obtain ⟨u,hu,ru⟩:=r.get hy
  have hy':its.toArray[its.toArray.size - 1]?=some u:=by
    show its.toArray[its.length - 1]?=some u
    rw [<- Array.getElem?_toList,<- hl]
    exact hu
  refine call_meets F.slot_list_pop ⟨_,e,rfl⟩ F.entry_list_pop (F.args_list_pop_1 _) (MeetsSeq.list_pop_last l its.toArray n u hy' (by rw [List.size_toArray]; omega)) ⟨e,?_⟩
  refine ⟨y,_,I.lset (its':=its.dropLast) hH e ?_ r.dropLast ?_,ru,q⟩
  . show its.toArray.eraseIdxIfInBounds (its.toArray.size - 1)=its.dropLast.toArray
    rw [List.size_toArray,List.eraseIdxIfInBounds_toArray,erase_last]
  . rw [List.length_dropLast]
    omega
def rRep:R2:=fun x y H Q=>∃ l k xs,x=.ref l /\ y=.int k /\ H l=some (.lst xs) /\ -(2 ^ 63) <= k /\ k < 2 ^ 63 /\ xs.length * k.toNat <= sizeLine /\
  ∀ p,H p=none -> Q (.ref p) (upd H p (.lst (List.replicate k.toNat xs).flatten))
theorem len_rep {α:Type} (xs:List α) (k:Nat):(List.replicate k xs).flatten.length=k * xs.length:=by
  induction k with
  | zero=>simp
  | succ k ih=>rw [List.replicate_succ,List.flatten_cons,List.length_append,ih,Nat.succ_mul,Nat.add_comm]
theorem op_rep:OpR X (binaryOp .Mult) rRep:=by
  intro pins s σ H x y v u Q I rx ry h
  obtain ⟨l,k,xs,rfl,rfl,hH,h1,h2,hz,q⟩:=h
  cases rx
  obtain ⟨t,rfl⟩:=ry
  obtain ⟨z,its,n,r,hl,e⟩:=I.lstM hH
  have hlen:its.toArray.size * k.toNat <= sizeLine:=by rw [List.size_toArray,<- hl]; exact hz
  have hcap:¬ its.toArray.size * k.toNat > (2 ^ 63 - 1) / 8:=by
    have:(sizeLine:Nat) <= (2 ^ 63 - 1) / 8:=by decide
    omega
  have hfit:¬ (!Builtin.List.listFitsIndex k)=true:=by
    rw [fitsIndex_both h1 h2]
    exact Bool.false_ne_true
  have hlong:¬ Builtin.List.listTooLong (its.toArray.size * k.toNat)=true:=by
    rw [notLongL hlen]
    exact Bool.false_ne_true
  have hnew:List.foldl (fun x1 x2=>x1 ++ x2) #[] (List.replicate (if its.toArray.isEmpty=true then 0 else k.toNat) its.toArray)=(List.replicate k.toNat its).flatten.toArray:=by
    have f0:∀ m:Nat,List.foldl (fun x1 x2=>x1 ++ x2) #[] (List.replicate m its.toArray)=(List.replicate m its).flatten.toArray:=fun m=>by
      have:=foldl_rep its m []
      rw [List.nil_append] at this
      exact this
    rw [f0]
    cases its with
    | nil=>simp
    | cons a r'=>rw [if_neg (by simp)]
  refine wpAny_binaryOp_repeat_ref (T:="list") (U:="int") (by decide) ⟨_,e,rfl⟩ (fun s'=>typeIs_int s' k t) noFill_list_mul F.fills_int_mul F.slot_int_rmul repeat_list F.slot_int_index.lookup
    (call_meets F.slot_int_rmul (typeIs_int s k t) F.entry_int_rmul (F.args_int_rmul_2 _ _) (int___rmul___int_list k t l its.toArray n)
      ⟨e,rfl,⟨_,e,rfl⟩,call_meets F.slot_list_mul ⟨_,e,rfl⟩ F.entry_list_mul (F.args_list_mul_2 _ _) (AutoListH.list___mul___list_int_3 l its.toArray n k t hfit hcap hlong) ⟨e,?_⟩⟩)
  rw [hnew]
  exact ⟨.ref _,_,I.lnew (t':=s.toks) (r.rep k.toNat) (by rw [len_rep,Nat.mul_comm]; exact hz),rfl,q _ I.fresh⟩
end
end L2
namespace Att
open PySem PySem.W PySem.Calls PyProof.Rows
theorem ints_of_wellAll {P:Params} {h:Heap}:∀ (ns:List Int) (vs:List Value),WellAll P h vs (ns.map WData.int) -> IntsAre vs ns:=by
  intro ns
  induction ns with
  | nil =>
    intro vs w
    rw [List.map_nil] at w
    cases w
    exact .nil
  | cons n ns ih =>
    intro vs w
    rw [List.map_cons] at w
    cases w with
    | cons a b =>
      cases a
      exact .cons _ _ (ih _ b)
theorem script_of {l:OpenLaw} {n:Nat} (hn:l.most=some n) {P:Params} {h:Heap} {args:List WData} {vals:List Value}
    (hpre:l.row.toRowW.claim.pre args=true) (hwl:WellAll P h vals args) :
    ∃ a vs ns,vals=[Value.ref a] /\ args=[WData.list (ns.map WData.int)] /\ h.get? a=some { cls:=.type "list",data:=.seq vs.toArray } /\ IntsAre vs ns /\ ns.length <= n:=by
  have hsh:WShape.hasAll [] args [.list .int]=true:=(pre_splitW hpre).1
  have hc:l.pre.holds [] { args:=args }=true:=(pre_splitW hpre).2
  obtain ⟨d,r,rfl,h1,h2⟩:=hasAllW_cons hsh
  obtain rfl:=hasAllW_nil h2
  obtain ⟨xs,rfl,h3⟩:=hasW_list h1
  obtain ⟨ns,rfl⟩:=items_int h3
  have hlen:ns.length <= n:=by
    unfold OpenLaw.pre at hc
    have h4:(WTm.not (.lt (.lit (.int (n:Int))) (.len (.arg 0)))).holds [] { args:=[.list (ns.map .int)] }=true:=by
      have h4:=(holds_andW hc).1
      rw [hn] at h4
      exact h4
    have h5:=condW_of h4 (w_not (w_lt w_lit (w_len_list (w_arg rfl))))
    rw [List.length_map] at h5
    refine Nat.le_of_not_lt fun q=>?_
    have q':(n:Int) < ((ns.length:Nat):Int):=by omega
    first
      | (rw [decide_eq_true q'] at h5; exact absurd h5 (by decide))
      | (simp at h5; omega)
  cases hwl with
  | cons w1 w2 =>
    cases w2
    cases w1 with
    | list ho hall=>exact ⟨_,_,ns,rfl,rfl,ho,ints_of_wellAll ns _ hall,hlen⟩
theorem post_true (l:OpenLaw) (args:List WData):l.row.toRowW.claim.post args (.bool true) args=true :=
  postW_of (r:=l.row.toRowW) (X:=(true == true))
    (show WShape.has [] (.bool true) .bool=true by first | rfl | decide | simp [WShape.has,WShape.arms,WShape.armsAll])
    (show (WTm.eq .res (.lit (.bool true))).value [] { args:=args,res:=some (.bool true),after:=args }=some (.bool (true == true)) from w_eq_bool (w_res rfl) w_lit) rfl
section
variable {prog:Program} {w:World} {A:Around} {E:Value -> Shared -> Prop} {s:Shared} {K:Frag}
def ledger (h:Heap) (L d:Addr):List (Addr × Obj):=(List.range h.objs.size).filterMap fun a=>if a=L \/ a=d then none else (h.get? a).map fun o=>(a,o)
end
end Att
namespace L2
open PySem PySem.Spec PyProof.Rows
theorem vals_ints:∀ {vs:List Value} {ns:List Int},IntsAre vs ns -> Vals (ns.map V.int) vs
  | _,_,.nil=>.nil
  | _,_,.cons n t h=>.cons ⟨t,rfl⟩ (vals_ints h)
def Only (H:Hp):Prop:=∀ b,H b=none \/ ∃ o xs,H b=some (.frz o (.lst xs))
theorem law_call {P:Program} {w:World} {K:PySem.W.Frag} {mg mb:Str -> Option Value} {CX:CXT} {k:Nat} {fa a:Addr} {fd:FuncData} {x:Str} {sp:Sp} {s₁:Shared} {vs:List Value} {ns:List Int}
    (KX:K.In s₁.heap) (hns:s₁.heap.Ns mainGlobals mg) (hb:s₁.heap.Ns builtinsNs mb) (hbb:∀ x:Str,x ≠ "__name__" -> mb x=bootBuiltins x) (hlim:s₁.heap.NoLimit) (hg:s₁.gens = #[])
    (ha:s₁.heap.get? a=some { cls:=.type "list",data:=.seq vs.toArray }) (hi:IntsAre vs ns) (hl:ns.length <= sizeLine) (hr:Room k callerA)
    (F:∀ base:Heap,K.In base -> base.Ns mainGlobals mg -> FnOk P w K mg base CX k fa fd [x] sp) (hbind:∀ (s:Shared) (u:Value),BindsTo s fd ⟨[u],[]⟩ [(x,u)])
    (hsp:∀ H:Hp,Only H -> SqL K H a (ns.map V.int) -> sp [.ref a] H (fun v _=>v=.bl true) fun _ _ _=>False)
    (hCX:∀ H e s',CX [] H s₁ (fun _ _ _=>False) e s' -> False) :
    codeAny (model P w) callerA (.call (.ref fa) ⟨[.ref a],[]⟩) (fun r s'=>r=.ok (.ret (.bool true)) /\ OldK s₁.heap s'.heap /\ s'.os=s₁.os /\ AllBare s'.gens) s₁:=by
  have rv:=vals_ints hi
  have lenV:=hi.length
  have core:∀ H:Hp,Only H -> SqL K H a (ns.map V.int) -> HOk P w H s₁.heap -> (∀ b,H b ≠ none -> b=a) -> (H a ≠ none -> K.lookup a=none) ->
      codeAny (model P w) callerA (.call (.ref fa) ⟨[.ref a],[]⟩) (fun r s'=>r=.ok (.ret (.bool true)) /\ OldK s₁.heap s'.heap /\ s'.os=s₁.os /\ AllBare s'.gens) s₁:=by
    intro H hO hS hok hA hK
    have base_of:∀ {b:Addr} {o:Obj},s₁.heap.get? b=some o -> H b=none -> (hidT s₁.heap H).get? b=some o:=fun e n=>hidT_get e n
    have noA:∀ {b:Addr} {o:Obj} {es:Array DictEntry} {ep:Nat},s₁.heap.get? b=some o -> o.data=.dict es ep -> H b=none:=fun {b o es ep} e d=>by
      cases q:H b with
      | none=>rfl
      | some u =>
        have e':b=a:=hA b (by rw [q]; simp)
        subst e'
        rw [ha] at e; cases e
        have d':Data.seq vs.toArray _=Data.dict es ep:=d
        cases d'
    have nsK:∀ {b:Addr} {m:Str -> Option Value},s₁.heap.Ns b m -> (hidT s₁.heap H).Ns b m:=fun {b m} ⟨o,es,ep,e,d,r⟩=>⟨o,es,ep,base_of e (noA e d),d,r⟩
    have hKb:K.In (hidT s₁.heap H):=fun b o e=>base_of (KX b o e) (by
      cases q:H b with
      | none=>rfl
      | some u =>
        have e':b=a:=hA b (by rw [q]; simp)
        subst e'
        rw [hK (by rw [q]; simp)] at e; cases e)
    have hM:Mod K mg (hidT s₁.heap H):=⟨hKb,nsK hns,⟨mb,nsK hb,hbb⟩,let ⟨mc,h1,h2⟩:=hlim; ⟨mc,nsK h1,h2⟩⟩
    have e0:Env0 P w K mg (hidT s₁.heap H) callerA [] s₁ H:=⟨rfl,hM,fun b o e=>of_hidT e,Nat.le_of_eq (hidT_size _ _),trivial,fun b hb=>absurd (show b ∈ ([]:List Addr) from hb) (by simp),hok,.of_eq hg⟩
    refine codeAny_mono ((F _ hKb (nsK hns)).run callerA [] s₁ H ⟨[.ref a],[]⟩ [.ref a] [.ref a] _ _ hr e0 (hbind s₁ (.ref a)) (.cons rfl .nil) (hsp H hO hS)) fun r s' h=>?_
    cases r with
    | error e=>exact (hCX H e s' h).elim
    | ok fl =>
      cases fl with
      | next=>exact False.elim h
      | brk=>exact False.elim h
      | cont=>exact False.elim h
      | ret u =>
        obtain ⟨v,H',os,bare,un,hok',r',q⟩:=h
        have q':v=.bl true:=q
        subst q'
        obtain rfl:u=Value.bool true:=r'
        refine ⟨rfl,OldK.of_keep fun b o e=>?_,os,bare⟩
        cases q:H b with
        | none=>exact un.keep b o e q (by intro z; exact absurd (show b ∈ ([]:List Addr) from z) (by simp)) (by simp)
        | some u =>
          rcases hO b with z | ⟨ob,xs,z⟩
          . rw [q] at z; cases z
          . have z2:=un.frzs b ob _ z
            obtain ⟨e1,_⟩:=hok b _ z
            obtain ⟨e2,_⟩:=hok' b _ z2
            rw [e] at e1; cases e1
            exact e2
  cases hk:K.lookup a with
  | some o =>
    have e:=KX a o hk
    rw [ha] at e
    cases e
    refine core (fun _=>none) (fun _=>.inl rfl) (.inr ⟨_,vs.toArray,_,hk,rfl,rfl,rfl,by rw [List.size_toArray,lenV]; exact hl,by simpa using rv⟩) (fun b u z=>by have z':(none:Option HO)=some u:=z; cases z') (fun b z=>absurd rfl z) fun z=>absurd rfl z
  | none =>
    refine core (fun b=>if b=a then some (.frz { cls:=.type "list",data:=.seq vs.toArray } (.lst (ns.map V.int))) else none) (fun b=>?_) (.inl (.inr ⟨{ cls:=.type "list",data:=.seq vs.toArray },if_pos rfl⟩)) (fun b u z=>?_) (fun b z=>?_) fun _=>hk
    . by_cases hb:b=a
      . exact .inr ⟨_,_,if_pos hb⟩
      . exact .inl (if_neg hb)
    . by_cases hb:b=a
      . have z':=(if_pos hb).symm.trans z
        cases z'
        subst hb
        exact ⟨ha,by rw [List.length_map]; exact hl,vs,_,rv,ha⟩
      . have z':=(if_neg hb).symm.trans z
        cases z'
    . by_cases hb:b=a
      . exact hb
      . exact absurd (if_neg hb) z
abbrev KOf {K:PySem.W.Frag} {h:Heap} (_:K.In h):PySem.W.Frag:=K
end L2
/- THE LAST THEOREM (shape; LID,My.* are yours):
   My.Adr: a structure of the addresses that your layer names (classes,functions); My.Txt K t: a structure (Prop) of the equations over K;
   My.txt_mk:{K} {implicit addresses ..} (e1:nsIn K mainGlobals "law"=some (some (.ref f))) (e2:K.lookup f=some ⟨oc,od,.func (fnOf "law" "law" params body scope dV kV doc pm an cdv ct),sl⟩) (e3:codeIn K cdv "law"=true) ..:∃ t,My.Txt K t
set_option maxRecDepth 100000 in
set_option maxHeartbeats 0 in
theorem PySem.Challenge.cw_LID_holds:PySem.Challenge.rw_LID.Holds:=by
  w_on; o_law; k_head; (case hw=>w_witness2)
  k_fill
  refine L2.walk_of (l:=PySem.Challenge.rw_LID) (n:=63) (k:=40) (x:="script") (CX:=fun w=>..) (sp:=fun _=>My.sp_law) rfl (by decide) rfl ⟨rfl,by decide,by decide⟩ (fun w h Y=>PySem.W.kIn_of Y) ?F ?S ?C
  case F =>
    intro w mg fa h KX G hmg
    have T:∃ t,My.Txt (L2.KOf KX) t:=by
      dsimp only [L2.KOf]                          -- K must stand as «<heap const> w.params» for k_is
      refine' My.txt_mk ?e1 ?e2 ?e3 ..
      (case e1=>PySem.W.k_is)                    -- in the order: a name -> its address -> its object -> its parts
      (case e2=>PySem.W.k_is)
      ..
    obtain ⟨t,T⟩:=T
    have e0:=hmg.symm.trans (PySem.W.mg_of KX G T.law)
    cases e0                                       -- fa is the law's own address
    exact ⟨_,fun s u=>.of_eq rfl,fun base kb nb=>My.law_fn T kb nb⟩     -- if «.of_eq rfl» comes too early: refine' ⟨_,?b,fun base kb nb=>My.law_fn T kb nb⟩; exact fun s u=>.of_eq rfl
  case S=>exact fun w H a ns hl hO hS=>..
  case C=>exact ..
(the tactic k_is has no namespace: write k_is) -/
namespace L2
open PySem PySem.Spec PyProof.Rows
def inClass (s:Stmt) (j:Nat):Stmt:=match s with
  | .ClassDef _ _ _ body _ _ _ _ _ _ _=>body.getD j (.Pass ⟨0,0,0,0⟩)
  | _=>.Pass ⟨0,0,0,0⟩
def defArgs (s:Stmt):Arguments:=match s with
  | .FunctionDef _ a _ _ _ _ _ _ _ _=>a
  | _=>{ posonlyargs:=[],args:=[],vararg:=none,kwonlyargs:=[],kw_defaults:=[],kwarg:=none,defaults:=[] }
def defBody (s:Stmt):List Stmt:=match s with
  | .FunctionDef _ _ b _ _ _ _ _ _ _=>b
  | _=>[]
def defScope (s:Stmt):Scope:=match s with
  | .FunctionDef _ _ _ _ _ _ sc _ _ _=>sc
  | _=>{ kind:=.function,names:=[],isGenerator:=false,isCoroutine:=false }
abbrev CX0:CXT:=fun _ _ _ _ _ _=>False
abbrev E0:XK:=fun _ _ _=>False
theorem pass0 {X:Cx}:Passes CX0 X E0:=fun _ _ _ _ _ _ _ h=>h.elim
structure Fun (K:PySem.W.Frag) (x qual:Str) (st:Stmt) (f:Addr) (fd:FuncData):Prop where
  ex:∃ (oc:Value) (od:Option Addr) (kV doc pm:Value) (an:Option Addr) (cdv ct:Value) (osl:Array (Option Value)),
    fd=PySem.W.fnOf x qual (defArgs st) (defBody st) (defScope st) .none kV doc pm an cdv ct /\ K.lookup f=some ⟨oc,od,.func fd,osl⟩ /\ PySem.W.codeIn K cdv qual=true
  kp:PySem.W.keepIn K (.ref f)=true
section
variable {P:Program} {w:World} {K:PySem.W.Frag} {mg:Str -> Option Value} {base:Heap}
theorem Fun.ok {x qual:Str} {st:Stmt} {f:Addr} {fd:FuncData} {N ps:List Str} {k:Nat} {sp:Sp} (F:Fun K x qual st f fd) (S:FnScope N ps (defScope st)) (len:∀ vs H Q E,sp vs H Q E -> vs.length=ps.length)
    (hbody:∀ (cdv:Value) (A:Around) (outer:List Env) (s:Shared) (H:Hp) (vs:List V) (Q:VK) (E:XK),Room k (A.deeper (envOfC qual (defScope st) s.heap.objs.size f cdv)) -> sp vs H Q E ->
      ∃ t,PSs (cxOf CX0 P w K mg base N qual (defScope st) f cdv A outer s H E).nox (defBody st) t /\ t { nx:=fun _ H'=>Q .non H',rt:=Q } (start N vs) H):FnOk P w K mg base CX0 (k + 1) f fd ps sp:=by
  obtain ⟨oc,od,kV,doc,pm,an,cdv,ct,osl,rfl,lk,hcd⟩:=F.ex
  refine fn_of lk hcd S len fun A outer s H vs Q E hr hsp=>?_
  obtain ⟨t,h,q⟩:=hbody cdv A outer s H vs Q E hr hsp
  exact ⟨t,h.nox,q⟩
theorem Fun.binds {x qual:Str} {st:Stmt} {f:Addr} {fd:FuncData} {ps:List Str} (F:Fun K x qual st f fd)
    (h:∀ (kV doc pm:Value) (an:Option Addr) (cdv ct:Value) (us:List Value),us.length=ps.length -> bindArgs (PySem.W.fnOf x qual (defArgs st) (defBody st) (defScope st) .none kV doc pm an cdv ct) ⟨us,[]⟩=pure (ps.zip us)):Binds K fd ps []:=by
  obtain ⟨oc,od,kV,doc,pm,an,cdv,ct,osl,rfl,lk,hcd⟩:=F.ex
  exact .all (h kV doc pm an cdv ct)
theorem fun_mk {x qual:Str} {st:Stmt} {f:Addr} {oc:Value} {od an:Option Addr} {osl:Array (Option Value)} {kV doc pm cdv ct:Value} (l:K.lookup f=some ⟨oc,od,.func (PySem.W.fnOf x qual (defArgs st) (defBody st) (defScope st) .none kV doc pm an cdv ct),osl⟩)
    (c:PySem.W.codeIn K cdv qual=true) (k:PySem.W.keepIn K (.ref f)=true):Fun K x qual st f (PySem.W.fnOf x qual (defArgs st) (defBody st) (defScope st) .none kV doc pm an cdv ct):=⟨⟨oc,od,kV,doc,pm,an,cdv,ct,osl,rfl,l,c⟩,k⟩
end
theorem small1000 {n:Nat} (h:n <= 1000):n < sizeLine:=Nat.lt_of_le_of_lt h (by decide)
section
variable {X:Cx}
theorem pv (i:Nat) {x:Str} {pos:Pos} (hN:X.N[i]?=some x:=by rfl) (hv:Vis X.env.scope x:=by first | exact Or.inl rfl | exact Or.inr (Or.inl rfl) | exact Or.inr (Or.inr rfl)) (hd:(x == ("__debug__":Str))=false:=by decide)
    (hcd:(x == ("__classdict__":Str))=false:=by decide):PE X (.Name x pos) (tVar i):=pe_var hN hv hd hcd
end
theorem iteF {A B:Prop} (h:B):if false=true then A else B:=by
  rw [if_neg Bool.false_ne_true]
  exact h
theorem iteT {A B:Prop} (h:A):if true=true then A else B:=by
  rw [if_pos rfl]
  exact h
def Same (H H':Hp):Prop:=∀ b o,H b=some o -> H' b=some o
theorem Same.refl (H:Hp):Same H H:=fun _ _ h=>h
theorem Same.trans {H H1 H2:Hp} (a:Same H H1) (b:Same H1 H2):Same H H2:=fun c o h=>b c o (a c o h)
theorem Same.free {H H':Hp} (e:Same H H') {l:Addr} (h:H' l=Option.none):H l=Option.none:=by
  cases q:H l with
  | none=>rfl
  | some o =>
    rw [e l o q] at h
    cases h
theorem Same.seq {K:PySem.W.Frag} {H H':Hp} {a:Addr} {xs:List V} (e:Same H H') (h:SqL K H a xs):SqL K H' a xs:=by
  rcases h with (h | ⟨o,h⟩) | h
  . exact .inl (.inl (e _ _ h))
  . exact .inl (.inr ⟨o,e _ _ h⟩)
  . exact .inr h
def gI (σ:St) (i:Nat):Int:=match σ[i]? with
  | some (some (.int n))=>n
  | _=>0
def hI (σ:St) (i:Nat):Prop:=σ[i]?=some (some (.int (gI σ i)))
def tN (C:St -> Hp -> Prop) (g:St -> Int):TE:=fun σ H Q=>C σ H /\ Q (.int (g σ)) H
def tP (C:St -> Hp -> Prop) (p:St -> Prop) [∀ σ,Decidable (p σ)]:TT:=fun σ H Q=>C σ H /\ Q (decide (p σ)) H
def tV (C:St -> Hp -> Prop) (p:St -> Prop) [∀ σ,Decidable (p σ)]:TE:=fun σ H Q=>C σ H /\ Q (.bl (decide (p σ))) H
def tNs (C:St -> Hp -> Prop) (g:St -> List Int):TA:=fun σ H Q=>C σ H /\ Q ((g σ).map V.int) H
section
variable {X:Cx} {a b:Expr} {pos:Pos} {Ca Cb:St -> Hp -> Prop} {ga gb:St -> Int}
theorem yYJ (i:Nat) {x:Str} (hN:X.N[i]?=some x:=by rfl) (hv:Vis X.env.scope x:=by first | exact Or.inl rfl | exact Or.inr (Or.inl rfl) | exact Or.inr (Or.inr rfl))
    (hd:(x == ("__debug__":Str))=false:=by decide) (hcd:(x == ("__classdict__":Str))=false:=by decide):PE X (.Name x pos) (tN (fun σ _=>hI σ i) (fun σ=>gI σ i)) :=
  fun pins s σ H Q I h=>pe_var hN hv hd hcd pins s σ H Q I ⟨_,h.1,h.2⟩
theorem zZ6 {i:Int} {j:Nat}:PE X (.Constant (.int i) j pos) (tN (fun _ _=>True) (fun _=>i)):=fun pins s σ H Q I h=>pe_int pins s σ H Q I h.2
theorem qH5 {x:Str} {i:Int} (hg:Gl X x) (hm:∃ tk,X.mg x=some (.int i tk)) (hd:(x == ("__debug__":Str))=false:=by decide):PE X (.Name x pos) (tN (fun _ _=>True) (fun _=>i)) :=
  fun pins s σ H Q I h=>let ⟨_,hm⟩:=hm; pe_glob hg hm (v:=.int i) ⟨_,rfl⟩ hd pins s σ H Q I h.2
theorem jX7 {op:Operator} {C:Int -> Int -> Prop} {g:Int -> Int -> Int} (ho:OpR X (binaryOp op) (rI C fun i j=>.int (g i j))) (ha:PE X a (tN Ca ga)) (hb:PE X b (tN Cb gb)) :
    PE X (.BinOp a op b pos) (tN (fun σ H=>Ca σ H /\ Cb σ H /\ C (ga σ) (gb σ)) (fun σ=>g (ga σ) (gb σ))) :=
  fun pins s σ H Q I h=>pe_op ho ha hb pins s σ H Q I ⟨h.1.1,h.1.2.1,_,_,rfl,rfl,h.1.2.2,h.2⟩
theorem jXJ {op:Operator} {g:Int -> Int -> Int} (ho:OpR X (binaryOp op) (rI0 fun i j=>.int (g i j))) (ha:PE X a (tN Ca ga)) (hb:PE X b (tN Cb gb)) :
    PE X (.BinOp a op b pos) (tN (fun σ H=>Ca σ H /\ Cb σ H) (fun σ=>g (ga σ) (gb σ))) :=
  fun pins s σ H Q I h=>pe_op ho ha hb pins s σ H Q I ⟨h.1.1,h.1.2,_,_,rfl,rfl,h.2⟩
theorem zWZ:OpR X (binaryOp .Mult) (rI IntMulOk fun i j=>.int (i * j)):=opI fun _ _ _ _ _ _ _ hc q=>mul_int q hc
def CDivB (_ j:Int):Prop:=0 < j /\ j.natAbs.log2 < 9000
theorem qV7:OpR X (binaryOp .FloorDiv) (rI CDivB fun i j=>.int (i / j)):=opI fun i j _ _ _ _ _ hc q=>by
  have h1:(0:Int) < j:=hc.1
  exact floordiv_int (by omega) (by rw [Int.fdiv_eq_ediv_of_nonneg i (by omega)]; exact q) (.inl (PyProof.noPylong_of_log2 hc.2))
theorem jYW (ha:PE X a (tN Ca ga)) (hb:PE X b (tN Cb gb)):PE X (.BinOp a .Mult b pos) (tN (fun σ H=>Ca σ H /\ Cb σ H /\ IntMulOk (ga σ) (gb σ)) (fun σ=>ga σ * gb σ)):=jX7 zWZ ha hb
theorem jX8 (ha:PE X a (tN Ca ga)) (hb:PE X b (tN Cb gb)):PE X (.BinOp a .Mod b pos) (tN (fun σ H=>Ca σ H /\ Cb σ H /\ 0 < gb σ) (fun σ=>ga σ % gb σ)):=jX7 op_mod ha hb
theorem jYJ (ha:PE X a (tN Ca ga)):PE X (.UnaryOp .USub a pos) (tN Ca (fun σ=>-ga σ)) :=
  fun pins s σ H Q I h=>pe_un un_neg ha pins s σ H Q I ⟨h.1,_,rfl,h.2⟩
theorem zYZ {op:CmpOp} {p:Int -> Int -> Prop} [∀ i j,Decidable (p i j)] (ho:OpR X (compareOp op) (rI0 fun i j=>.bl (decide (p i j)))) (hm:behindInMarks op b=false) (ha:PE X a (tN Ca ga)) (hb:PE X b (tN Cb gb)) :
    PT X (.Compare a [op] [b] pos) (tP (fun σ H=>Ca σ H /\ Cb σ H) (fun σ=>p (ga σ) (gb σ))) :=
  fun pins s σ H Q I h=>pt_cmpR ho ha hb hm pins s σ H Q I ⟨h.1.1,h.1.2,_,_,rfl,rfl,_,rfl,h.2⟩
theorem qK7:OpR X (compareOp .Eq) (rI0 fun i j=>.bl (decide (i=j))):=fun pins s σ H x y v u Q I rx ry h=>by
  obtain ⟨i,j,rfl,rfl,q⟩:=h
  have q:Q (.bl (decide (i=j))) H:=q
  refine op_eq pins s σ H _ _ v u Q I rx ry ⟨rfl,?_⟩
  rw [dec_int,Bool.beq_eq_decide_eq]
  exact q
theorem qUZ:OpR X (compareOp .NotEq) (rI0 fun i j=>.bl (decide (¬ i=j))):=fun pins s σ H x y v u Q I rx ry h=>by
  obtain ⟨i,j,rfl,rfl,q⟩:=h
  have q:Q (.bl (decide (¬ i=j))) H:=q
  rw [decide_not] at q
  refine op_ne pins s σ H _ _ v u Q I rx ry ⟨rfl,?_⟩
  rw [dec_int,Bool.beq_eq_decide_eq]
  exact q
theorem qKU (ha:PE X a (tN Ca ga)) (hb:PE X b (tN Cb gb)):PT X (.Compare a [.Lt] [b] pos) (tP (fun σ H=>Ca σ H /\ Cb σ H) (fun σ=>ga σ < gb σ)):=zYZ op_lt (nomark _) ha hb
theorem jYV (ha:PE X a (tN Ca ga)) (hb:PE X b (tN Cb gb)):PT X (.Compare a [.LtE] [b] pos) (tP (fun σ H=>Ca σ H /\ Cb σ H) (fun σ=>ga σ <= gb σ)):=zYZ op_le (nomark _) ha hb
theorem jXW (ha:PE X a (tN Ca ga)) (hb:PE X b (tN Cb gb)):PT X (.Compare a [.Gt] [b] pos) (tP (fun σ H=>Ca σ H /\ Cb σ H) (fun σ=>gb σ < ga σ)):=zYZ (p:=fun i j=>j < i) op_gt (nomark _) ha hb
theorem jJH (ha:PE X a (tN Ca ga)) (hb:PE X b (tN Cb gb)):PT X (.Compare a [.Eq] [b] pos) (tP (fun σ H=>Ca σ H /\ Cb σ H) (fun σ=>ga σ=gb σ)):=zYZ qK7 (nomark _) ha hb
variable {pa pb:St -> Prop} [∀ σ,Decidable (pa σ)] [∀ σ,Decidable (pb σ)] {rest:List Expr}
theorem qHZ (ha:PT X a (tP Ca pa)):PT X (.UnaryOp .Not a pos) (tP Ca (fun σ=>¬ pa σ)) :=
  fun pins s σ H Q I h=>pt_not ha pins s σ H Q I ⟨h.1,by have q:=h.2; rw [decide_not] at q; exact q⟩
theorem pw_or1P (ha:PT X a (tP Ca pa)):PW X (.BoolOp .Or [a] pos) (tP Ca pa):=pw_or1 ha
theorem pw_orP (ha:PT X a (tP Ca pa)) (hb:PW X (.BoolOp .Or (b :: rest) pos) (tP Cb pb)):PW X (.BoolOp .Or (a :: b :: rest) pos) (tP (fun σ H=>Ca σ H /\ (¬ pa σ -> Cb σ H)) (fun σ=>pa σ \/ pb σ)) :=
  fun wh pins s σ H Q I h=>pw_or ha hb wh pins s σ H Q I ⟨h.1.1,by
    have q:=h.2
    by_cases c:pa σ
    . rw [decide_eq_true (Or.inl c:pa σ \/ pb σ)] at q
      rw [decide_eq_true c]; refine iteT ?_; exact q
    . rw [decide_eq_false c]; refine iteF ?_
      refine ⟨h.1.2 c,?_⟩
      have e:decide (pa σ \/ pb σ)=decide (pb σ):=by simp [c]
      rw [e] at q; exact q⟩
theorem pt_V {e:Expr} (h:PE X e (tV Ca pa)) (he:∀ whole,isTrue e X.env whole=(do let v <- whole; standAt e.pos; holding [v] (truthy v)):=by intro _; rfl):PT X e (tP Ca pa) :=
  fun pins s σ H Q I q=>pt_val h he pins s σ H Q I ⟨q.1,_,rfl,q.2⟩
def tIfP (C:St -> Hp -> Prop) (p:St -> Prop) (t u:TS):TS:=fun D σ H=>C σ H /\ (p σ -> t D σ H) /\ (¬ p σ -> u D σ H)
theorem zKV {c:Expr} {x y:List Stmt} {t u:TS} (hc:PT X c (tP Ca pa)) (hx:PSs X x t) (hy:PSs X y u):PS X (.If c x y pos) (tIfP Ca pa t u) :=
  fun pins s σ H D I h=>ps_if hc hx hy pins s σ H D I ⟨h.1,by
    by_cases c:pa σ
    . rw [decide_eq_true c]; refine iteT ?_; exact h.2.1 c
    . rw [decide_eq_false c]; refine iteF ?_; exact h.2.2 c⟩
def tSetN (i:Nat) (C:St -> Hp -> Prop) (g:St -> Int):TS:=fun D σ H=>C σ H /\ ∀ n,n=g σ -> D.nx (σ.set i (some (.int n))) H
theorem jJ6 {i:Nat} {x:Str} {e:Expr} {pos':Pos} (hN:X.N.Nodup) (hi:X.N[i]?=some x) (hx:Loc X.env.scope x) (he:PE X e (tN Ca ga)) (hs:swapsWith e (some (.Name x pos')) pos.line X.env=pure false:=by rfl)
    (hf:X.fn x=true \/ X.env.scope.names.lookup x=some .local:=by first | exact .inl rfl | exact .inr rfl | assumption):PS X (.Assign [.Name x pos'] e pos) (tSetN i Ca ga) :=
  fun pins s σ H D I h=>ps_set hN hi hx he hs hf pins s σ H D I ⟨h.1,h.2 _ rfl⟩
def tAugN (i:Nat) (C:St -> Hp -> Prop) (g:St -> Int) (P:Int -> Int -> Prop) (f:Int -> Int -> Int):TS:=fun D σ H=>hI σ i /\ C σ H /\ P (gI σ i) (g σ) /\ ∀ n,n=f (gI σ i) (g σ) -> D.nx (σ.set i (some (.int n))) H
theorem qH9 {i:Nat} {x:Str} {e:Expr} {op:Operator} {pos':Pos} {P:Int -> Int -> Prop} {f:Int -> Int -> Int} (hN:X.N.Nodup) (hi:X.N[i]?=some x) (hx:Loc X.env.scope x) (he:PE X e (tN Ca ga)) (ho:OpR X (inplaceOp op) (rI P fun i j=>.int (f i j)))
    (hf:X.fn x=true \/ X.env.scope.names.lookup x=some .local:=by first | exact .inl rfl | exact .inr rfl | assumption):PS X (.AugAssign (.Name x pos') op e pos) (tAugN i Ca ga P f) :=
  fun pins s σ H D I h=>ps_aug hN hi hx he ho hf pins s σ H D I ⟨_,h.1,h.2.1,_,_,rfl,rfl,h.2.2.1,h.2.2.2 _ rfl⟩
theorem zQQ:OpR X (inplaceOp .Add) (rI (fun _ _=>True) fun i j=>.int (i + j)):=fun pins s σ H x y v u Q I rx ry h=>by
  obtain ⟨i,j,e1,e2,_,q⟩:=h
  exact iop_add pins s σ H x y v u Q I rx ry ⟨i,j,e1,e2,q⟩
def tWhileP (C:St -> Hp -> Prop) (p:St -> Prop) (tb:TS):TS:=fun D σ H=>∃ (W:St -> Hp -> Prop) (μ:St -> Hp -> Nat),W σ H /\
  ∀ σ H,W σ H -> C σ H /\ (p σ -> tb { D with nx:=fun σ' H'=>W σ' H' /\ μ σ' H' < μ σ H,ct:=fun σ' H'=>W σ' H' /\ μ σ' H' < μ σ H,bk:=D.nx } σ H) /\ (¬ p σ -> D.nx σ H)
theorem qQQ {c:Expr} {body:List Stmt} {tb:TS} (hp:PassesOwn (model X.prog X.w) X.A X.env X.xe) (hc:PT X c (tP Ca pa)) (hb:PSs X body tb):PS X (.While c body [] pos) (tWhileP Ca pa tb) :=
  fun pins s σ H D I h=>ps_while hp hc hb pins s σ H D I (by
    obtain ⟨W,μ,w0,st⟩:=h
    refine while_by W μ w0 (fun σ H w=>?_) (fun σ H Q Q' m q=>⟨q.1,m _ _ q.2⟩)
    obtain ⟨c1,c2,c3⟩:=st σ H w
    refine ⟨c1,?_⟩
    by_cases c:pa σ
    . rw [decide_eq_true c]; refine iteT ?_; exact c2 c
    . rw [decide_eq_false c]; refine iteF ?_; exact c3 c)
end
section
variable {X:Cx} {b:Expr} {es:List Expr} {pos p1:Pos} {Cb C:St -> Hp -> Prop} {gb:St -> Int}
theorem zX6 {ns:List Int} {i:Int} (h0:0 <= i) (h1:i < (ns.length:Int)):atI (ns.map V.int) i=some (V.int (ns.getD i.toNat 0)):=by
  have e:i=((i.toNat:Nat):Int):=by omega
  have l:i.toNat < ns.length:=by omega
  have q:atI (ns.map V.int) ((i.toNat:Nat):Int)=some (V.int (ns.getD i.toNat 0)):=atI_nat (by rw [List.getElem?_map,List.getElem?_eq_getElem l,gQ,List.getElem?_eq_getElem l]; rfl)
  rw [<- e] at q
  exact q
def tItem (K:PySem.W.Frag) (j:Nat) (C:St -> Hp -> Prop) (g:St -> Int):TE:=fun σ H Q=>C σ H /\ ∃ (a:Addr) (ns:List Int) (n:Int),σ[j]?=some (some (.ref a)) /\ SqL K H a (ns.map V.int) /\ atI (ns.map V.int) (g σ)=some (.int n) /\ Q (.int n) H
theorem jJ1 (j:Nat) {x:Str} {px:Pos} (hb:PE X b (tN C gb)) (hs:PlainIx b) (hN:X.N[j]?=some x:=by rfl) (hv:Vis X.env.scope x:=by first | exact Or.inl rfl | exact Or.inr (Or.inl rfl) | exact Or.inr (Or.inr rfl))
    (hd:(x == ("__debug__":Str))=false:=by decide) (hcd:(x == ("__classdict__":Str))=false:=by decide):PE X (.Subscript (.Name x px) b pos) (tItem X.K j C gb):=by
  intro pins s σ H Q I h
  obtain ⟨c,a,ns,n,e1,e2,e3,q⟩:=h
  exact pe_ix ix_list (pe_var hN hv hd hcd) hb hs pins s σ H Q I ⟨_,e1,c,a,_,_,_,rfl,rfl,e2,e3,q⟩
theorem jZ0 (j:Nat) (a:Addr) (ns:List Int) {x:Str} {px:Pos} (hb:PE X b (tN C gb)) (hs:PlainIx b) (hN:X.N[j]?=some x:=by rfl) (hv:Vis X.env.scope x:=by first | exact Or.inl rfl | exact Or.inr (Or.inl rfl) | exact Or.inr (Or.inr rfl))
    (hd:(x == ("__debug__":Str))=false:=by decide) (hcd:(x == ("__classdict__":Str))=false:=by decide) :
    PE X (.Subscript (.Name x px) b pos) (tN (fun σ H=>C σ H /\ σ[j]?=some (some (.ref a)) /\ SqL X.K H a (ns.map V.int) /\ -(ns.length:Int) <= gb σ /\ gb σ < (ns.length:Int)) (fun σ=>ns.getD (if 0 <= gb σ then gb σ else gb σ + ns.length).toNat 0)):=by
  intro pins s σ H Q I h
  obtain ⟨⟨c,e1,e2,b1,b2⟩,q⟩:=h
  refine pe_ix ix_list (pe_var hN hv hd hcd) hb hs pins s σ H Q I ⟨_,e1,c,a,_,_,_,rfl,rfl,e2,?_,q⟩
  show atI (ns.map V.int) (gb σ)=some (V.int (ns.getD (if 0 <= gb σ then gb σ else gb σ + ns.length).toNat 0))
  by_cases c0:0 <= gb σ
  . rw [if_pos c0]; exact zX6 c0 b2
  . rw [if_neg c0]
    have q2:=zX6 (ns:=ns) (i:=gb σ + ns.length) (by omega) (by omega)
    unfold atI ixN at q2 ⊢
    rw [List.length_map] at q2 ⊢
    rw [if_pos (show 0 <= gb σ + (ns.length:Int) by omega),if_pos (show gb σ + (ns.length:Int) < (ns.length:Int) by omega)] at q2
    rw [if_neg c0,if_pos b1]
    exact q2
theorem jJX (j:Nat) (a:Addr) (xs:List V) {x:Str} {px p:Pos} (hm:X.mg "len"=none) (hN:X.N[j]?=some x:=by rfl) (hg:Gl X "len":=by rfl) (hv:Vis X.env.scope x:=by first | exact Or.inl rfl | exact Or.inr (Or.inl rfl) | exact Or.inr (Or.inr rfl))
    (hd:(x == ("__debug__":Str))=false:=by decide) (hcd:(x == ("__classdict__":Str))=false:=by decide) (he:starEach [.Name x px] X.env=[(false,eval (.Name x px) X.env)]:=by rfl) :
    PE X (.Call (.Name "len" p) [.Name x px] [] pos) (tN (fun σ H=>σ[j]?=some (some (.ref a)) /\ SqL X.K H a xs) (fun _=>(xs.length:Int))):=by
  intro pins s σ H Q I h
  exact pe_callB call_len_seq hg hm PySem.boot_len (pa_cons (pe_var hN hv hd hcd) pa_nil he) (by decide) (by decide) he rfl pins s σ H Q I ⟨_,h.1.1,a,_,rfl,.inl h.1.2,h.2⟩
end
section
variable {X:Cx} {e:Expr} {es:List Expr} {pos p:Pos} {Ca Cb:St -> Hp -> Prop} {ga:St -> Int} {gs:St -> List Int}
theorem qHJ:PA X [] (tNs (fun _ _=>True) (fun _=>[])):=fun pos pins s σ H Q I h=>pa_nil pos pins s σ H Q I h.2
theorem qV8 (ha:PE X e (tN Ca ga)) (hr:PA X es (tNs Cb gs)) (hs:starEach (e :: es) X.env=(false,eval e X.env) :: starEach es X.env:=by rfl):PA X (e :: es) (tNs (fun σ H=>Ca σ H /\ Cb σ H) (fun σ=>ga σ :: gs σ)) :=
  fun pos pins s σ H Q I h=>pa_cons ha hr hs pos pins s σ H Q I ⟨h.1.1,h.1.2,h.2⟩
end
def spB (n:Nat) (pre:List Int -> Prop) (F:List Int -> Bool):Sp:=fun vs H Q _=>∃ ns:List Int,ns.length=n /\ vs=ns.map V.int /\ pre ns /\ Q (.bl (F ns)) H
structure Ok (P:Program) (w:World) (K:PySem.W.Frag) (mg:Str -> Option Value) (base:Heap) (k:Nat) (x:Str) (ps:List Str) (sp:Sp):Prop where
  ex:∃ f fd,FnOk P w K mg base CX0 k f fd ps sp /\ Binds K fd ps [] /\ PySem.W.keepIn K (.ref f)=true /\ mg x=some (.ref f)
theorem Ok.imp {P:Program} {w:World} {K:PySem.W.Frag} {mg:Str -> Option Value} {base:Heap} {k:Nat} {x:Str} {ps:List Str} {sp sp':Sp} (o:Ok P w K mg base k x ps sp) (h:∀ vs H Q E,sp' vs H Q E -> sp vs H Q E):Ok P w K mg base k x ps sp':=by
  obtain ⟨f,fd,a,b⟩:=o.ex
  exact ⟨f,fd,a.imp h,b⟩
section
variable {X:Cx} {e:Expr} {es:List Expr} {pos p:Pos} {j k:Nat} {x:Str} {ps:List Str} {sp:Sp} {t:TA}
theorem yUV (o:Ok X.prog X.w X.K X.mg X.base j x ps sp) (hr:Room k X.A) (ha:PA X (e :: es) t) (hj:j <= k:=by decide) (hg:Gl X x:=by rfl) (hdb:(x == ("__debug__":Str))=false:=by decide)
    (he:starEach (e :: es) X.env=(false,eval e X.env) :: starEach es X.env:=by rfl) (hpl:(backTo pos (starEach es X.env)).any (·.1)=false:=by rfl):PE X (.Call (.Name x p) (e :: es) [] pos) (tCall sp [] E0 t):=by
  obtain ⟨f,fd,F,b,kp,m⟩:=o.ex
  exact pe_call (F.mono hj) hr hg m kp b .nil pass0 ha hdb he hpl
variable {C:St -> Hp -> Prop} {g:St -> List Int} {n:Nat} {pre:List Int -> Prop}
theorem jQU {F:List Int -> Bool} (o:Ok X.prog X.w X.K X.mg X.base j x ps (spB n pre F)) (hr:Room k X.A) (ha:PA X (e :: es) (tNs C g)) (hn:∀ σ,(g σ).length=n:=by intro _; rfl) (hj:j <= k:=by decide) (hg:Gl X x:=by rfl)
    (hdb:(x == ("__debug__":Str))=false:=by decide) (he:starEach (e :: es) X.env=(false,eval e X.env) :: starEach es X.env:=by rfl) (hpl:(backTo pos (starEach es X.env)).any (·.1)=false:=by rfl) :
    PE X (.Call (.Name x p) (e :: es) [] pos) (tV (fun σ H=>C σ H /\ pre (g σ)) (fun σ=>F (g σ)=true)) :=
  fun pins s σ H Q I h=>yUV o hr ha hj hg hdb he hpl pins s σ H Q I ⟨h.1.1,g σ,hn σ,by rw [List.append_nil],h.1.2,by have q:=h.2; rw [Bool.decide_eq_true] at q; exact q⟩
end
structure Def (K:PySem.W.Frag) (mg:Str -> Option Value) (x:Str) (st:Stmt) (ps:List Str):Prop where
  ex:∃ f fd,Fun K x x st f fd /\ Binds K fd ps [] /\ mg x=some (.ref f)
section
variable {P:Program} {w:World} {K:PySem.W.Frag} {mg:Str -> Option Value} {base:Heap}
theorem Def.ok {x:Str} {st:Stmt} {N ps:List Str} {k:Nat} {sp:Sp} (d:Def K mg x st ps) (S:FnScope N ps (defScope st)) (len:∀ vs H Q E,sp vs H Q E -> vs.length=ps.length)
    (hbody:∀ (f:Addr) (cdv:Value) (A:Around) (outer:List Env) (s:Shared) (H:Hp) (vs:List V) (Q:VK) (E:XK),Room k (A.deeper (envOfC x (defScope st) s.heap.objs.size f cdv)) -> sp vs H Q E ->
      ∃ t,PSs (cxOf CX0 P w K mg base N x (defScope st) f cdv A outer s H E).nox (defBody st) t /\ t { nx:=fun _ H'=>Q .non H',rt:=Q } (start N vs) H):Ok P w K mg base (k + 1) x ps sp:=by
  obtain ⟨f,fd,F,b,m⟩:=d.ex
  exact ⟨f,fd,F.ok S len fun cdv A outer s H vs Q E hr h=>hbody f cdv A outer s H vs Q E hr h,b,F.kp,m⟩
theorem Def.mk' {x:Str} {st:Stmt} {ps:List Str} {f:Addr} {fd:FuncData} (F:Fun K x x st f fd) (b:Binds K fd ps []) (m:mg x=some (.ref f)):Def K mg x st ps:=⟨f,fd,F,b,m⟩
end
theorem qUH:bootBuiltins "list"=some (.type "list"):=by decide +kernel
theorem zX3:bootBuiltins "ValueError"=some (.type "ValueError"):=by decide +kernel
theorem qUW:bootBuiltins "len"=some (.builtin "len"):=by decide +kernel
theorem zYU:bootBuiltins "isinstance"=some (.builtin "isinstance"):=by decide +kernel
def clsV:V -> Option Value
  | .ty n=>some (.type n)
  | .ref a=>some (.ref a)
  | _=>none
theorem zKZ {c:V} {u cv:Value} (h:clsV c=some cv) (r:RelV c u):u=cv:=by
  cases c with
  | ty n=>cases h; exact r
  | ref a=>cases h; exact r
  | non=>cases h
  | bl _=>cases h
  | int _=>cases h
  | str _=>cases h
  | byt _=>cases h
  | flt _=>cases h
section
variable {X:Cx}
theorem zWK:CallR X (.builtin "isinstance") (fun xs H Q=>∃ x c t cv b,xs=[x,c] /\ clsV c=some cv /\ TyOf X.K H x t /\ PySem.W.kitOne X.K t cv=some b /\ Q (.bl b) H):=by
  intro pins s σ H xs us Q I r h
  obtain ⟨x,c,t,cv,b,rfl,hc,ty,e,q⟩:=h
  obtain ⟨u,w',rfl,r1,r2⟩:=vals2 r
  obtain rfl:=zKZ hc r2
  exact isinst_ok I r1 ty e fun tk=>⟨.bl b,H,I.tok tk,rfl,q⟩
end
theorem len1 {ns:List Int} (h:ns.length=1):∃ a,ns=[a]:=match ns,h with | [a],_=>⟨a,rfl⟩
theorem len2 {ns:List Int} (h:ns.length=2):∃ a b,ns=[a,b]:=match ns,h with | [a,b],_=>⟨a,b,rfl⟩
theorem same_new {H:Hp} {p:Addr} (h:H p=none) (o:HO):Same H (upd H p o):=fun b u q=>by rw [upd_ne (ne_of_none q h)]; exact q
theorem bits_le {k:Int} {n:Nat} (h:k.natAbs < 2 ^ n):Builtin.Int.intBits k <= n:=by
  unfold Builtin.Int.intBits
  split
  . exact Nat.zero_le _
  . have hk:k.natAbs ≠ 0:=by
      rename_i c
      intro z
      apply c
      first | exact z | (have:k=0:=by omega
                         simp [this]) | omega
    have:=(Nat.log2_lt hk).mpr h
    omega
theorem yU9 {a b:Int} {n m:Nat} (ha:a.natAbs < 2 ^ n) (hb:b.natAbs < 2 ^ m) (hn:n <= 1048576:=by decide) (hm:m <= 1048576:=by decide):IntMulOk a b :=
  .of_bits (Nat.le_trans (bits_le ha) (Nat.le_trans hn (by decide))) (Nat.le_trans (bits_le hb) (Nat.le_trans hm (by decide)))
theorem yHJ {a b:Int} (h:-(2 ^ 64) < b /\ b < 2 ^ 64):IntMulOk a b:=.of_right (intBits_le_64 h.1 h.2)
theorem yKU {a b:Int} (h:-(2 ^ 64) < a /\ a < 2 ^ 64):IntMulOk a b:=.of_left (intBits_le_64 h.1 h.2)
abbrev NoX:Value -> Shared -> Prop:=fun _ _=>False
def testsTree (cs:List Expr) (ev:Env):Sem Bool:=forIn cs true fun c r=>if r=true then do let ok <- isTrue c ev (eval c ev); pure (ForInStep.yield ok) else pure (ForInStep.yield r)
section
variable {P:Program} {w:World} {A:Around} {R:Result -> Shared -> Prop} {s:Shared}
theorem qXX {el tg src:Expr} {cs:List Expr} {sc:Scope} {at':Pos} {it acc:Value} {ev:Env} (I:Nat -> Shared -> Prop)
    (turn:∀ n s,I n s -> wpAny (model P w) A (pyNext it) (fun r s1=>(r=none /\ R (.ok .next) s1) \/ ∃ v,r=some v /\
      wpAny (model P w) A (letOwnedTupleGo tg it v) (fun _ s2=>wpAny (model P w) A (assign tg ev v) (fun _ s3=>wpAny (model P w) A (testsTree cs ev) (fun ok s4 =>
        if ok=true then wpAny (model P w) A (eval el ev) (fun x s5=>wpAny (model P w) A (call (.builtin "list.append") [acc,x]) (fun _ s6=>∃ m,m < n /\ I m s6) NoX s5) NoX s4
        else ∃ m,m < n /\ I m s4) NoX s3) NoX s2) NoX s1) NoX s)
    (n:Nat) (h:I n s):codeAny (model P w) A (.compLoop (.ListComp el [⟨tg,src,cs,0⟩] sc at') 0 it acc ev) R s:=by
  refine codeAny_loop rfl I (fun n s hI=>?_) n h
  show wpAny _ A ((compTurn (.ListComp el [⟨tg,src,cs,0⟩] sc at') 0 it acc ev).onRaise (fun z=>do noteFrame z ev; theTreesLotGoes z)) _ _ s
  refine wpAny_noted (wpAny_noRaise ?_)
  rw [compTurn_list]
  refine wpAny_bind (wpAny_standAt (wpAny_bind (thn (turn n s hI) fun r s1 h1=>?_)))
  rcases h1 with ⟨rfl,h1⟩ | ⟨v,rfl,h1⟩
  . exact wpAny_pure h1
  . refine wpAny_bind (thn h1 fun _ s2 h2=>wpAny_bind (thn h2 fun _ s3 h3=>wpAny_bind (thn h3 fun ok s4 h4=>?_)))
    cases ok with
    | false=>exact wpAny_pure ⟨rfl,h4⟩
    | true=>exact wpAny_bind (wpAny_bind (thn h4 fun x s5 h5=>wpAny_bind (thn h5 fun _ s6 h6=>wpAny_pure (wpAny_pure ⟨rfl,h6⟩))))
end
def CapOk (X:Cx) (sc:Scope) (cl:List (Str × Addr)):List Str -> List (Option Nat) -> Prop
  | [],[]=>True
  | _ :: xs,none :: cs=>CapOk X sc cl xs cs
  | x :: xs,some i :: cs=>(X.N[i]?=some x /\ Vis X.env.scope x /\ X.env.kindOf x ≠ some .local /\ ((relabel sc X.env).names.lookup x=some .cell \/ (relabel sc X.env).names.lookup x=some .free) /\ ∃ c,cl.lookup x=some c /\ X.env.cells.lookup x=some c) /\ CapOk X sc cl xs cs
  | _,_=>False
def SubC (ev:Env):List (Str × Addr) -> Prop
  | []=>True
  | (x,c) :: r=>ev.cells.lookup x=some c /\ SubC ev r
theorem SubC.look {ev:Env}:∀ {cl:List (Str × Addr)},SubC ev cl -> ∀ {x:Str} {c:Addr},cl.lookup x=some c -> ev.cells.lookup x=some c
  | [],_,x,c,h=>by simp at h
  | (y,d) :: r,q,x,c,h=>by
    rw [List.lookup_cons] at h
    cases e:x == y with
    | true =>
      rw [e] at h
      have e':x=y:=by simpa using e
      subst e'
      cases h
      exact q.1
    | false=>rw [e] at h; exact SubC.look q.2 h
def capS (cap:List (Option Nat)) (σ:St):St:=cap.map fun o=>match o with
  | some i=>(σ[i]?).join
  | none=>none
def cxComp (X:Cx) (N':List Str) (sc:Scope) (cl:List (Str × Addr)) (s:Shared) (H:Hp) (fp:List Addr):Cx :=
  { X with N:=N',s₀:=s,H₀:=H,env:=compEnvC sc cl s.heap.objs.size X.env,outer:=X.stack,ex:=fp,fn:=fun _=>false,pn:=[],xe:=NoX }
section
variable {X:Cx} {pins:List (Addr × Obj)} {σ:St} {H:Hp} {s:Shared} {N':List Str} {sc:Scope} {cl:List (Str × Addr)} {cap:List (Option Nat)} {fp:List Addr}
theorem CapOk.length {X:Cx} {sc:Scope} {cl:List (Str × Addr)}:∀ {N':List Str} {cap:List (Option Nat)},CapOk X sc cl N' cap -> cap.length=N'.length
  | [],[],_=>rfl
  | _ :: xs,none :: cs,h=>by
    have:=CapOk.length (X:=X) (sc:=sc) (cl:=cl) (N':=xs) (cap:=cs) h
    simp [this]
  | _ :: xs,some i :: cs,h=>by
    have:=CapOk.length (X:=X) (sc:=sc) (cl:=cl) (N':=xs) (cap:=cs) h.2
    simp [this]
  | [],_ :: _,h=>h.elim
  | _ :: _,[],h=>h.elim
theorem CapOk.at {X:Cx} {sc:Scope} {cl:List (Str × Addr)} {i:Nat} {x:Str}:∀ {N':List Str} {cap:List (Option Nat)} {j:Nat},CapOk X sc cl N' cap -> N'[j]?=some x -> cap[j]?=some (some i) ->
    X.N[i]?=some x /\ Vis X.env.scope x /\ X.env.kindOf x ≠ some .local /\ ((relabel sc X.env).names.lookup x=some .cell \/ (relabel sc X.env).names.lookup x=some .free) /\ ∃ c,cl.lookup x=some c /\ X.env.cells.lookup x=some c
  | [],[],j,_,h,_=>by simp at h
  | _ :: xs,none :: cs,0,_,_,h=>by simp at h
  | _ :: xs,none :: cs,j + 1,q,h1,h2=>CapOk.at (N':=xs) (cap:=cs) (j:=j) q (by simpa using h1) (by simpa using h2)
  | y :: xs,some k :: cs,0,q,h1,h2=>by
    have e1:y=x:=by simpa using h1
    have e2:k=i:=by simpa using h2
    subst e1 e2
    exact q.1
  | _ :: xs,some _ :: cs,j + 1,q,h1,h2=>CapOk.at (N':=xs) (cap:=cs) (j:=j) q.2 (by simpa using h1) (by simpa using h2)
  | [],_ :: _,_,h,_,_=>h.elim
  | _ :: _,[],_,h,_,_=>h.elim
theorem Inv.block (I:Inv X pins σ H s) (hk:sc.kind=.function) (hcap:CapOk X sc cl N' cap) (sub:SubC X.env cl)
    (has:∀ x,((relabel sc X.env).names.lookup x=some .cell \/ (relabel sc X.env).names.lookup x=some .free) -> ∃ c,cl.lookup x=some c)
    (hf:∀ b ∈ fp,FpOk X pins H b) (hfo:∀ b ∈ fp,∃ o,s.heap.get? b=some o) {h':Heap} {m:Str -> Option Value} {o:Obj} {tk:Nat} (hns:h'.Ns s.heap.objs.size m) (hsb:Heap.SameBut s.heap.objs.size (s.heap.push o) h') :
    Inv (cxComp X N' sc cl s H fp) [] (capS cap σ) H { s with heap:=h',toks:=tk }:=by
  have keep:∀ b u,s.heap.get? b=some u -> h'.get? b=some u:=fun b u e =>
    (hsb.2 b (Nat.ne_of_lt (Heap.lt_size e))).trans (Heap.get?_push_of_some _ e)
  refine ⟨⟨I.ok.mod,hk,I.ok.glob,I.ok.blt,Nat.le_refl _,fun x y c h1 h2=>I.ok.inj x y c (sub.look h1) (sub.look h2),has,(fun x c h _=>nomatch h),I.ok.hd,I.ok.frames,.inl rfl,
    fun b hb=>⟨?_,fun x c e=>(hf b hb).2.2.2.2.1 x c (sub.look e)⟩,I.bs,Nat.le_trans I.ok.bsz I.sz,fun b u e hb=>?_,fun b hb hb'=>?_,I.stack,I.stkFree⟩,
    rfl,I.bare,Un.kept keep,⟨m,hns,fun j x v h1 h2 h3=>?_⟩,fun x c e=>?_,I.hok.fresh (Nat.le_refl _),fun x c e=>I.freeC x c (sub.look e),fun p hp=>absurd (show p ∈ ([]:List (Addr × Obj)) from hp) (by simp),I.hok.kept keep,?_⟩
  . obtain ⟨u,e⟩:=hfo b hb
    exact Nat.ne_of_lt (Heap.lt_size e)
  . rcases (hf b hb).2.2.2.1 with z | z
    . exact I.ok.noex b u e z
    . exact absurd (Nat.lt_of_lt_of_le (Heap.lt_size e) (Nat.le_trans I.ok.bsz z)) (Nat.lt_irrefl _)
  . rcases List.mem_cons.mp (I.stkSub b hb') with z | z
    . exact (hf b hb).2.1 z
    . exact (hf b hb).2.2.1 z
  . obtain ⟨m0,hn0,hl0⟩:=I.loc
    have h2':((cap.map fun o=>match o with | some i=>(σ[i]?).join | none=>none):St)[j]?=some (some v):=h2
    rw [List.getElem?_map] at h2'
    cases e:cap[j]? with
    | none=>rw [e] at h2'; cases h2'
    | some oi =>
      rw [e] at h2'
      cases oi with
      | none=>cases h2'
      | some i =>
        have h4:(σ[i]?).join=some v:=Option.some.inj h2'
        have h5:σ[i]?=some (some v):=by
          cases z:σ[i]? with
          | none=>rw [z] at h4; cases h4
          | some y=>rw [z] at h4; cases h4; rfl
        obtain ⟨a1,a2,a3,a4,c,a5,a6⟩:=hcap.at h1 e
        obtain ⟨u,r,l⟩:=hl0 i x v a1 h5 a2
        refine ⟨u,r,.inr ⟨a4,c,a5,?_⟩⟩
        rcases l with ⟨k,_⟩ | ⟨_,c',e',ic⟩
        . exact absurd k a3
        . rw [a6] at e'
          cases e'
          obtain ⟨oc,h7,h8⟩:=ic
          exact ⟨oc,keep _ _ h7,h8⟩
  . obtain ⟨v,oc,h7,h8⟩:=I.cell x c (sub.look e)
    exact ⟨v,oc,keep _ _ h7,h8⟩
  . show (capS cap σ).length=N'.length
    unfold capS
    rw [List.length_map]
    exact hcap.length
theorem Inv.unblock {σ':St} {H':Hp} {s':Shared} {pins':List (Addr × Obj)} (I:Inv X pins σ H s) (hf:∀ b ∈ fp,FpOk X pins H b) (J:Inv (cxComp X N' sc cl s H fp) pins' σ' H' s'):Inv X pins σ H' s' :=
  I.call' (ch:=fp) J.os J.base J.hok J.bare fun b hb=>⟨(hf b hb).2.2.2.1,(hf b hb).2.1,(hf b hb).2.2.2.2.1,(hf b hb).2.2.2.2.2⟩
end
def ExtS:St -> St -> Prop
  | [],[]=>True
  | none :: a,_ :: b=>ExtS a b
  | some v :: a,y :: b=>y=some v /\ ExtS a b
  | _,_=>False
theorem ExtS.at:∀ {a b:St},ExtS a b -> ∀ (i:Nat) (v:V),a[i]?=some (some v) -> b[i]?=some (some v)
  | [],[],_,i,v,h=>by simp at h
  | none :: a,_ :: b,q,0,v,h=>by simp at h
  | none :: a,_ :: b,q,i + 1,v,h=>by
    have:=ExtS.at (a:=a) (b:=b) q i v (by simpa using h)
    simpa using this
  | some u :: a,y :: b,q,0,v,h=>by
    have e:u=v:=by simpa using h
    rw [q.1,e]
    rfl
  | some u :: a,y :: b,q,i + 1,v,h=>by
    have:=ExtS.at (a:=a) (b:=b) q.2 i v (by simpa using h)
    simpa using this
  | [],_ :: _,q,_,_,_=>q.elim
  | none :: _,[],q,_,_,_=>q.elim
  | some _ :: _,[],q,_,_,_=>q.elim
def PTs (X:Cx) (cs:List Expr) (t:TT):Prop :=
  ∀ (pins:List (Addr × Obj)) (s:Shared) (σ:St) (H:Hp) (Q:Bool -> Hp -> Prop),Inv X pins σ H s -> t σ H Q -> wpAny (model X.prog X.w) X.A (testsTree cs X.env) (TP X pins σ Q) X.xe s
theorem yX0 {X:Cx}:PTs X [] (fun _ H Q=>Q true H):=fun _ _ _ H _ I h=>wpAny_tests_nil ⟨H,I,h⟩
def lcW (D:Addr) (J:It) (σ:St) (g:TG) (tt:TT) (te:TE) (Q:VK) (W:Nat -> Nat -> List V -> Hp -> Prop):Prop :=
  ∀ i m ys H,W i m ys H -> H D=some (.lst ys) /\ ys.length < sizeLine /\
    ((J.stop i H /\ Q (.ref D) H) \/ (J.go i H /\ ∀ x H',J.yld i H x H' -> g x σ H' fun σ2 H2=>ExtS σ σ2 /\ tt σ2 H2 fun ok H3 =>
      if ok=true then te σ2 H3 fun y H4=>H4 D=some (.lst ys) /\ ∃ m',m' < m /\ W (i + 1) m' (ys ++ [y]) (upd H4 D (.lst (ys ++ [y])))
      else ∃ m',m' < m /\ W (i + 1) m' ys H3))
def tLC (cap:List (Option Nat)) (wi:TI) (g:TG) (tt:TT) (te:TE):TE:=fun σ H Q=>wi σ H fun J H1=>∀ D,H1 D=none -> ∃ W:Nat -> Nat -> List V -> Hp -> Prop,(∃ m,W 0 m [] (upd H1 D (.lst []))) /\ lcW D J (capS cap σ) g tt te Q W
section
variable {X:Cx} {pins:List (Addr × Obj)} {σ:St} {H:Hp} {s:Shared} {N':List Str} {sc:Scope} {cl:List (Str × Addr)} {cap:List (Option Nat)} {fp:List Addr}
  {el tg src:Expr} {cs:List Expr} {at':Pos} {g:TG} {tt:TT} {te:TE} {J:It} {it:Addr} {tn:Nat -> Heap -> Prop} {Q:VK}
structure LcOk (X:Cx) (N':List Str) (sc:Scope) (cl:List (Str × Addr)) (cap:List (Option Nat)):Prop where
  kind:sc.kind=.function
  clos:closureFor sc X.env=pure cl
  nocell:∀ y ∈ sc.names,y.2 ≠ .cell
  names:∀ y ∈ sc.names,y.2=.local -> sc.names.lookup y.1=some .local
  cap:CapOk X sc cl N' cap
  sub:SubC X.env cl
  has:∀ x,((relabel sc X.env).names.lookup x=some .cell \/ (relabel sc X.env).names.lookup x=some .free) -> ∃ c,cl.lookup x=some c
theorem yX3 (kind:sc.kind=.function) (clos:closureFor sc X.env=pure cl) (h1:(sc.names.all fun y=>y.2 != .cell)=true) (h2:(sc.names.all fun y=>y.2 != .local || sc.names.lookup y.1 == some .local)=true)
    (hcap:CapOk X sc cl N' cap) (sub:SubC X.env cl) (h3:((relabel sc X.env).names.all fun y=>(y.2 != .cell && y.2 != .free) || (cl.lookup y.1).isSome)=true):LcOk X N' sc cl cap:=by
  refine ⟨kind,clos,fun y hy e=>?_,fun y hy e=>?_,hcap,sub,fun x hx=>?_⟩
  . have q:=List.all_eq_true.mp h1 y hy
    rw [e] at q
    exact absurd q (by decide)
  . have q:=List.all_eq_true.mp h2 y hy
    rw [e] at q
    simpa using q
  . have key:∀ k,(k=NameKind.cell \/ k=NameKind.free) -> (relabel sc X.env).names.lookup x=some k -> ∃ c,cl.lookup x=some c:=fun k hk e=>by
      have q:=List.all_eq_true.mp h3 _ (PySem.mem_of_lookup e)
      rcases hk with rfl | rfl
      . exact Option.isSome_iff_exists.mp (by simpa using q)
      . exact Option.isSome_iff_exists.mp (by simpa using q)
    rcases hx with e | e
    . exact key _ (.inl rfl) e
    . exact key _ (.inr rfl) e
theorem zVJ (L:LcOk X N' sc cl cap) (hc:X.calm=true) (I:Inv X pins σ H s) (T:Turn X.prog X.w X.K tg J fp it tn) (st:tn 0 s.heap) (hf:∀ b ∈ fp,FpOk X pins H b)
    (hg:∀ s H fp,PG (cxComp X N' sc cl s H fp) tg g) (ht:∀ s H fp,PTs (cxComp X N' sc cl s H fp) cs tt) (he:∀ s H fp,PE (cxComp X N' sc cl s H fp) el te)
    (rd:∀ D,H D=none -> ∃ W:Nat -> Nat -> List V -> Hp -> Prop,(∃ m,W 0 m [] (upd H D (.lst []))) /\ lcW D J (capS cap σ) g tt te Q W)
    {Ex:Value -> Shared -> Prop} {RR:Value -> Addr -> Result -> Shared -> Prop} (hR:∀ D C m H' s',Inv X pins σ H' s' -> s'.heap.Ns C m -> FpOk X pins H' C -> Q (.ref D) H' -> RR (.ref D) C (.ok .next) s') :
    wpAny (model X.prog X.w) X.A (newList []) (fun acc s3=>wpAny (model X.prog X.w) X.A (newFunctionEnv sc X.env.globals cl [] X.env.qual none .none (some X.env)) (fun cv s4 =>
      codeAny (model X.prog X.w) X.A (.compStart (.ListComp el [⟨tg,src,cs,0⟩] sc at') 0 (.ref it) acc { cv with scope:=relabel sc X.env }) (RR acc cv.locals) s4) Ex s3) Ex s:=by
  obtain ⟨W,⟨m0,w0⟩,step⟩:=rd _ I.fresh
  refine wpAny_newObj_type (wpAny_newFunctionEnv L.nocell (by intro y hy; simp at hy) (fun h1 hns hsb=>?_) L.kind)
  have I3:Inv X pins σ (upd H s.heap.objs.size (.lst [])) { s with heap:=s.heap.push { cls:=.type "list",dict:=none,data:=.seq ([]:List Value).toArray } }:=I.lnew (its:=[]) (t':=s.toks) .nil (by show 0 <= sizeLine; decide)
  have hfo:∀ b ∈ fp,∃ o,s.heap.get? b=some o:=fun b hb=>let ⟨o,e,_⟩:=T.obj 0 s.heap st b hb; ⟨o,e⟩
  have hf3:∀ b ∈ fp,FpOk X pins (upd H s.heap.objs.size (.lst [])) b:=fun b hb=>by
    obtain ⟨o,e⟩:=hfo b hb
    exact ⟨by rw [upd_ne (Nat.ne_of_lt (Heap.lt_size e))]; exact (hf b hb).1,(hf b hb).2⟩
  dsimp only at hns hsb ⊢
  generalize hs3:({ s with heap:=s.heap.push { cls:=.type "list",dict:=none,data:=.seq ([]:List Value).toArray } }:Shared)=s3 at I3 hns hsb ⊢
  have hh3:s3.heap=s.heap.push { cls:=.type "list",dict:=none,data:=.seq ([]:List Value).toArray }:=by rw [<- hs3]
  have hns:h1.Ns s3.heap.objs.size (fun x=>List.lookup x ([]:List (Str × Value)).reverse):=by rw [hh3]; exact hns
  have hsb:Heap.SameBut s3.heap.objs.size (s3.heap.push { cls:=.type (if (some X.env).isSome=true then "dict" else "frame"),data:=.dict #[] }) h1:=by rw [hh3]; exact hsb
  have hk3:∀ b o,s.heap.get? b=some o -> s3.heap.get? b=some o:=fun b o e=>by rw [hh3]; exact Heap.get?_push_of_some _ e
  have J0:=I3.block (N':=N') (cap:=cap) (fp:=fp) (tk:=s3.toks + ([]:List (Str × Value)).length) L.kind L.cap L.sub L.has hf3 (fun b hb=>let ⟨o,e⟩:=hfo b hb; ⟨o,hk3 b o e⟩) hns hsb
  have st1:tn 0 h1:=T.keep 0 s.heap h1 st fun b hb o e=>(hsb.2 b (Nat.ne_of_lt (Heap.lt_size (hk3 b o e)))).trans (Heap.get?_push_of_some _ (hk3 b o e))
  have fpx:∀ {H':Hp},(∀ b ∈ fp,H' b=none) -> ∀ b ∈ fp,FpOk (cxComp X N' sc cl s3 (upd H s.heap.objs.size (.lst [])) fp) [] H' b:=fun hn b hb=>by
    obtain ⟨o,e⟩:=hfo b hb
    refine ⟨hn b hb,Nat.ne_of_lt (Heap.lt_size (hk3 b o e)),fun hb'=>?_,.inl hb,fun x c q=>(hf b hb).2.2.2.2.1 x c (L.sub.look q),fun p hp=>absurd (show p ∈ ([]:List (Addr × Obj)) from hp) (by simp)⟩
    rcases List.mem_cons.mp (I.stkSub b hb') with z | z
    . exact (hf b hb).2.1 z
    . exact (hf b hb).2.2.1 z
  have loop:∀ s4:Shared,s4={ s3 with heap:=h1,toks:=s3.toks + ([]:List (Str × Value)).length } ->
      codeAny (model X.prog X.w) X.A (.compLoop (.ListComp el [⟨tg,src,cs,0⟩] sc at') 0 (.ref it) (.ref s.heap.objs.size) (compEnvC sc cl s3.heap.objs.size X.env)) (RR (.ref s.heap.objs.size) s3.heap.objs.size) s4:=by
    rintro s4 rfl
    refine qXX (fun n s'=>∃ i ys H',Inv (cxComp X N' sc cl s3 (upd H s.heap.objs.size (.lst [])) fp) [] (capS cap σ) H' s' /\ tn i s'.heap /\ (∀ b ∈ fp,H' b=none) /\ W i n ys H') ?_ m0 ⟨0,[],_,J0,st1,fun b hb=>(hf3 b hb).1,w0⟩
    rintro n s' ⟨i,ys,H',Ji,sti,fri,wi⟩
    obtain ⟨hD,hlen,hgo⟩:=step i n ys H' wi
    rcases hgo with ⟨hstop,hq⟩ | ⟨hgo,hbody⟩
    . refine thn (T.done (cxComp X N' sc cl s3 (upd H s.heap.objs.size (.lst [])) fp) rfl rfl rfl hc i [] s' _ H' NoX Ji (fpx fri) sti hstop) fun r s1 ⟨hr,J1⟩=>.inl ⟨hr,?_⟩
      obtain ⟨m1,hm1,_⟩:=J1.loc
      exact hR _ _ m1 H' s1 (I3.unblock hf3 J1) hm1 (I3.fpOk (Nat.le_refl _) J1.free) hq
    . refine thn (T.item (cxComp X N' sc cl s3 (upd H s.heap.objs.size (.lst [])) fp) rfl rfl rfl hc i [] s' _ H' NoX Ji (fpx fri) sti hgo) fun r s1 ⟨u,hr,h4⟩=>.inr ⟨u,hr,thn h4 fun _ s5 ⟨x,H5,J5,r5,y5,st5,fr5⟩=>?_⟩
      have J5':=J5.pinned (fpx fr5) (T.obj _ _ st5)
      refine thn (hg _ _ _ _ s5 _ H5 x u _ J5' r5 (hbody x H5 y5)) fun _ s6 ⟨σ6,H6,J6,ext,q6⟩=>?_
      have endT:∀ {ys':List V} {H7:Hp} {s7:Shared} {m':Nat},Inv (cxComp X N' sc cl s3 (upd H s.heap.objs.size (.lst [])) fp) ([] ++ pinsAt fp s5.heap) σ6 H7 s7 -> m' < n -> W (i + 1) m' ys' H7 ->
          ∃ m,m < n /\ ∃ i ys H',Inv (cxComp X N' sc cl s3 (upd H s.heap.objs.size (.lst [])) fp) [] (capS cap σ) H' s7 /\ tn i s7.heap /\ (∀ b ∈ fp,H' b=none) /\ W i m ys H':=fun {ys' H7 s7 m'} J7 hm w7=>by
        refine ⟨m',hm,i + 1,ys',H7,(J7.unpinned).weak ?_ fun j v z=>ext.at j v z,T.keep _ _ _ st5 fun b hb o e=>(J7.pin (b,o) (List.mem_append_right _ (List.mem_append_right _ (mem_pinsAt hb e)))).1,fun b hb=>?_,w7⟩
        . rw [J7.len,Ji.len]
        . obtain ⟨o,e,_⟩:=T.obj _ _ st5 b hb
          exact (J7.pin (b,o) (List.mem_append_right _ (List.mem_append_right _ (mem_pinsAt hb e)))).2.1
      refine thn (ht _ _ _ _ s6 _ H6 _ J6 q6) fun ok s7 ⟨H7,J7,q7⟩=>?_
      cases ok with
      | false =>
        obtain ⟨m',hm,w7⟩:=q7
        exact endT J7 hm w7
      | true =>
        refine thn (he _ _ _ _ s7 _ H7 _ J7 q7) fun y s8 ⟨yv,H8,J8,r8,hD8,m',hm,w8⟩=>?_
        exact thn (mt_append _ s8 _ H8 (.ref s.heap.objs.size) [yv] (.ref s.heap.objs.size) [y] (fun v H9=>H9=upd H8 s.heap.objs.size (.lst (ys ++ [yv]))) J8 rfl (.cons r8 .nil) ⟨_,ys,yv,rfl,rfl,hD8,hlen,rfl⟩) fun _ s9 ⟨_,H9,J9,_,e9⟩=>by
          subst e9
          exact endT J9 hm w8
  subst hs3
  exact codeAny_compStart_list (loop _ rfl) (T.self _ 0 _ _ _ st1 (loop _ rfl))
theorem zV3 {wi:TI} (L:LcOk X N' sc cl cap) (hc:X.calm=true) (hi:PI X tg src wi) (hg:∀ s H fp,PG (cxComp X N' sc cl s H fp) tg g) (ht:∀ s H fp,PTs (cxComp X N' sc cl s H fp) cs tt) (he:∀ s H fp,PE (cxComp X N' sc cl s H fp) el te)
    (hs:∀ x,foldedSetIterable src X.env x=pure x:=by intro _; rfl):PE X (.ListComp el [⟨tg,src,cs,0⟩] sc at') (tLC cap wi g tt te):=by
  intro pins s σ H Q I h
  rw [eval_ListComp]
  refine wpAny_comprehension_free (use:=none) rfl hs L.clos L.kind L.names (thn (hi pins s σ H _ I h) fun v s1 h1=>thn h1 fun itv s2 h2=>?_)
  obtain ⟨it,fp,tn,J,H2,rfl,I2,T,st2,f2,rd⟩:=h2
  refine zVJ L hc I2 T st2 f2 hg ht he rd (RR:=fun acc C=>compPost (model X.prog X.w) X.A X.xe none (EP X pins σ Q) acc C) fun D C m H' s' J' hn fC q=>?_
  refine ⟨m,hn,fun h' sb=>⟨.ref D,H',J'.turned (t':=s'.toks) (fun b o hb e=>(sb.2 b hb).trans e) fC.1 fC.2.1 fC.2.2.2.1 fC.2.2.2.2.1 fC.2.2.2.2.2,rfl,q⟩⟩
theorem qZK {wi:TI} {i:Nat} {x:Str} {px spos:Pos} (hN:X.N.Nodup) (hi':X.N[i]?=some x) (hx:X.env.scope.names.lookup x=some .local) (L:LcOk X N' sc cl cap) (hc:X.calm=true) (hi:PI X tg src wi) (hg:∀ s H fp,PG (cxComp X N' sc cl s H fp) tg g)
    (ht:∀ s H fp,PTs (cxComp X N' sc cl s H fp) cs tt) (he:∀ s H fp,PE (cxComp X N' sc cl s H fp) el te) (hsw:swapsWith (.ListComp el [⟨tg,src,cs,0⟩] sc at') (some (.Name x px)) spos.line X.env=pure true)
    (hs:∀ x,foldedSetIterable src X.env x=pure x:=by intro _; rfl):PS X (.Assign [.Name x px] (.ListComp el [⟨tg,src,cs,0⟩] sc at') spos) (tAsg (tLC cap wi g tt te) (gName i)):=by
  intro pins s σ H D I h
  rw [exec_Assign_Name_used _ _ _ _ hsw]
  refine wpAny_bind (wpAny_standAt (wpAny_bind ?_))
  show wpAny _ X.A (do let _ <- comprehension (.ListComp el [⟨tg,src,cs,0⟩] sc at') sc X.env _ (newList []) false (eval src X.env) (some (assign (.Name x px) X.env))) _ _ s
  refine wpAny_bind (thn (wpAny_comprehension_free (use:=some (assign (.Name x px) X.env)) (Q:=fun _ s'=>SP X pins D .next s') rfl hs L.clos L.kind L.names (thn (hi pins s σ H _ I h) fun v s1 h1=>thn h1 fun itv s2 h2=>?_)) fun _ s' q=>wpAny_pure (wpAny_pure q))
  obtain ⟨it,fp,tn,J,H2,rfl,I2,T,st2,f2,rd⟩:=h2
  refine zVJ L hc I2 T st2 f2 hg ht he rd (RR:=fun acc C=>compPost (model X.prog X.w) X.A X.xe (some (assign (.Name x px) X.env)) (fun _ s'=>SP X pins D .next s') acc C) fun D' C m H' s' J' hn fC q=>?_
  obtain ⟨oC,es,ep,hoC,hdC,hr⟩:=hn
  have Jp:Inv X (pins ++ [(C,oC)]) σ H' s':=J'.pins_of fun p hp=>by
    rcases List.mem_append.mp hp with z | z
    . exact J'.pin p (List.mem_append_right _ z)
    . have e:p=(C,oC):=by simpa using z
      subst e
      exact ⟨hoC,fC.1,fC.2.1,fC.2.2.1,fun v z=>by rw [hdC] at z; cases z⟩
  show wpAny _ X.A (assign (.Name x px) X.env (.ref D')) _ _ s'
  refine thn (pg_name (i:=i) hN hi' (.inl hx) (.inr hx) _ s' σ H' (.ref D') (.ref D') (fun σ' H''=>D.nx σ' H'') Jp rfl q) fun _ s'' ⟨σ',H'',J2,q2⟩=>?_
  obtain ⟨p1,p2,p3,p4,p5⟩:=J2.pin (C,oC) (List.mem_append_right _ (List.mem_append_right _ (by simp)))
  refine ⟨m,⟨oC,es,ep,p1,hdC,hr⟩,fun h' sb=>⟨σ',H'',(J2.pins_of (pins':=pins) fun p hp=>J2.pin p (List.mem_append_right _ (List.mem_append_left _ hp))).turned (t':=s''.toks) (fun b o hb e=>(sb.2 b hb).trans e) p2 fC.2.1 fC.2.2.2.1 fC.2.2.2.2.1 fC.2.2.2.2.2,q2⟩⟩
end
theorem ObjOk.get {P:Program} {w:World} {H:Hp} {h:Heap} {a:Addr} {o:HO} (x:ObjOk P w H h a o):∃ ob,h.get? a=some ob:=by
  cases o with
  | lst xs=>obtain ⟨_,_,_,_,e⟩:=x; exact ⟨_,e⟩
  | tup xs=>obtain ⟨_,_,_,ob,e,_⟩:=x; exact ⟨ob,e⟩
  | dK kvs=>obtain ⟨_,_,_,_,o,_,_,e,_⟩:=x; exact ⟨o,e⟩
  | dT kvs=>obtain ⟨_,_,_,_,o,_,_,e,_⟩:=x; exact ⟨o,e⟩
  | set S n=>obtain ⟨o,_,_,_,e,_⟩:=x; exact ⟨o,e⟩
  | ins C dx fs=>obtain ⟨_,_,_,e,_⟩:=x; exact ⟨_,e⟩
  | own y=>exact x
  | xd fs=>obtain ⟨_,⟨o,_,_,e,_⟩,_⟩:=x; exact ⟨o,e⟩
  | rng lo hi=>obtain ⟨_,_,_,e⟩:=x; exact ⟨_,e⟩
  | frz ob u=>obtain ⟨e,_⟩:=x; exact ⟨ob,e⟩
  | tbl ps=>exact ⟨_,(show h.get? a=some _ from x)⟩
  | met f y=>exact ⟨_,(show h.get? a=some _ from x)⟩
  | ext φ=>obtain ⟨_,e,_⟩:=x; exact e
structure Lft (fr as:List Addr) (h h2:Heap) (a:Addr) (cls:Value):Prop where
  keep:∀ b o,h.get? b=some o -> b ∉ as -> h2.get? b=some o
  slot:∀ b o,b ∈ fr -> h.get? b=some o -> ∃ sl,h2.get? b=some { o with slots:=sl }
  ex:∃ oe vs T oT ts,h2.get? a=some oe /\ oe.cls=cls /\ oe.dict=none /\ oe.data=.fields vs /\ vs[1]?=some (.ref T) /\ h.get? T=none /\ T ≠ a /\ h2.get? T=some oT /\ oT.data=.fields ts /\ ts[3]?=some .none
theorem zJ0 (f:Array Value -> Array Value) (o:Obj):(Obj.mapFields f o).dict=o.dict:=by
  unfold Obj.mapFields
  split <;> rfl
section
variable {M:Model} {A:Around} {E:Value -> Shared -> Prop} {s:Shared} {base:Heap} {env:Env} {outer:List Env} {L a:Addr} {oe:Obj} {vs:Array Value} {as:List Addr} {Q:Unit -> Shared -> Prop}
theorem zVW {head:Value} {hadNext:Bool} (hfr:A.frames=some (env :: outer)) (hl:s.heap.FunFrames base (env :: outer)) (hf:env.frame=some L) (he:s.heap.get? a=some oe) (hdn:oe.dict=none) (hd:oe.data=.fields vs) (hsz:1 < vs.size)
    (haa:a ∈ as) (hfs:∀ b ∈ frs (env :: outer),b ∈ as) (h:∀ h',Lft (frs (env :: outer)) as s.heap h' a oe.cls -> Q () { s with heap:=h' }) :
    wpAny M A (do let x <- frameOf env; let pl <- entryPlaceOf L hadNext; let b <- EntryCells.newEntry head x .none (rawInt L) .none pl; setField (.ref a) 1 b) (fun _ s'=>wpAny M A (setFlight (.ref a) none) Q E s') E s:=by
  have hna:a ∉ frs (env :: outer):=fun z=>by
    obtain ⟨_,o,e,d⟩:=hl.mem z
    rw [he] at e; cases e; exact d vs hd
  refine wpAny_bind (wpAny_frameOf_fun hfr hl hf fun h1 so=>wpAny_bind (wpAny_entryPlaceOf fun pl hpl=>?_))
  unfold EntryCells.newEntry newFields
  refine wpAny_bind (wpAny_newObj_type ?_ (hpl.sizeOk5 _ _ _ _ _))
  have e1:h1.get? a=some oe:=(so.2.1 a hna).trans he
  have nT:h1.objs.size ≠ a:=Nat.ne_of_gt (Heap.lt_size e1)
  generalize hts:([head,Value.ref L,Value.none,rawInt L,Value.none] ++ (if pl.isEmpty then List.replicate 6 Value.none else pl)).toArray=ts
  have lt3:3 < ts.size:=by rw [<- hts]; simp
  have e2:=Heap.get?_push_of_some (h:=h1) { cls:=.type "traceback",dict:=none,data:=.fields ts } e1
  have t2:=Heap.get?_push_size h1 (o:={ cls:=.type "traceback",dict:=none,data:=.fields ts }) rfl
  refine wpAny_setField e2 hd hsz ?_
  have d3:=Obj.data_mapFields hd (·.setIfInBounds 1 (Value.ref h1.objs.size))
  have e3:=Heap.get?_update_self (Obj.mapFields (·.setIfInBounds 1 (Value.ref h1.objs.size))) e2 (Obj.isFreed_of_fields d3)
  have t3:=(Heap.get?_update_other (h1.push { cls:=.type "traceback",dict:=none,data:=.fields ts }) (Obj.mapFields (·.setIfInBounds 1 (Value.ref h1.objs.size))) (Ne.symm nT)).trans t2
  refine wpAny_setFlight_none (vs:=vs.setIfInBounds 1 (.ref h1.objs.size)) e3 d3 (by simp [hsz]) t3 rfl lt3 (h _ ⟨fun b o q nb=>?_,fun b o q eb=>?_,?_⟩)
  . have q1:h1.get? b=some o:=(so.2.1 b fun z=>nb (hfs b z)).trans q
    have ba:b ≠ a:=fun z=>nb (z ▸ haa)
    rw [Heap.get?_update_other _ _ (Nat.ne_of_gt (Heap.lt_size q1)),Heap.get?_update_other _ _ (Ne.symm ba)]
    exact Heap.get?_push_of_some _ q1
  . obtain ⟨sl,q1⟩:=so.2.2 b o eb
    have ba:b ≠ a:=fun z=>hna (z ▸ q)
    refine ⟨sl,?_⟩
    rw [Heap.get?_update_other _ _ (Nat.ne_of_gt (Heap.lt_size q1)),Heap.get?_update_other _ _ (Ne.symm ba)]
    exact Heap.get?_push_of_some _ q1
  . refine ⟨_,_,h1.objs.size,_,_,(Heap.get?_update_other _ _ nT).trans e3,Obj.cls_mapFields _ _,?_,d3,by simp [hsz],?_,nT,Heap.get?_update_self _ t3 (Obj.isFreed_of_fields (Obj.data_mapFields rfl _)),Obj.data_mapFields rfl _,by simp [lt3]⟩
    . rw [zJ0]; exact hdn
    . cases q:s.heap.get? h1.objs.size with
      | none=>rfl
      | some o =>
        obtain ⟨sl,q1⟩:=so.2.2 _ o q
        exact absurd (Heap.lt_size q1) (Nat.lt_irrefl _)
theorem qQ7 (hfr:A.frames=some (env :: outer)) (hl:s.heap.FunFrames base (env :: outer)) (hf:env.frame=some L) (he:s.heap.get? a=some oe) (hdn:oe.dict=none) (hd:oe.data=.fields vs) (h1:vs[1]?=some .none)
    (haa:a ∈ as) (hfs:∀ b ∈ frs (env :: outer),b ∈ as) (h:∀ h',Lft (frs (env :: outer)) as s.heap h' a oe.cls -> Q () { s with heap:=h' }) :
    wpAny M A (noteFrame (.ref a) env) (fun _ s'=>wpAny M A (setFlight (.ref a) none) Q E s') E s:=by
  unfold noteFrame
  simp only [hf]
  refine wpAny_bind (wpAny_field he hd h1 ?_)
  rw [if_neg (by decide)]
  exact zVW hfr hl hf he hdn hd (Array.getElem?_eq_some_iff.mp h1).1 haa hfs h
theorem zV9 {T:Addr} {oT:Obj} {ts:Array Value} (hfr:A.frames=some (env :: outer)) (hl:s.heap.FunFrames base (env :: outer)) (hf:env.frame=some L) (he:s.heap.get? a=some oe) (hdn:oe.dict=none) (hd:oe.data=.fields vs) (h1:vs[1]?=some (.ref T))
    (hTa:T ≠ a) (hT:s.heap.get? T=some oT) (hdT:oT.data=.fields ts) (h3:ts[3]?=some .none)
    (haa:a ∈ as) (hTT:T ∈ as) (hfs:∀ b ∈ frs (env :: outer),b ∈ as) (h:∀ h',Lft (frs (env :: outer)) as s.heap h' a oe.cls -> Q () { s with heap:=h' }) :
    wpAny M A (noteFrame (.ref a) env) (fun _ s'=>wpAny M A (setFlight (.ref a) none) Q E s') E s:=by
  unfold noteFrame
  simp only [hf]
  refine wpAny_bind (wpAny_field he hd h1 ?_)
  rw [if_pos (show (Value.ref T != Value.none)=true from by simp)]
  refine wpAny_bind (wpAny_field hT hdT h3 ?_)
  rw [if_neg (show ¬ ((Value.none == rawInt L)=true) from by simp [rawInt])]
  refine wpAny_bind (wpAny_setField hT hdT (Array.getElem?_eq_some_iff.mp h3).1 ?_)
  have nT:T ∉ frs (env :: outer):=fun z=>by
    obtain ⟨_,o,e,d⟩:=hl.mem z
    rw [hT] at e; cases e; exact d ts hdT
  have oth:∀ b,b ≠ T -> (s.heap.update T (Obj.mapFields (·.setIfInBounds 3 Value.none))).get? b=s.heap.get? b:=fun b hb=>Heap.get?_update_other _ _ (Ne.symm hb)
  have selfT:=Heap.get?_update_self (Obj.mapFields (·.setIfInBounds 3 Value.none)) hT (Obj.isFreed_of_fields (Obj.data_mapFields hdT _))
  refine zVW hfr (hl.of_keeps fun b o hb hnf=>⟨o,(oth b (fun z=>by rw [z,hT] at hb; cases hb; exact hnf ts hdT)).trans hb,rfl⟩) hf ((oth a (Ne.symm hTa)).trans he) hdn hd (Array.getElem?_eq_some_iff.mp h1).1 haa hfs fun h' q=>h h' ⟨fun b o e nb=>?_,fun b o z e=>?_,?_⟩
  . exact q.keep b o ((oth b fun z=>nb (z ▸ hTT)).trans e) nb
  . exact q.slot b o z ((oth b fun y=>nT (y ▸ z)).trans e)
  . obtain ⟨oe',vs',T',oT',ts',x1,x2,x3,x4,x5,x6,x7⟩:=q.ex
    refine ⟨oe',vs',T',oT',ts',x1,x2,x3,x4,x5,?_,x7⟩
    rw [<- oth T' (fun z=>by rw [z,selfT] at x6; cases x6)]
    exact x6
end
structure Fly (h0:Heap) (H:Hp) (h:Heap) (a:Addr) (cls:Value):Prop where
  ex:∃ oe vs T oT ts,h.get? a=some oe /\ oe.cls=cls /\ oe.dict=none /\ oe.data=.fields vs /\ vs[1]?=some (.ref T) /\ T ≠ a /\ h.get? T=some oT /\ oT.data=.fields ts /\ ts[3]?=some .none /\ H T=none /\ h0.get? T=none
  un:H a=none
  new:h0.get? a=none
def CXe (P:Program) (w:World):CXT:=fun outer H s E e s'=>∃ a cls H',e=.ref a /\ s'.os=s.os /\ AllBare s'.gens /\ Un (frs outer) [] H H' s.heap s'.heap /\ HOk P w H' s'.heap /\ Fly s.heap H' s'.heap a cls /\ E cls none H'
section
variable {X:Cx} {pins:List (Addr × Obj)} {σ:St} {H1 H':Hp} {s1 s':Shared} {a:Addr} {cls:Value} {E:XK}
theorem yK1 {base h h':Heap}:∀ {l:List Env},h.FunFrames base l -> (∀ b ∈ frs l,∀ o,h.get? b=some o -> ∃ sl,h'.get? b=some { o with slots:=sl }) -> h'.FunFrames base l
  | [],_,_=>tJ
  | ev :: r,hl,k=>by
    obtain ⟨hk,⟨L,o,hf,hn,ho,hd⟩,hr⟩:=hl
    have e:frs (ev :: r)=L :: frs r:=by unfold frs; rw [List.filterMap_cons,hf]
    obtain ⟨sl,q⟩:=k L (by rw [e]; exact List.mem_cons_self) o ho
    exact ⟨hk,⟨L,_,hf,hn,q,hd⟩,yK1 hr fun b hb=>k b (by rw [e]; exact List.mem_cons_of_mem _ hb)⟩
theorem Inv.stackE (I:Inv X pins σ H1 s1) (u:Un (frs X.stack) [] H1 H' s1.heap s'.heap):s'.heap.FunFrames X.base X.stack :=
  yK1 I.stack fun b hb o e=>u.slot b o e (I.stkFree b hb) hb (by simp)
theorem zV5 {as:List Addr} {h2:Heap} (I:Inv X pins σ H1 s1) (hst:X.stack=X.env :: X.outer) (hfr:X.env.frame=some X.env.locals) (hex:X.ex=[]) (ho:s'.os=s1.os) (hb:AllBare s'.gens)
    (u:Un (frs X.stack) [] H1 H' s1.heap s'.heap) (hok:HOk X.prog X.w H' s'.heap) (has:∀ b ∈ as,b ∈ frs X.stack \/ (H' b=none /\ s1.heap.get? b=none)) (hfs:∀ b ∈ frs X.stack,b ∈ as) (haa:a ∈ as) (hna:H' a=none /\ s1.heap.get? a=none)
    (L:Lft (frs X.stack) as s'.heap h2 a cls) (hE:E cls none H'):CXe X.prog X.w X.outer X.H₀ X.s₀ E (.ref a) { s' with heap:=h2 }:=by
  have hfs':frs X.stack=X.env.locals :: frs X.outer:=by rw [hst]; unfold frs; rw [List.filterMap_cons,hfr]
  have noex:∀ b:Addr,b ∉ X.ex:=fun b=>by rw [hex]; simp
  have FF:=I.stackE u
  have keep2:=L.keep
  have slot2:=L.slot
  have below:∀ b o,X.s₀.heap.get? b=some o -> b ≠ X.env.locals:=fun b o e=>Nat.ne_of_lt (Nat.lt_of_lt_of_le (Heap.lt_size e) I.ok.above)
  have out:∀ b o,s1.heap.get? b=some o -> b ∈ as -> b ∈ frs X.stack:=fun b o e z=>by
    rcases has b z with q | ⟨_,q⟩
    . exact q
    . rw [e] at q; cases q
  have here:∀ b o,X.s₀.heap.get? b=some o -> ∃ o',s1.heap.get? b=some o':=fun b o e=>I.base.there b o e (noex b)
  obtain ⟨oe,vs,T,oT,ts,he,hcls,hdi,hd,h1,hnT,hTe,hT,hdT,h3⟩:=L.ex
  have hT0:T ∈ as \/ s'.heap.get? T=none:=.inr hnT
  have freeAs:∀ b ∈ as,H' b=none:=fun b z=>by
    rcases has b z with q | ⟨q,_⟩
    . obtain ⟨_,o,e,_⟩:=I.stack.mem q
      exact u.free b o e (I.stkFree b q) (by simp)
    . exact q
  refine ⟨a,cls,H',rfl,ho.trans I.os,hb,⟨fun b o e n hbf _=>?_,fun b o e n hbf _=>?_,fun b o e n _=>?_,fun b o e _=>?_,fun b xs e=>u.tups b xs (I.base.tups b xs e),fun b o v e=>u.frzs b o v (I.base.frzs b o v e),fun b ps e=>?_⟩,fun b o e=>?_,⟨⟨oe,vs,T,oT,ts,he,hcls,hdi,hd,h1,hTe,hT,hdT,h3,?_,?_⟩,hna.1,?_⟩,hE⟩
  . have e1:=I.base.keep b o e n hbf (noex b)
    have n1:=I.base.free b o e n (noex b)
    have b1:b ∉ frs X.stack:=fun z=>by rw [hfs'] at z; exact (List.mem_cons.mp z).elim (below b o e) hbf
    exact keep2 b o (u.keep b o e1 n1 b1 (by simp)) fun z=>b1 (out b o e1 z)
  . obtain ⟨sl1,e1⟩:=I.base.slot b o e n hbf (noex b)
    have n1:=I.base.free b o e n (noex b)
    have b1:b ∈ frs X.stack:=by rw [hfs']; exact List.mem_cons_of_mem _ hbf
    obtain ⟨sl2,e2⟩:=u.slot b _ e1 n1 b1 (by simp)
    obtain ⟨sl3,e3⟩:=slot2 b _ b1 e2
    exact ⟨sl3,e3⟩
  . obtain ⟨o1,e1⟩:=here b o e
    exact u.free b o1 e1 (I.base.free b o e n (noex b)) (by simp)
  . obtain ⟨o1,e1⟩:=here b o e
    obtain ⟨o2,e2⟩:=u.there b o1 e1 (by simp)
    by_cases z:b ∈ as
    . obtain ⟨sl,e3⟩:=slot2 b o2 (out b o1 e1 z) e2
      exact ⟨_,e3⟩
    . exact ⟨o2,keep2 b o2 e2 z⟩
  . obtain ⟨m1,e1⟩:=I.base.tbls b ps e
    obtain ⟨m2,e2⟩:=u.tbls b _ e1
    exact ⟨m1 ++ m2,by rw [e2,Array.append_assoc]⟩
  . refine (hok b o e).stay (fun c v hc q=>keep2 c v q fun z=>?_) (fun _ q=>q) fun _ _ q=>q
    have:=freeAs c z
    rcases hc with rfl | hc
    . rw [this] at e; cases e
    . rw [this] at hc; cases hc
  . rcases hT0 with z | z
    . exact freeAs T z
    . cases q:H' T with
      | none=>rfl
      | some v=>obtain ⟨ob,e⟩:=(hok T v q).get; rw [z] at e; cases e
  . cases q:X.s₀.heap.get? T with
    | none=>rfl
    | some o =>
      obtain ⟨o1,e1⟩:=here T o q
      obtain ⟨o2,e2⟩:=u.there T o1 e1 (by simp)
      rcases hT0 with z | z
      . obtain ⟨sl,e3⟩:=slot2 T o2 (out T o1 e1 z) e2
        obtain ⟨_,o4,e4,d4⟩:=FF.mem (out T o1 e1 z)
        rw [e2] at e4; cases e4
        rw [hT] at e3; cases e3
        exact absurd hdT (d4 ts)
      . rw [z] at e2; cases e2
  . cases q:X.s₀.heap.get? a with
    | none=>rfl
    | some o=>obtain ⟨o1,e1⟩:=here a o q; rw [hna.2] at e1; cases e1
theorem leave_new {oe:Obj} {vs:Array Value} {Q:Unit -> Shared -> Prop} (I:Inv X pins σ H1 s1) (hst:X.stack=X.env :: X.outer) (hfr:X.env.frame=some X.env.locals) (hex:X.ex=[]) (ho:s'.os=s1.os) (hb:AllBare s'.gens)
    (u:Un (frs X.stack) [] H1 H' s1.heap s'.heap) (hok:HOk X.prog X.w H' s'.heap) (hna:H' a=none /\ s1.heap.get? a=none) (he:s'.heap.get? a=some oe) (hc:oe.cls=cls) (hdi:oe.dict=none) (hd:oe.data=.fields vs) (h1:vs[1]?=some .none) (hE:E cls none H')
    (hQ:∀ s2,CXe X.prog X.w X.outer X.H₀ X.s₀ E (.ref a) s2 -> Q () s2) {M:Model} {E':Value -> Shared -> Prop}:wpAny M X.A (leaving X.env (.ref a)) Q E' s':=by
  subst hc
  have hA:X.A.frames=some (X.env :: X.outer):=by rw [<- hst]; exact I.ok.frames
  have FF:=I.stackE u
  refine wpAny_bind (qQ7 (as:=a :: frs X.stack) hA (by rw [<- hst]; exact FF) hfr he hdi hd h1 List.mem_cons_self (fun b z=>List.mem_cons_of_mem _ (by rw [hst]; exact z)) fun h2 L=>hQ _ ?_)
  rw [<- hst] at L
  exact zV5 I hst hfr hex ho hb u hok (fun b z=>(List.mem_cons.mp z).elim (fun q=>.inr (by rw [q]; exact hna)) .inl) (fun b z=>List.mem_cons_of_mem _ z) List.mem_cons_self hna L hE
theorem qVV {Q:Unit -> Shared -> Prop} (I:Inv X pins σ H1 s1) (hst:X.stack=X.env :: X.outer) (hfr:X.env.frame=some X.env.locals) (hex:X.ex=[]) (ho:s'.os=s1.os) (hb:AllBare s'.gens)
    (u:Un (frs X.stack) [] H1 H' s1.heap s'.heap) (hok:HOk X.prog X.w H' s'.heap) (F:Fly s1.heap H' s'.heap a cls) (hE:E cls none H')
    (hQ:∀ s2,CXe X.prog X.w X.outer X.H₀ X.s₀ E (.ref a) s2 -> Q () s2) {M:Model} {E':Value -> Shared -> Prop}:wpAny M X.A (leaving X.env (.ref a)) Q E' s':=by
  obtain ⟨oe,vs,T,oT,ts,he,hcls,hdi,hd,h1,hTe,hT,hdT,h3,hHT,hsT⟩:=F.ex
  subst hcls
  have hA:X.A.frames=some (X.env :: X.outer):=by rw [<- hst]; exact I.ok.frames
  have FF:=I.stackE u
  refine wpAny_bind (zV9 (as:=a :: T :: frs X.stack) hA (by rw [<- hst]; exact FF) hfr he hdi hd h1 hTe hT hdT h3 List.mem_cons_self (List.mem_cons_of_mem _ List.mem_cons_self) (fun b z=>List.mem_cons_of_mem _ (List.mem_cons_of_mem _ (by rw [hst]; exact z))) fun h2 L=>hQ _ ?_)
  rw [<- hst] at L
  refine zV5 I hst hfr hex ho hb u hok (fun b z=>?_) (fun b z=>List.mem_cons_of_mem _ (List.mem_cons_of_mem _ z)) List.mem_cons_self ⟨F.un,F.new⟩ L hE
  rcases List.mem_cons.mp z with q | z
  . exact .inr (by rw [q]; exact ⟨F.un,F.new⟩)
  . rcases List.mem_cons.mp z with q | z
    . exact .inr (by rw [q]; exact ⟨hHT,hsT⟩)
    . exact .inl z
end
theorem passE {P:Program} {w:World} {K:PySem.W.Frag} {mg:Str -> Option Value} {base:Heap} {N:List Str} {qual:Str} {scope:Scope} {f:Addr} {cd:Value} {A:Around} {outer:List Env} {s:Shared} {H:Hp} {E:XK} :
    Passes (CXe P w) (cxOf (CXe P w) P w K mg base N qual scope f cd A outer s H E) E:=fun pins σ H1 s1 e s' I h=>by
  obtain ⟨a,cls,H',rfl,ho,hb,u,hok,F,hE⟩:=h
  exact qVV I rfl rfl rfl ho hb u hok F hE (M:=model P w) (E':=fun e' s2=>CXe P w outer H s E e' s2) fun s2 q=>q
abbrev bmV:List Value:=[.type "ValueError",.type "Exception",.type "BaseException",.type "object"]
abbrev ExcC (K:PySem.W.Frag) (C:Addr):Prop:=PySem.W.excIn K C bmV "ValueError.__new__"=true
theorem ExcC.facts {K:PySem.W.Frag} {h:Heap} {C:Addr} (X:K.In h) (q:ExcC K C):∃ nm qn N bs bm hd sn sub ab col dd k0 k1 k2 k3 k5 mN,
    h.get? C=some (excClassObj nm qn C N bs bm hd sn sub ab col dd k0 k1 k2 k3 k5 "ValueError.__new__") /\ h.Ns N mN /\ mN "__init__"=none /\ OwnTail h bmV bm:=by
  unfold ExcC PySem.W.excIn at q
  split at q
  . rename_i dd' cd' sl' hlk
    split at q
    . rename_i C2 bm2 j0 j1 j2 j3 n2 j5 em es
      simp only [Bool.and_eq_true,beq_iff_eq,Bool.not_eq_true'] at q
      obtain ⟨⟨⟨⟨⟨e1,e2⟩,e3⟩,e4⟩,e5⟩,e6⟩:=q
      subst e1 e2
      obtain ⟨nm,bs,mr,ns,qn,hd,sn,sub,ab,col,del⟩:=cd'
      dsimp only at em e3 e5 e6
      subst em e3
      have e7:sl' = #[j0,j1,j2,j3,some (.builtin "ValueError.__new__"),j5]:=by
        obtain ⟨l⟩:=sl'
        simp only at es
        rw [es]
      subst e7
      exact ⟨nm,qn,ns,bs,bm2,hd,sn,sub,ab,col,dd',j0,j1,j2,j3,j5,_,X _ _ hlk,.of_isNs (PySem.W.isNs_of_in X e5),PySem.W.nsMap_none_of_in X e5 e6,PySem.W.tail_of_in X e4⟩
    . cases q
  . cases q
def NewTo (X:Cx) (E:XK):Prop:=∀ (pins:List (Addr × Obj)) (σ:St) (H:Hp) (s:Shared) (a:Addr) (cls:Value) (vs:List Value) (h':Heap),Inv X pins σ H s -> Heap.MadeExcOf s.heap h' a cls vs -> E cls none H -> X.xe (.ref a) { s with heap:=h' }
theorem Inv.untracked {X:Cx} {pins:List (Addr × Obj)} {σ:St} {H:Hp} {s:Shared} {a:Addr} (I:Inv X pins σ H s) (h:s.heap.get? a=none):H a=none:=by
  cases q:H a with
  | none=>rfl
  | some o=>obtain ⟨ob,e⟩:=(I.hok a o q).get; rw [h] at e; cases e
theorem newE {P:Program} {w:World} {K:PySem.W.Frag} {mg:Str -> Option Value} {base:Heap} {N:List Str} {qual:Str} {scope:Scope} {f:Addr} {cd:Value} {A:Around} {outer:List Env} {s:Shared} {H:Hp} {E:XK} :
    NewTo (cxOf (CXe P w) P w K mg base N qual scope f cd A outer s H E) E:=fun pins σ H1 s1 a cls vs h' I hm hE=>by
  obtain ⟨t,e,_⟩:=hm.there
  exact leave_new (s':={ s1 with heap:=h' }) I rfl rfl rfl rfl I.bare (Un.kept hm.keeps) (I.hok.kept hm.keeps) ⟨I.untracked hm.new,hm.new⟩ e rfl rfl rfl rfl hE (M:=model P w) (E':=fun e' s2=>CXe P w outer H s E e' s2) fun s2 q=>q
def tRaise (C:Addr) (E:XK) (t:TA):TS:=fun _ σ H=>t σ H fun _ H1=>E (.ref C) none H1
theorem qK0 {X:Cx} {E:XK} {x:Str} {np cpos pos:Pos} {e:Expr} {es:List Expr} {C:Addr} {t:TA} (hn:NewTo X E) (hc:X.calm=true) (q:ExcC X.K C) (hg:Gl X x) (hm:X.mg x=some (.ref C)) (ha:PA X (e :: es) t) (hz:(e :: es).length <= 1000:=by decide)
    (hdb:(x == ("__debug__":Str))=false:=by decide) (he:starEach (e :: es) X.env=(false,eval e X.env) :: starEach es X.env:=by rfl) (hpl:(backTo cpos (starEach (e :: es) X.env)).any (·.1)=false:=by rfl)
    (hl:∀ σ H Q,t σ H Q -> t σ H fun vs H1=>vs.length=(e :: es).length /\ Q vs H1):PS X (.Raise (some (.Call (.Name x np) (e :: es) [] cpos)) none pos) (tRaise C E t):=by
  intro pins s σ H D I h
  obtain ⟨nm,qn,N,bs,bm,hd,sn,sub,ab,col,dd,k0,k1,k2,k3,k5,mN,hC,hns,hni,tl⟩:=q.facts I.ok.mod.kin
  have hbase:bm.contains (.type "BaseException")=true:=tl.hasType (by decide +kernel)
  refine wpAny_Raise_call_subU (nm:=nm) (q:=qn) (C:=C) (N:=N) (bs:=bs) (bm:=bm) (hdct:=hd) (sn:=sn) (sub:=sub) (ab:=ab) (col:=col) (dd:=dd) (k0:=k0) (k1:=k1) (k2:=k2) (k3:=k3) (k5:=k5) (mN:=mN)
    PySem.F.excBase_ValueError (by decide +kernel) PySem.F.excBase_ValueError hbase (I.ok.hd hc) hpl hni (ld_glob I hg hm ⟨rfl,?_⟩ hdb)
  have ev:wpAny (model X.prog X.w) X.A (spliced (backTo cpos (starEach (e :: es) X.env))) (AP X pins σ fun vs H1=>vs.length=(e :: es).length /\ E (.ref C) none H1) X.xe s:=ha cpos pins s σ H _ I (hl σ H _ h)
  rw [he] at ev ⊢
  refine Calls.evalArgs_plain (thn ev fun us s1 ⟨vs,H1,I1,r,l1,q1⟩=>⟨rfl,?_,?_⟩)
  . show us.length <= sizeLine
    rw [<- r.length,l1]
    exact Nat.le_of_lt (small1000 hz)
  . exact ⟨I1.bk _ _ hC,hns.keeps I1.bk,tl.keeps I1.bk,fun h' a hm'=>hn pins σ H1 s1 a (.ref C) _ h' I1 hm' q1⟩
structure ClsFn (K:PySem.W.Frag) (C:Addr) (m:Str) (f:Addr):Prop where
  ga:PySem.W.specialIn K (.ref C) "__getattribute__"=some (some (.builtin "type.__getattribute__"))
  rd:PySem.W.readsIn K C (.type "type")=true
  fc:PySem.W.findCls K (.ref C) (.type "type") m=some (.val (.ref f))
  kp:PySem.W.keepIn K (.ref f)=true
section
variable {X:Cx} {CX:CXT} {k:Nat} {f C:Addr} {fd:FuncData} {ps:List Str} {sp:Sp} {dvs:List V} {ds:List Value} {E:XK} {x m:Str} {p pos apos:Pos} {e o:Expr} {es:List Expr} {ta:TE} {t:TA}
theorem jZU {pl:Sem Bool} (hg:Gl X x) (hm:X.mg x=some (.ref C)) (c:ClsFn X.K C m f) (F:FnOk X.prog X.w X.K X.mg X.base CX k f fd ps sp) (hr:Room k X.A) (hb:Binds X.K fd ps ds) (hd:Vals dvs ds) (hx:Passes CX X E) (ha:PA X (e :: es) t)
    (hdb:(x == ("__debug__":Str))=false:=by decide) (hst:starEach (e :: es) X.env=(false,eval e X.env) :: starEach es X.env:=by rfl) (hpl:(backTo pos (starEach es X.env)).any (·.1)=false:=by rfl)
    (ht:eval (.Call (.Attribute (.Name x p) m apos) (e :: es) [] pos) X.env=(do
      let ov <- eval (.Name x p) X.env
      standAt apos.atName
      let (f,first) <- holding [ov] (getMethod ov m pl)
      callWith pos f first (backTo pos (starEach (e :: es) X.env)) (backToKw pos (keywordEach [] X.env))):=by rfl):PE X (.Call (.Attribute (.Name x p) m apos) (e :: es) [] pos) (tCall sp dvs E t):=by
  intro pins s σ H Q I h
  refine PySem.W.methodCall_KW (pl:=pl) (ld_glob I hg hm ?_ hdb) ht
  refine PySem.W.method_cls I.kIn c.ga (PySem.W.cls_value I.kIn c.rd c.fc rfl ?_)
  have I':=I.tok (s.toks + 1)
  refine PySem.W.callWith_K (first:=[]) (h₀:=X.base) I.ok.mod.kin c.kp (thn (ha pos pins _ σ H _ I' h) fun us s1 ⟨vs,H1,I1,r,q⟩=>⟨I1.kIn,?_⟩) hst hpl
  exact run_fn F hr hb hd hx I1 r q
end
structure OkM (P:Program) (w:World) (K:PySem.W.Frag) (mg:Str -> Option Value) (base:Heap) (CX:CXT) (k:Nat) (C:Addr) (m:Str) (ps:List Str) (sp:Sp):Prop where
  ex:∃ f fd,FnOk P w K mg base CX k f fd ps sp /\ Binds K fd ps [] /\ Meth K C m f /\ Cls K C
def spKM (KA:Hp -> Addr -> Int -> Prop) (a:Addr) (z:Int) (n:Nat) (pre:Int -> List Int -> Prop) (F:Int -> List Int -> Int):Sp:=fun vs H Q _=>∃ ns:List Int,ns.length=n /\ vs=.ref a :: ns.map V.int /\ KA H a z /\ pre z ns /\ Q (.int (F z ns)) H
structure KM (P:Program) (w:World) (K:PySem.W.Frag) (mg:Str -> Option Value) (base:Heap) (k:Nat) (KA:Hp -> Addr -> Int -> Prop) (m:Str) (n:Nat) (pre:Int -> List Int -> Prop) (F:Int -> List Int -> Int):Prop where
  ex:∀ H a z,KA H a z -> ∃ C dx fs ps,H a=some (.ins C dx fs) /\ fs.lookup m=none /\ OkM P w K mg base CX0 k C m ps (spKM KA a z n pre F)
structure OkC (P:Program) (w:World) (K:PySem.W.Frag) (mg:Str -> Option Value) (base:Heap) (CX:CXT) (k:Nat) (x:Str) (C:Addr) (m:Str) (ps:List Str) (sp:Sp):Prop where
  ex:∃ f fd,FnOk P w K mg base CX k f fd ps sp /\ Binds K fd ps [] /\ ClsFn K C m f /\ mg x=some (.ref C)
structure OkI (P:Program) (w:World) (K:PySem.W.Frag) (mg:Str -> Option Value) (base:Heap) (CX:CXT) (k:Nat) (x:Str) (C:Addr) (ps:List Str) (sp:Sp):Prop where
  ex:∃ f fd,FnOk P w K mg base CX k f fd ps sp /\ Binds K fd ps [] /\ Mk K C f /\ mg x=some (.ref C)
section
variable {X:Cx} {CX:CXT} {j k:Nat} {C:Addr} {ps:List Str} {sp:Sp} {E:XK} {x m:Str} {p pos apos:Pos} {e:Expr} {es:List Expr} {t:TA}
theorem jQ5 {pl:Sem Bool} (o:OkC X.prog X.w X.K X.mg X.base CX j x C m ps sp) (hr:Room k X.A) (hx:Passes CX X E) (ha:PA X (e :: es) t) (hj:j <= k:=by decide) (hg:Gl X x:=by rfl)
    (hdb:(x == ("__debug__":Str))=false:=by decide) (hst:starEach (e :: es) X.env=(false,eval e X.env) :: starEach es X.env:=by rfl) (hpl:(backTo pos (starEach es X.env)).any (·.1)=false:=by rfl)
    (ht:eval (.Call (.Attribute (.Name x p) m apos) (e :: es) [] pos) X.env=(do
      let ov <- eval (.Name x p) X.env
      standAt apos.atName
      let (f,first) <- holding [ov] (getMethod ov m pl)
      callWith pos f first (backTo pos (starEach (e :: es) X.env)) (backToKw pos (keywordEach [] X.env))):=by rfl):PE X (.Call (.Attribute (.Name x p) m apos) (e :: es) [] pos) (tCall sp [] E t):=by
  obtain ⟨f,fd,F,b,c,mm⟩:=o.ex
  exact jZU hg mm c (F.mono hj) hr b .nil hx ha hdb hst hpl ht
theorem qVZ (o:OkI X.prog X.w X.K X.mg X.base CX j x C ps sp) (hr:Room k X.A) (hx:Passes CX X E) (ha:PA X (e :: es) t) (hj:j + 1 <= k:=by decide) (hg:Gl X x:=by rfl) (hdb:(x == ("__debug__":Str))=false:=by decide)
    (he:starEach (e :: es) X.env=(false,eval e X.env) :: starEach es X.env:=by rfl) (hpl:(backTo pos (starEach es X.env)).any (·.1)=false:=by rfl):PE X (.Call (.Name x p) (e :: es) [] pos) (tMake C sp [] E t):=by
  obtain ⟨f,fd,F,b,c,mm⟩:=o.ex
  exact pe_make c F (hr.mono hj) hg mm b .nil hx ha hdb he hpl
end
def spS (K:PySem.W.Frag) (n:Nat) (pre:List Int -> List Int -> Prop) (F:List Int -> List Int -> Int):Sp:=fun vs H Q _=>∃ (a:Addr) (xs is:List Int),is.length=n /\ vs=.ref a :: is.map V.int /\ SqL K H a (xs.map V.int) /\ pre xs is /\ Q (.int (F xs is)) H
def kMeths:List Str:=["plain","plus","less","times","over"]
def KAt (cW cR cP:Addr) (H:Hp) (a:Addr) (z:Int):Prop:=∃ C dx fs,H a=some (.ins C dx fs) /\ ((C=cW /\ z=0) \/ ((C=cR \/ C=cP) /\ 0 < z)) /\ fs.lookup ("size":Str)=some (.int z) /\ ∀ m ∈ kMeths,fs.lookup m=none
def pl (z n:Int):Int:=if z=0 then n else n % z
theorem yX6 {z n:Int} (h:0 < z):pl z n=n % z:=by unfold pl; rw [if_neg (by omega)]
section
variable {X:Cx} {pins:List (Addr × Obj)} {σ:St} {H:Hp} {s:Shared} {h':Heap}
theorem Inv.turnedL {ch:List Addr} {t':Nat} (I:Inv X pins σ H s) (hf:∀ b ∈ ch,FpOk X pins H b) (k:∀ b o,b ∉ ch -> s.heap.get? b=some o -> h'.get? b=some o):Inv X pins σ H { s with heap:=h',toks:=t' }:=by
  have nit:∀ b u,H b=some u -> b ∉ ch:=fun b u e z=>by rw [(hf b z).1] at e; cases e
  refine I.step (g':=s.gens) (d':=s.drawn) (ch:=ch) (fun b hb=>⟨(hf b hb).2.2.2.1,(hf b hb).2.1,(hf b hb).2.2.2.2.1,(hf b hb).2.2.2.2.2⟩) (fun b o _ _ hc e _=>k b o hc e) (fun b o _ _ hc e _=>⟨o.slots,k b o hc e⟩) (fun _ _ _ _ n=>n)
    (fun b o hc e=>⟨o,k b o hc e⟩) (fun _ _ e=>e) (fun _ _ _ e=>e) (fun b ps e=>⟨#[],by rw [e]; simp⟩) (fun m hm=>?_) (fun b u e=>?_) I.bare
  . obtain ⟨o,es,ep,ho,r⟩:=hm
    exact ⟨o,es,ep,k _ o (fun z=>(hf _ z).2.1 rfl) ho,r⟩
  . refine (I.hok b u e).stay (fun c v hc q=>k c v ?_ q) (fun _ q=>q) fun _ _ q=>q
    rcases hc with z | z
    . rw [z]; exact nit b u e
    . exact nit c _ z
theorem Inv.track {T:Addr} {o:HO} (I:Inv X pins σ H s) (f:FpOk X pins H T) (new:ObjOk X.prog X.w (upd H T o) s.heap T o):Inv X pins σ (upd H T o) s:=by
  obtain ⟨f0,f1,f2,f3,f4,f5⟩:=f
  have ne:∀ {b:Addr} {u:HO},H b=some u -> b ≠ T:=fun e=>ne_of_none e f0
  refine ⟨I.ok,I.os,I.bare,⟨I.base.keep,I.base.slot,fun b ob e n x=>?_,I.base.there,fun b xs e=>?_,fun b ob u e=>?_,fun b ps e=>?_⟩,I.loc,I.cell,by rw [upd_ne (Ne.symm f1)]; exact I.free,fun x c e=>?_,fun p hp=>?_,fun b u e=>?_,I.len⟩
  . have hb:b ≠ T:=fun z=>by
      subst z
      rcases f3 with z | z
      . exact x z
      . exact absurd (Nat.lt_of_lt_of_le (Heap.lt_size e) z) (Nat.lt_irrefl _)
    rw [upd_ne hb]; exact I.base.free b ob e n x
  . have q:=I.base.tups b xs e
    rw [upd_ne (ne q)]; exact q
  . have q:=I.base.frzs b ob u e
    rw [upd_ne (ne q)]; exact q
  . obtain ⟨m,q⟩:=I.base.tbls b ps e
    exact ⟨m,by rw [upd_ne (ne q)]; exact q⟩
  . rw [upd_ne (f4 x c e)]; exact I.freeC x c e
  . obtain ⟨a1,a2,a3⟩:=I.pin p hp
    exact ⟨a1,by rw [upd_ne (f5 p hp)]; exact a2,a3⟩
  . by_cases c:b=T
    . subst c; rw [upd_same] at e; cases e; exact new
    . rw [upd_ne c] at e
      exact (I.hok b u e).stay (fun _ _ _ q=>q) (fun d q=>by rw [upd_ne (ne q)]; exact q) fun d xs q=>by rw [upd_ne (ne q)]; exact q
end
def Ite (K:PySem.W.Frag) (a:Addr):It :=
  ⟨fun i H=>∃ xs x,SqL K H a xs /\ xs[i]?=some x,fun i H v H'=>∃ T y,v=.ref T /\ H T=none /\ H'=upd H T (.tup [.int i,y]) /\ ∀ xs,SqL K H a xs -> xs[i]?=some y,fun i H=>∃ xs,SqL K H a xs /\ xs.length <= i⟩
theorem qXJ {P:Program} {w:World} {K:PySem.W.Frag} {els:List Expr} {kk:Nat} {tp:Pos} (a e it:Addr) (hne:e ≠ it):Turn P w K (.Tuple els kk tp) (Ite K a) [e,it] e (fun i h=>(∃ old,IsEnum h e it i old) /\ h.IsListIter it a i) where
  mem:=by simp
  obj:=fun i h st b hb=>by
    obtain ⟨⟨old,he⟩,o,ho,_,hd⟩:=st
    rcases List.mem_cons.mp hb with rfl | hb
    . exact ⟨_,he,fun v z=>by cases z⟩
    . have q:b=it:=by simpa using hb
      subst q
      exact ⟨o,ho,fun v z=>by rw [hd] at z; cases z⟩
  keep:=fun i h h' st k=>by
    obtain ⟨⟨old,he⟩,hit⟩:=st
    exact ⟨⟨old,k e (by simp) _ he⟩,hit.at fun o q=>k it (by simp) o q⟩
  item:=by
    intro X hP hw hK hc i pins s σ H E I hf st hg
    subst hP hw hK
    obtain ⟨xs,x,hq,hx⟩:=hg
    obtain ⟨⟨old,he⟩,hit⟩:=st
    obtain ⟨its,rv,p,hz⟩:=I.list hq
    obtain ⟨u,hu,ru⟩:=rv.get hx
    refine wpAny_pyNext_enum_item he hit p.isList (x:=u) (by simpa using hu) hne fun h1 ho hit1 hT hsz hk=>⟨_,rfl,?_⟩
    refine wpAny_letOwnedTupleGo_enum ho fun h2 he2 hs2=>?_
    have Te:s.heap.objs.size ≠ e:=Nat.ne_of_gt (Heap.lt_size he)
    have keep2:∀ b o,b ∉ [e,it] -> s.heap.get? b=some o -> h2.get? b=some o:=fun b o hb q=>by
      have b1:b ≠ e:=fun z=>hb (by simp [z])
      have b2:b ≠ it:=fun z=>hb (by simp [z])
      exact (hs2.2 b b1).trans (hk b o b1 b2 q)
    have I1:Inv X pins σ H { s with heap:=h2,toks:=s.toks + 1 }:=I.turnedL hf keep2
    have fT:FpOk X pins H s.heap.objs.size:=I.fpOk (Nat.le_refl _) (I.hok.fresh (Nat.le_refl _))
    have I2:=I1.track (o:=.tup [.int i,x]) fT ⟨by show 2 <= sizeLine; decide,[.int i s.toks,u],.cons ⟨_,rfl⟩ (.cons ru .nil),⟨_,(hs2.2 _ Te).trans hT,rfl,_,rfl⟩⟩
    refine ⟨.ref s.heap.objs.size,_,I2,rfl,⟨_,x,rfl,fT.1,rfl,fun ys hy=>by rw [I.list_inj hy hq]; exact hx⟩,⟨⟨_,by exact_mod_cast he2⟩,?_⟩,fun b hb=>?_⟩
    . obtain ⟨o,q,r⟩:=hit1
      exact ⟨o,(hs2.2 it (Ne.symm hne)).trans q,r⟩
    . rw [upd_ne]
      . exact (hf b hb).1
      . rcases List.mem_cons.mp hb with rfl | hb
        . exact Ne.symm Te
        . have q:b=it:=by simpa using hb
          subst q
          obtain ⟨o,q,_⟩:=hit
          exact Nat.ne_of_lt (Heap.lt_size q)
  done:=by
    intro X hP hw hK hc i pins s σ H E I hf st hg
    subst hP hw hK
    obtain ⟨xs,hq,hx⟩:=hg
    obtain ⟨⟨old,he⟩,hit⟩:=st
    obtain ⟨its,rv,p,hz⟩:=I.list hq
    have hl:=rv.length
    exact wpAny_pyNext_enum_end (I.ok.hd hc) he hit p.isList (by simp; omega) fun h1 eb=>⟨rfl,I.turnedL hf fun b o hb q=>eb b o (fun z=>hb (by simp [z])) q⟩
  self:=fun A i s Q E st h=>by
    obtain ⟨⟨old,he⟩,_⟩:=st
    exact wpAny_pyIter_enum he h
theorem zV4:bootBuiltins "enumerate"=some (.type "enumerate"):=by decide +kernel
def iEnum (K:PySem.W.Frag) (ta:TA):TI:=fun σ H R=>ta σ H fun vs H1=>∃ a,vs=[.ref a] /\ (∃ xs,SqL K H1 a xs) /\ R (Ite K a) H1
theorem zWU {X:Cx} {els:List Expr} {kk:Nat} {tp:Pos} {l:Expr} {ta:TA} {p pos:Pos} (hg:Gl X "enumerate") (hm:X.mg "enumerate"=none) (ha:PA X [l] ta) (hs:starEach [l] X.env=[(false,eval l X.env)]:=by rfl) :
    PI X (.Tuple els kk tp) (.Call (.Name "enumerate" p) [l] [] pos) (iEnum X.K ta):=by
  intro pins s σ H R I h
  refine Call_ (ld_blt I hg hm zV4 (PyProof.Rows.callWith_type1 (thn (ha pos pins s σ H _ I h) fun us s1 ⟨vs,H1,I1,r1,q1⟩=>?_) hs rfl))
  obtain ⟨a,rfl,⟨xs,hq⟩,q⟩:=q1
  obtain ⟨u,rfl,ru⟩:=vals1 r1
  cases ru
  obtain ⟨its,rv,p',hz⟩:=I1.list hq
  refine call_enumerate_list p'.isList fun h1 he hit hsz hk=>?_
  refine wpAny_pyIter_enum he ?_
  have I2:Inv X pins σ H1 { s1 with heap:=h1 }:=I1.kept (t':=s1.toks) hk
  refine ⟨_,[s1.heap.objs.size + 1,s1.heap.objs.size],_,_,H1,rfl,I2,qXJ a (s1.heap.objs.size + 1) s1.heap.objs.size (Nat.succ_ne_self _),⟨⟨_,he⟩,hit⟩,fun b hb=>?_,q⟩
  rcases List.mem_cons.mp hb with rfl | hb
  . exact I1.fpOk (Nat.le_succ _) (I1.hok.fresh (Nat.le_succ _))
  . have e:b=s1.heap.objs.size:=by simpa using hb
    subst e
    exact I1.fpOk (Nat.le_refl _) (I1.hok.fresh (Nat.le_refl _))
theorem qW5 {K:PySem.W.Frag} {a:Addr} {xs:List V} {g:TG} {tb:TS} {D:Ends} {σ:St} {H:Hp} (Pv:Nat -> St -> Hp -> Prop) (h0:Pv 0 σ H) (hl:∀ i σ H,i <= xs.length -> Pv i σ H -> SqL K H a xs)
    (hs:∀ i x σ H T,xs[i]?=some x -> Pv i σ H -> H T=none -> g (.ref T) σ (upd H T (.tup [.int i,x])) fun σ2 H2=>tb { D with nx:=Pv (i + 1),ct:=Pv (i + 1),bk:=D.nx } σ2 H2) (hd:∀ σ H,Pv xs.length σ H -> D.nx σ H) :
    ∃ W:Nat -> Nat -> St -> Hp -> Prop,(∃ m,W 0 m σ H) /\ ∀ i m σ H,W i m σ H ->
      ((Ite K a).stop i H /\ D.nx σ H) \/ ((Ite K a).go i H /\ ∃ N:St -> Hp -> Prop,(∀ σ' H',N σ' H' -> ∃ m',m' < m /\ W (i + 1) m' σ' H') /\ ∀ x H',(Ite K a).yld i H x H' -> g x σ H' fun σ2 H2=>tb { D with nx:=N,ct:=N,bk:=D.nx } σ2 H2):=by
  refine ⟨fun i m σ H=>m=xs.length - i /\ i <= xs.length /\ Pv i σ H,⟨xs.length,by simp,Nat.zero_le _,h0⟩,?_⟩
  rintro i m σ H ⟨rfl,hi,p⟩
  have q:=hl i σ H hi p
  by_cases hlt:i < xs.length
  . refine .inr ⟨⟨xs,xs[i],q,by simp [hlt]⟩,Pv (i + 1),fun σ' H' p'=>⟨xs.length - (i + 1),by omega,rfl,hlt,p'⟩,fun x H' y=>?_⟩
    obtain ⟨T,z,rfl,hT,rfl,hz⟩:=y
    exact hs i z σ H T (hz xs q) p hT
  . have e:i=xs.length:=by omega
    subst e
    exact .inl ⟨⟨xs,q,Nat.le_refl _⟩,hd σ H p⟩
theorem int_at {ns:List Int} {i:Nat} {x:V} (h:(ns.map V.int)[i]?=some x):∃ n,x=.int n /\ ns[i]?=some n:=by
  rw [List.getElem?_map] at h
  cases e:ns[i]? with
  | none=>rw [e] at h; cases h
  | some n=>rw [e] at h; exact ⟨n,(Option.some.inj h).symm,rfl⟩
theorem qK9 {ns:List Int} {i:Nat} {n:Int} (h:ns[i]?=some n):n ∈ ns:=List.mem_of_getElem? h
theorem qHX {α:Type} {ns:List α} {i:Nat} {n:α} (h:ns[i]?=some n):i < ns.length:=(List.getElem?_eq_some_iff.mp h).1
theorem jQK {α:Type} {ns:List α} {i:Nat} {n:α} (h:ns[i]?=some n):ns.take (i + 1)=ns.take i ++ [n]:=by rw [List.take_add_one,h]; rfl
abbrev noTest:TT:=fun _ H Q=>Q true H
end L2
namespace FM
open L2
def IsP (n:Int):Prop:=2 <= n /\ n <= 9973 /\ ∀ d:Int,2 <= d -> d * d <= n -> ¬ n % d=0
open Classical in
def isP (n:Int):Bool:=decide (IsP n)
open Classical in
theorem zH6 {n:Int} (h:IsP n):isP n=true:=by unfold isP; exact decide_eq_true h
open Classical in
theorem zV6 {n:Int} (h:¬ IsP n):isP n=false:=by unfold isP; exact decide_eq_false h
open Classical in
def Clean (n d:Int):Prop:=∀ e:Int,2 <= e -> e < d -> ¬ n % e=0
theorem Clean.next {n d:Int} (h:Clean n d) (hd:¬ n % d=0):Clean n (d + 1):=fun e h1 h2=>by
  by_cases c:e=d
  . rw [c]; exact hd
  . exact h e h1 (by omega)
theorem jV4 {d:Int} (h:2 <= d):d <= d * d:=by
  have:=Int.mul_le_mul_of_nonneg_left (show (1:Int) <= d by omega) (show (0:Int) <= d by omega)
  omega
theorem zYK {d e:Int} (h0:0 <= d) (h:d <= e):d * d <= e * e:=Int.mul_le_mul h h h0 (by omega)
theorem IsP.out {n d:Int} (h:Clean n d) (h2:2 <= d) (lo:2 <= n) (hi:n <= 9973) (hd:¬ d * d <= n):IsP n:=⟨lo,hi,fun e h1 he=>by
  by_cases c:e < d
  . exact h e h1 c
  . have:=zYK (d:=d) (e:=e) (by omega) (by omega)
    omega⟩
theorem isP2:IsP 2:=⟨by omega,by omega,fun d h1 h2=>by have:=zYK (d:=2) (e:=d) (by omega) h1; omega⟩
def F_P:List Int -> Bool:=fun ns=>match ns with
  | [n]=>isP n
  | _=>false
def yes:List Int -> Prop:=fun _=>True
theorem yUZ (z n:Int):pl z (pl z n)=pl z n:=by
  unfold pl
  by_cases h:z=0
  . rw [if_pos h,if_pos h]
  . rw [if_neg h,if_neg h,Int.emod_emod_of_dvd _ (Int.dvd_refl z)]
theorem qX8 (z a b:Int):pl z (pl z a + b)=pl z (a + b):=by
  unfold pl
  by_cases h:z=0
  . rw [if_pos h,if_pos h,if_pos h]
  . rw [if_neg h,if_neg h,if_neg h,Int.emod_add_emod]
theorem zKU (z a b:Int):pl z (pl z a * b)=pl z (a * b):=by
  unfold pl
  by_cases h:z=0
  . rw [if_pos h,if_pos h,if_pos h]
  . rw [if_neg h,if_neg h,if_neg h,Int.mul_emod,Int.emod_emod_of_dvd _ (Int.dvd_refl z),<- Int.mul_emod]
theorem pl_mul' (z a b:Int):pl z (a * pl z b)=pl z (a * b):=by rw [Int.mul_comm,zKU,Int.mul_comm]
theorem pl_add' (z a b:Int):pl z (a + pl z b)=pl z (a + b):=by rw [Int.add_comm,qX8,Int.add_comm]
theorem qQ5 {z n:Int} (h:0 < z):0 <= pl z n /\ pl z n < z:=by
  rw [yX6 h]
  exact ⟨Int.emod_nonneg _ (by omega),Int.emod_lt_of_pos _ h⟩
def trimZ (xs:List Int):List Int:=(xs.reverse.dropWhile (· == 0)).reverse
theorem yH9 (xs:List Int):trimZ (xs ++ [0])=trimZ xs:=by
  unfold trimZ
  rw [List.reverse_append]
  simp
theorem zX9 (xs:List Int) {x:Int} (h:x ≠ 0):trimZ (xs ++ [x])=xs ++ [x]:=by
  unfold trimZ
  rw [List.reverse_append]
  simp [h]
theorem zV2 (xs:List Int):(trimZ xs).length <= xs.length:=by
  unfold trimZ
  have:=(List.dropWhile_sublist (· == 0) (l:=xs.reverse)).length_le
  simpa using this
def ev:List Int -> Int -> Int
  | [],_=>0
  | n :: r,x=>n + x * ev r x
end FM
namespace L3
open PySem PySem.Spec PyProof.Rows L2
inductive PV where
  | int (n:Int) | bl (b:Bool) | non | str (s:Str) | ints (ns:List Int) | scr (ns:List Int) | lst (xs:List PV) | tup (xs:List PV) | ob (k:Nat) (z:Int) | ty (n:String) | cls (a:Addr)
structure Gx where
  ob:Nat -> Hp -> Addr -> Int -> Prop
  mono:∀ k H H' a z,Same H H' -> ob k H a z -> ob k H' a z
mutual
def At (K:PySem.W.Frag) (G:Gx) (H:Hp):PV -> V -> Prop
  | .int n,v=>v=.int n
  | .bl b,v=>v=.bl b
  | .non,v=>v=.non
  | .str s,v=>v=.str s
  | .ints ns,v=>∃ a,v=.ref a /\ Rd H a (.lst (ns.map V.int))
  | .scr ns,v=>∃ a,v=.ref a /\ SqL K H a (ns.map V.int)
  | .lst xs,v=>∃ a vs,v=.ref a /\ Rd H a (.lst vs) /\ AtL K G H xs vs
  | .tup xs,v=>∃ a vs,v=.ref a /\ H a=some (.tup vs) /\ AtL K G H xs vs
  | .ob k z,v=>∃ a,v=.ref a /\ G.ob k H a z
  | .ty n,v=>v=.ty n
  | .cls a,v=>v=.ref a
def AtL (K:PySem.W.Frag) (G:Gx) (H:Hp):List PV -> List V -> Prop
  | [],vs=>vs=[]
  | p :: ps,vs=>∃ v r,vs=v :: r /\ At K G H p v /\ AtL K G H ps r
end
theorem yQZ {H H':Hp} {a:Addr} {u:HO} (e:Same H H') (h:Rd H a u):Rd H' a u:=by
  rcases h with h | ⟨o,h⟩
  . exact .inl (e _ _ h)
  . exact .inr ⟨o,e _ _ h⟩
theorem jX2 {K:PySem.W.Frag} {H:Hp} {a:Addr} {xs:List V} (h:Rd H a (.lst xs)):SqL K H a xs:=.inl h
theorem qV3 {K:PySem.W.Frag} {H H':Hp} {a:Addr} {xs:List V} (e:Same H H') (h:SqT K H a xs):SqT K H' a xs:=by
  rcases h with (h | ⟨o,h⟩) | h
  . exact .inl (.inl (e _ _ h))
  . exact .inl (.inr ⟨o,e _ _ h⟩)
  . exact .inr h
mutual
theorem At.mono {K:PySem.W.Frag} {G:Gx} {H H':Hp} (s:Same H H'):∀ (p:PV) (v:V),At K G H p v -> At K G H' p v
  | .int _,_,h=>h
  | .bl _,_,h=>h
  | .non,_,h=>h
  | .str _,_,h=>h
  | .ints _,_,h=>by obtain ⟨a,e,q⟩:=h; exact ⟨a,e,yQZ s q⟩
  | .scr _,_,h=>by obtain ⟨a,e,q⟩:=h; exact ⟨a,e,s.seq q⟩
  | .lst xs,_,h=>by obtain ⟨a,vs,e,q,r⟩:=h; exact ⟨a,vs,e,yQZ s q,AtL.mono s xs vs r⟩
  | .tup xs,_,h=>by obtain ⟨a,vs,e,q,r⟩:=h; exact ⟨a,vs,e,s _ _ q,AtL.mono s xs vs r⟩
  | .ob _ _,_,h=>by obtain ⟨a,e,q⟩:=h; exact ⟨a,e,G.mono _ _ _ _ _ s q⟩
  | .ty _,_,h=>h
  | .cls _,_,h=>h
theorem AtL.mono {K:PySem.W.Frag} {G:Gx} {H H':Hp} (s:Same H H'):∀ (ps:List PV) (vs:List V),AtL K G H ps vs -> AtL K G H' ps vs
  | [],_,h=>h
  | p :: ps,_,h=>by obtain ⟨v,r,e,q,t⟩:=h; exact ⟨v,r,e,At.mono s p v q,AtL.mono s ps r t⟩
end
theorem AtL.length {K:PySem.W.Frag} {G:Gx} {H:Hp}:∀ {ps:List PV} {vs:List V},AtL K G H ps vs -> ps.length=vs.length
  | [],_,h=>by cases h; rfl
  | p :: ps,_,h=>by
    obtain ⟨v,r,rfl,_,t⟩:=h
    rw [List.length_cons,List.length_cons,AtL.length t]
theorem AtL.get {K:PySem.W.Frag} {G:Gx} {H:Hp}:∀ {ps:List PV} {vs:List V} {i:Nat} {v:V},AtL K G H ps vs -> vs[i]?=some v -> ∃ p,ps[i]?=some p /\ At K G H p v
  | [],_,i,v,h,e=>by cases h; simp at e
  | p :: ps,_,0,v,h,e=>by
    obtain ⟨w,r,rfl,q,t⟩:=h
    simp at e
    subst e
    exact ⟨p,rfl,q⟩
  | p :: ps,_,i + 1,v,h,e=>by
    obtain ⟨w,r,rfl,q,t⟩:=h
    obtain ⟨p',e',q'⟩:=AtL.get (i:=i) (v:=v) t (by simpa using e)
    exact ⟨p',by simpa using e',q'⟩
theorem AtL.at {K:PySem.W.Frag} {G:Gx} {H:Hp}:∀ {ps:List PV} {vs:List V} {i:Nat} {p:PV},AtL K G H ps vs -> ps[i]?=some p -> ∃ v,vs[i]?=some v /\ At K G H p v
  | [],_,i,v,h,e=>by simp at e
  | p :: ps,_,0,v,h,e=>by
    obtain ⟨w,r,rfl,q,t⟩:=h
    simp at e
    subst e
    exact ⟨w,rfl,q⟩
  | p :: ps,_,i + 1,v,h,e=>by
    obtain ⟨w,r,rfl,q,t⟩:=h
    obtain ⟨v',e',q'⟩:=AtL.at (i:=i) (p:=v) t (by simpa using e)
    exact ⟨v',by simpa using e',q'⟩
theorem AtL.snoc {K:PySem.W.Frag} {G:Gx} {H:Hp} {p:PV} {v:V}:∀ {ps:List PV} {vs:List V},AtL K G H ps vs -> At K G H p v -> AtL K G H (ps ++ [p]) (vs ++ [v])
  | [],_,h,q=>by cases h; exact ⟨v,[],rfl,q,rfl⟩
  | p' :: ps,_,h,q=>by
    obtain ⟨w,r,rfl,q',t⟩:=h
    exact ⟨w,_,rfl,q',AtL.snoc t q⟩
def mn (H:Hp) (O:Addr -> Bool):Hp:=fun b=>if O b=true then none else H b
theorem zY2 {H:Hp} {O:Addr -> Bool} {b:Addr} {o:HO} (h:mn H O b=some o):O b=false /\ H b=some o:=by
  unfold mn at h
  by_cases c:O b=true
  . rw [if_pos c] at h; cases h
  . rw [if_neg c] at h; exact ⟨by simpa using c,h⟩
theorem yU5 {H:Hp} {O:Addr -> Bool} {b:Addr} (h:O b=false):mn H O b=H b:=by unfold mn; rw [if_neg (by rw [h]; decide)]
theorem yZV {H:Hp} {O:Addr -> Bool}:Same (mn H O) H:=fun _ _ h=>(zY2 h).2
theorem yY9 {H H':Hp} {O:Addr -> Bool} (s:Same H H'):Same (mn H O) (mn H' O):=fun b o h=>by
  obtain ⟨c,e⟩:=zY2 h
  rw [yU5 c]; exact s b o e
theorem zZW {H:Hp} {O O':Addr -> Bool} (k:∀ a,O a=true -> O' a=true):Same (mn H O') (mn H O):=fun b o h=>by
  obtain ⟨c,e⟩:=zY2 h
  have:O b=false:=by
    cases z:O b with
    | false=>rfl
    | true=>rw [k b z] at c; cases c
  rw [yU5 this]; exact e
def hide (a:Addr) (O:Addr -> Bool):Addr -> Bool:=fun b=>b == a || O b
theorem hide_ne {a b:Addr} {O:Addr -> Bool} (h:b ≠ a):hide a O b=O b:=by unfold hide; simp [h]
theorem hide_self {a:Addr} {O:Addr -> Bool}:hide a O a=true:=by unfold hide; simp
theorem yWW {a:Addr} {O:Addr -> Bool}:∀ b,O b=true -> hide a O b=true:=fun b h=>by unfold hide; simp [h]
theorem yVQ {H H':Hp} {O:Addr -> Bool} {a:Addr} (s:Same H H') (ha:H a=none):Same (mn H O) (mn H' (hide a O)):=fun b o h=>by
  obtain ⟨c,e⟩:=zY2 h
  rw [yU5 (by rw [hide_ne (ne_of_none e ha)]; exact c)]; exact s b o e
theorem qY4 {H:Hp} {O:Addr -> Bool} {a:Addr} {o:HO} (h:O a=true):mn (upd H a o) O=mn H O:=by
  funext b
  unfold mn
  by_cases c:O b=true
  . rw [if_pos c,if_pos c]
  . rw [if_neg c,if_neg c,upd_ne (fun z=>c (by rw [z]; exact h))]
inductive Sl where
  | un | fr (p:PV) | ow (p:PV) | o2 (xs ys:List Int)
abbrev En:=List Sl
structure Bs where
  H0:Hp
  Oc:Addr -> Bool
def OwnAt (K:PySem.W.Frag) (G:Gx) (H:Hp):PV -> List V -> Prop
  | .ints ns,vs=>vs=ns.map V.int
  | .lst xs,vs=>AtL K G H xs vs
  | _,_=>False
theorem OwnAt.mono {K:PySem.W.Frag} {G:Gx} {H H':Hp} (s:Same H H') {p:PV} {vs:List V} (h:OwnAt K G H p vs):OwnAt K G H' p vs:=by
  cases p <;> first | exact h | exact AtL.mono s _ _ h
structure O2At (B:Bs) (σ:L2.St) (H:Hp) (ρ:En) (O:Addr -> Bool) (i:Nat) (xs ys:List Int) (D a b:Addr):Prop where
  at_:σ[i]?=some (some (.ref D))
  oD:O D=true
  oa:O a=true
  ob:O b=true
  nD:B.H0 D=none
  na:B.H0 a=none
  nb:B.H0 b=none
  hD:H D=some (.lst [.ref a,.ref b])
  ha:H a=some (.lst (xs.map V.int))
  hb:H b=some (.lst (ys.map V.int))
  ab:a ≠ b
  un:∀ (j:Nat) q c,ρ[j]?=some (.ow q) -> σ[j]?=some (some (.ref c)) -> c ≠ D /\ c ≠ a /\ c ≠ b
  one:∀ (j:Nat) xs' ys',ρ[j]?=some (.o2 xs' ys') -> j=i
structure Rep (K:PySem.W.Frag) (G:Gx) (B:Bs) (σ:L2.St) (H:Hp) (ρ:En) (O:Addr -> Bool):Prop where
  same:Same B.H0 H
  cd:∀ a,B.Oc a=true -> B.H0 a ≠ none
  hid:∀ a,B.Oc a=true -> O a=true
  dom:∀ a,O a=true -> H a ≠ none
  vis:∀ a,O a=true -> B.Oc a=true \/ B.H0 a=none
  fr:∀ (i:Nat) p,ρ[i]?=some (.fr p) -> ∃ v,σ[i]?=some (some v) /\ At K G (mn H O) p v
  ow:∀ (i:Nat) p,ρ[i]?=some (.ow p) -> ∃ a vs,σ[i]?=some (some (.ref a)) /\ O a=true /\ B.H0 a=none /\ H a=some (.lst vs) /\ OwnAt K G (mn H O) p vs
  inj:∀ (i j:Nat) p q a,ρ[i]?=some (.ow p) -> ρ[j]?=some (.ow q) -> σ[i]?=some (some (.ref a)) -> σ[j]?=some (some (.ref a)) -> i=j
  len:σ.length=ρ.length
  o2:∀ (i:Nat) xs ys,ρ[i]?=some (.o2 xs ys) -> ∃ D a b,O2At B σ H ρ O i xs ys D a b
section
variable {K:PySem.W.Frag} {G:Gx} {B:Bs} {σ:L2.St} {H H':Hp} {ρ:En} {O:Addr -> Bool} {i:Nat}
theorem Rep.grow (R:Rep K G B σ H ρ O) (s:Same H H'):Rep K G B σ H' ρ O:=by
  refine ⟨R.same.trans s,R.cd,R.hid,fun a h z=>R.dom a h (s.free z),R.vis,fun i p e=>?_,fun i p e=>?_,R.inj,R.len,fun i xs ys e=>let ⟨D,a,b,q⟩:=R.o2 i xs ys e; ⟨D,a,b,q.at_,q.oD,q.oa,q.ob,q.nD,q.na,q.nb,s _ _ q.hD,s _ _ q.ha,s _ _ q.hb,q.ab,q.un,q.one⟩⟩
  . obtain ⟨v,e1,e2⟩:=R.fr i p e
    exact ⟨v,e1,At.mono (yY9 s) _ _ e2⟩
  . obtain ⟨a,vs,e1,e2,e3,e4,e5⟩:=R.ow i p e
    exact ⟨a,vs,e1,e2,e3,s _ _ e4,e5.mono (yY9 s)⟩
theorem yZ3 {α:Type} {l:List α} {i j:Nat} {x y:α} (h:(l.set i x)[j]?=some y):(i=j /\ y=x /\ i < l.length) \/ (i ≠ j /\ l[j]?=some y):=by
  rw [List.getElem?_set] at h
  by_cases c:i=j
  . rw [if_pos c] at h
    by_cases c2:i < l.length
    . rw [if_pos c2] at h; exact .inl ⟨c,(Option.some.inj h).symm,c2⟩
    . rw [if_neg c2] at h; cases h
  . rw [if_neg c] at h; exact .inr ⟨c,h⟩
theorem yV4 {α:Type} {l:List α} {i j:Nat} {x:α} (h:i ≠ j):(l.set i x)[j]?=l[j]?:=by rw [List.getElem?_set,if_neg h]
theorem zY1 {α:Type} {l:List α} {i:Nat} {x:α} (h:i < l.length):(l.set i x)[i]?=some x:=by rw [List.getElem?_set,if_pos rfl,if_pos h]
theorem Rep.set (R:Rep K G B σ H ρ O) {p:PV} {v:V} (h:At K G (mn H O) p v):Rep K G B (σ.set i (some v)) H (ρ.set i (.fr p)) O:=by
  refine ⟨R.same,R.cd,R.hid,R.dom,R.vis,fun j q e=>?_,fun j q e=>?_,fun j k q r a e1 e2 e3 e4=>?_,by rw [List.length_set,List.length_set]; exact R.len,fun j xs ys e=>?_⟩
  . rcases yZ3 e with ⟨rfl,e,l⟩ | ⟨n,e⟩
    . cases e; exact ⟨v,zY1 (by rw [R.len]; exact l),h⟩
    . rw [yV4 n]; exact R.fr j q e
  . rcases yZ3 e with ⟨rfl,e,l⟩ | ⟨n,e⟩
    . cases e
    . rw [yV4 n]; exact R.ow j q e
  . rcases yZ3 e1 with ⟨rfl,e,l⟩ | ⟨n,e⟩
    . cases e
    . rcases yZ3 e2 with ⟨rfl,e',l'⟩ | ⟨n',e'⟩
      . cases e'
      . rw [yV4 n] at e3; rw [yV4 n'] at e4
        exact R.inj j k q r a e e' e3 e4
  . rcases yZ3 e with ⟨rfl,e,l⟩ | ⟨n,e⟩
    . cases e
    . obtain ⟨D,a,b,q⟩:=R.o2 j xs ys e
      refine ⟨D,a,b,by rw [yV4 n]; exact q.at_,q.oD,q.oa,q.ob,q.nD,q.na,q.nb,q.hD,q.ha,q.hb,q.ab,fun k r c e1 e2=>?_,fun k xs' ys' e1=>?_⟩
      . rcases yZ3 e1 with ⟨_,e',_⟩ | ⟨n',e'⟩
        . cases e'
        . rw [yV4 n'] at e2; exact q.un k r c e' e2
      . rcases yZ3 e1 with ⟨_,e',_⟩ | ⟨n',e'⟩
        . cases e'
        . exact q.one k xs' ys' e'
theorem Rep.new (R:Rep K G B σ H ρ O) {p:PV} {a:Addr} {vs:List V} (s:Same H H') (ha:H a=none) (he:H' a=some (.lst vs)) (h:OwnAt K G (mn H' (hide a O)) p vs):Rep K G B (σ.set i (some (.ref a))) H' (ρ.set i (.ow p)) (hide a O):=by
  refine ⟨R.same.trans s,R.cd,fun b z=>yWW b (R.hid b z),fun b z y=>?_,fun b z=>?_,fun j q e=>?_,fun j q e=>?_,fun j k q r b e1 e2 e3 e4=>?_,by rw [List.length_set,List.length_set]; exact R.len,fun j xs ys e=>?_⟩
  . by_cases c:b=a
    . subst c; rw [he] at y; cases y
    . rw [hide_ne c] at z; exact R.dom b z (s.free y)
  . by_cases c:b=a
    . subst c; exact .inr (R.same.free ha)
    . rw [hide_ne c] at z; exact R.vis b z
  . rcases yZ3 e with ⟨rfl,e,l⟩ | ⟨n,e⟩
    . cases e
    . obtain ⟨v,e1,e2⟩:=R.fr j q e
      exact ⟨v,by rw [yV4 n]; exact e1,At.mono (yVQ s ha) _ _ e2⟩
  . rcases yZ3 e with ⟨rfl,e,l⟩ | ⟨n,e⟩
    . cases e
      exact ⟨a,vs,zY1 (by rw [R.len]; exact l),hide_self,R.same.free ha,he,h⟩
    . obtain ⟨b,us,e1,e2,e3,e4,e5⟩:=R.ow j q e
      exact ⟨b,us,by rw [yV4 n]; exact e1,yWW b e2,e3,s _ _ e4,e5.mono (yVQ s ha)⟩
  . have old:∀ (m:Nat) q,ρ[m]?=some (.ow q) -> σ[m]?=some (some (.ref a)) -> False:=fun m q e z=>by
      obtain ⟨b,us,e1,_,_,e4,_⟩:=R.ow m q e
      rw [z] at e1; cases e1
      rw [ha] at e4; cases e4
    rcases yZ3 e1 with ⟨rfl,e,l⟩ | ⟨n,e⟩
    . rcases yZ3 e2 with ⟨rfl,e',l'⟩ | ⟨n',e'⟩
      . rfl
      . rw [zY1 (by rw [R.len]; exact l)] at e3
        cases e3
        rw [yV4 n'] at e4
        exact (old k r e' e4).elim
    . rcases yZ3 e2 with ⟨rfl,e',l'⟩ | ⟨n',e'⟩
      . rw [zY1 (by rw [R.len]; exact l')] at e4
        cases e4
        rw [yV4 n] at e3
        exact (old j q e e3).elim
      . rw [yV4 n] at e3; rw [yV4 n'] at e4
        exact R.inj j k q r b e e' e3 e4
  . rcases yZ3 e with ⟨rfl,e,l⟩ | ⟨n,e⟩
    . cases e
    . obtain ⟨D,a1,b1,q⟩:=R.o2 j xs ys e
      refine ⟨D,a1,b1,by rw [yV4 n]; exact q.at_,yWW _ q.oD,yWW _ q.oa,yWW _ q.ob,q.nD,q.na,q.nb,s _ _ q.hD,s _ _ q.ha,s _ _ q.hb,q.ab,fun k r c e1 e2=>?_,fun k xs' ys' e1=>?_⟩
      . rcases yZ3 e1 with ⟨rfl,e',l'⟩ | ⟨n',e'⟩
        . rw [zY1 (by rw [R.len]; exact l')] at e2
          cases e2
          exact ⟨Ne.symm (ne_of_none q.hD ha),Ne.symm (ne_of_none q.ha ha),Ne.symm (ne_of_none q.hb ha)⟩
        . rw [yV4 n'] at e2; exact q.un k r c e' e2
      . rcases yZ3 e1 with ⟨_,e',_⟩ | ⟨n',e'⟩
        . cases e'
        . exact q.one k xs' ys' e'
theorem Rep.change (R:Rep K G B σ H ρ O) {p p':PV} {a:Addr} {vs:List V} (e:ρ[i]?=some (.ow p)) (ea:σ[i]?=some (some (.ref a))) (h:OwnAt K G (mn H O) p' vs):Rep K G B σ (upd H a (.lst vs)) (ρ.set i (.ow p')) O:=by
  obtain ⟨a',us,e1,e2,e3,e4,e5⟩:=R.ow i p e
  rw [ea] at e1
  cases e1
  have hl:i < ρ.length:=(List.getElem?_eq_some_iff.mp e).1
  refine ⟨fun b o z=>?_,R.cd,R.hid,fun b z y=>?_,R.vis,fun j q ej=>?_,fun j q ej=>?_,fun j k q r b j1 j2 j3 j4=>?_,by rw [List.length_set]; exact R.len,fun j xs ys ej=>?_⟩
  . rw [upd_ne (ne_of_none z e3)]; exact R.same b o z
  . by_cases c:b=a
    . subst c; rw [upd_same] at y; cases y
    . rw [upd_ne c] at y; exact R.dom b z y
  . rw [qY4 e2]
    rcases yZ3 ej with ⟨_,e',_⟩ | ⟨_,e'⟩
    . cases e'
    . exact R.fr j q e'
  . rw [qY4 e2]
    rcases yZ3 ej with ⟨rfl,e',_⟩ | ⟨n,e'⟩
    . cases e'
      exact ⟨a,vs,ea,e2,e3,upd_same,h⟩
    . obtain ⟨b,ws,f1,f2,f3,f4,f5⟩:=R.ow j q e'
      refine ⟨b,ws,f1,f2,f3,?_,f5⟩
      rw [upd_ne]
      . exact f4
      . intro z
        subst z
        exact n (R.inj i j p q b e e' ea f1)
  . have back:∀ (m:Nat) q,(ρ.set i (.ow p'))[m]?=some (.ow q) -> ∃ q',ρ[m]?=some (.ow q'):=fun m q z=>by
      rcases yZ3 z with ⟨rfl,_,_⟩ | ⟨_,z⟩
      . exact ⟨p,e⟩
      . exact ⟨q,z⟩
    obtain ⟨q',y1⟩:=back j q j1
    obtain ⟨r',y2⟩:=back k r j2
    exact R.inj j k q' r' b y1 y2 j3 j4
  . rcases yZ3 ej with ⟨rfl,e',_⟩ | ⟨n,e'⟩
    . cases e'
    . obtain ⟨D,a1,b1,q⟩:=R.o2 j xs ys e'
      obtain ⟨u1,u2,u3⟩:=q.un i p a e ea
      refine ⟨D,a1,b1,q.at_,q.oD,q.oa,q.ob,q.nD,q.na,q.nb,by rw [upd_ne (Ne.symm u1)]; exact q.hD,by rw [upd_ne (Ne.symm u2)]; exact q.ha,by rw [upd_ne (Ne.symm u3)]; exact q.hb,q.ab,fun k r c e1 e2=>?_,fun k xs' ys' e1=>?_⟩
      . rcases yZ3 e1 with ⟨rfl,_,_⟩ | ⟨_,e1⟩
        . exact q.un i p c e e2
        . exact q.un k r c e1 e2
      . rcases yZ3 e1 with ⟨_,e',_⟩ | ⟨n',e'⟩
        . cases e'
        . exact q.one k xs' ys' e'
def show' (a:Addr) (O:Addr -> Bool):Addr -> Bool:=fun b=>if b=a then false else O b
theorem yHZ {a b:Addr} {O:Addr -> Bool} (h:b ≠ a):show' a O b=O b:=by unfold show'; rw [if_neg h]
theorem zVV {a:Addr} {O:Addr -> Bool}:show' a O a=false:=by unfold show'; rw [if_pos rfl]
theorem zWX {a:Addr} {O:Addr -> Bool}:∀ b,show' a O b=true -> O b=true:=fun b h=>by
  by_cases c:b=a
  . subst c; rw [zVV] at h; cases h
  . rw [yHZ c] at h; exact h
def frz (ρ:En) (i:Nat):En:=match ρ[i]? with
  | some (.ow p)=>ρ.set i (.fr p)
  | _=>ρ
theorem Rep.freeze (R:Rep K G B σ H ρ O) (i:Nat):∃ O',Rep K G B σ H (frz ρ i) O':=by
  unfold frz
  split
  . rename_i p e
    obtain ⟨a,vs,e1,e2,e3,e4,e5⟩:=R.ow i p e
    have sub:Same (mn H O) (mn H (show' a O)):=zZW zWX
    have sees:Rd (mn H (show' a O)) a (.lst vs):=.inl (by rw [yU5 zVV]; exact e4)
    have hp:At K G (mn H (show' a O)) p (.ref a):=by
      cases p <;> first
        | exact False.elim e5
        | (have e5:=e5.mono sub; exact ⟨a,vs,rfl,sees,e5⟩)
        | (have e5':vs=_:=e5; subst e5'; exact ⟨a,rfl,sees⟩)
    refine ⟨show' a O,R.same,R.cd,fun b z=>?_,fun b z=>R.dom b (zWX b z),fun b z=>R.vis b (zWX b z),fun j q ej=>?_,fun j q ej=>?_,fun j k q r b j1 j2 j3 j4=>?_,by rw [List.length_set]; exact R.len,fun j xs ys ej=>?_⟩
    . rw [yHZ]
      . exact R.hid b z
      . intro y
        subst y
        exact R.cd b z e3
    . rcases yZ3 ej with ⟨rfl,e',_⟩ | ⟨n,e'⟩
      . cases e'
        exact ⟨.ref a,e1,hp⟩
      . obtain ⟨v,f1,f2⟩:=R.fr j q e'
        exact ⟨v,f1,At.mono sub _ _ f2⟩
    . rcases yZ3 ej with ⟨rfl,e',_⟩ | ⟨n,e'⟩
      . cases e'
      . obtain ⟨b,ws,f1,f2,f3,f4,f5⟩:=R.ow j q e'
        refine ⟨b,ws,f1,?_,f3,f4,f5.mono sub⟩
        rw [yHZ]
        . exact f2
        . intro z
          subst z
          exact n (R.inj i j p q b e e' e1 f1)
    . rcases yZ3 j1 with ⟨_,e',_⟩ | ⟨_,y1⟩
      . cases e'
      . rcases yZ3 j2 with ⟨_,e',_⟩ | ⟨_,y2⟩
        . cases e'
        . exact R.inj j k q r b y1 y2 j3 j4
    . rcases yZ3 ej with ⟨rfl,e',_⟩ | ⟨n,e'⟩
      . cases e'
      . obtain ⟨D,a1,b1,q⟩:=R.o2 j xs ys e'
        obtain ⟨u1,u2,u3⟩:=q.un i p a e e1
        refine ⟨D,a1,b1,q.at_,by rw [yHZ (Ne.symm u1)]; exact q.oD,by rw [yHZ (Ne.symm u2)]; exact q.oa,by rw [yHZ (Ne.symm u3)]; exact q.ob,q.nD,q.na,q.nb,q.hD,q.ha,q.hb,q.ab,fun k r c e1 e2=>?_,fun k xs' ys' e1=>?_⟩
        . rcases yZ3 e1 with ⟨_,e',_⟩ | ⟨_,e1⟩
          . cases e'
          . exact q.un k r c e1 e2
        . rcases yZ3 e1 with ⟨_,e',_⟩ | ⟨n',e'⟩
          . cases e'
          . exact q.one k xs' ys' e'
  . exact ⟨O,R⟩
def Bs.at (B:Bs) (H:Hp) (O:Addr -> Bool):Bs:=⟨fun b=>if (O b && (B.H0 b).isNone)=true then none else H b,B.Oc⟩
theorem Bs.at_of {b:Addr} (h:O b=false \/ B.H0 b ≠ none):(B.at H O).H0 b=H b:=by
  show (if (O b && (B.H0 b).isNone)=true then none else H b)=H b
  rw [if_neg]
  rcases h with h | h
  . rw [h]; simp
  . cases e:B.H0 b with
    | none=>exact absurd e h
    | some o=>simp
theorem Rep.rebase (R:Rep K G B σ H ρ O):Rep K G (B.at H O) σ H ρ O:=by
  refine ⟨fun b o z=>?_,fun a z=>?_,R.hid,R.dom,fun a z=>?_,R.fr,fun i p e=>?_,R.inj,R.len,fun i xs ys e=>?_⟩
  . have z:(if (O b && (B.H0 b).isNone)=true then none else H b)=some o:=z
    by_cases c:(O b && (B.H0 b).isNone)=true
    . rw [if_pos c] at z; cases z
    . rw [if_neg c] at z; exact z
  . rw [Bs.at_of (.inr (R.cd a z))]
    exact R.dom a (R.hid a z)
  . rcases R.vis a z with y | y
    . exact .inl y
    . refine .inr ?_
      show (if (O a && (B.H0 a).isNone)=true then none else H a)=none
      rw [if_pos (by rw [z,y]; rfl)]
  . obtain ⟨a,vs,e1,e2,e3,e4,e5⟩:=R.ow i p e
    refine ⟨a,vs,e1,e2,?_,e4,e5⟩
    show (if (O a && (B.H0 a).isNone)=true then none else H a)=none
    rw [if_pos (by rw [e2,e3]; rfl)]
  . obtain ⟨D,a,b,q⟩:=R.o2 i xs ys e
    have z:∀ c,O c=true -> B.H0 c=none -> (B.at H O).H0 c=none:=fun c h1 h2=>by
      show (if (O c && (B.H0 c).isNone)=true then none else H c)=none
      rw [if_pos (by rw [h1,h2]; rfl)]
    exact ⟨D,a,b,q.at_,q.oD,q.oa,q.ob,z D q.oD q.nD,z a q.oa q.na,z b q.ob q.nb,q.hD,q.ha,q.hb,q.ab,q.un,q.one⟩
theorem Rep.base_le (R:Rep K G B σ H ρ O):Same B.H0 (B.at H O).H0:=fun b o z=>by
  rw [Bs.at_of (.inr (by rw [z]; exact fun y=>by cases y))]
  exact R.same b o z
theorem Rep.base_mn (B:Bs) (H:Hp) (O:Addr -> Bool):Same (mn H O) (B.at H O).H0:=fun b o z=>by
  obtain ⟨c,e⟩:=zY2 z
  rw [Bs.at_of (.inl c)]
  exact e
theorem Rep.unbase {σ':L2.St} {ρ':En} {O':Addr -> Bool} (R:Rep K G B σ H ρ O) (R':Rep K G (B.at H O) σ' H' ρ' O'):Rep K G B σ' H' ρ' O':=by
  refine ⟨R.base_le.trans R'.same,R.cd,R'.hid,R'.dom,fun a z=>(R'.vis a z).imp id fun y=>R.base_le.free y,R'.fr,fun i p e=>?_,R'.inj,R'.len,fun i xs ys e=>?_⟩
  . obtain ⟨a,vs,e1,e2,e3,e4,e5⟩:=R'.ow i p e
    exact ⟨a,vs,e1,e2,R.base_le.free e3,e4,e5⟩
  . obtain ⟨D,a,b,q⟩:=R'.o2 i xs ys e
    exact ⟨D,a,b,q.at_,q.oD,q.oa,q.ob,R.base_le.free q.nD,R.base_le.free q.na,R.base_le.free q.nb,q.hD,q.ha,q.hb,q.ab,q.un,q.one⟩
theorem Rep.seen {σ':L2.St} {ρ':En} {O':Addr -> Bool} (R:Rep K G B σ H ρ O) (R':Rep K G (B.at H O) σ' H' ρ' O'):Same (mn H O) (mn H' O'):=fun b o z=>by
  have z0:=Rep.base_mn B H O b o z
  obtain ⟨c,e⟩:=zY2 z
  rw [yU5]
  . exact R'.same b o z0
  . cases y:O' b with
    | false=>rfl
    | true =>
      rcases R'.vis b y with y | y
      . rw [R.hid b y] at c; cases c
      . rw [z0] at y; cases y
end
def getI (ρ:En) (i:Nat):Int:=match ρ[i]? with
  | some (.fr (.int n))=>n
  | _=>0
def isI (ρ:En) (i:Nat):Prop:=ρ[i]?=some (.fr (.int (getI ρ i)))
def getL (ρ:En) (i:Nat):List Int:=match ρ[i]? with
  | some (.fr (.ints ns))=>ns
  | some (.ow (.ints ns))=>ns
  | some (.fr (.scr ns))=>ns
  | _=>[]
def isL (ρ:En) (i:Nat):Prop:=ρ[i]?=some (.fr (.ints (getL ρ i)))
def isO (ρ:En) (i:Nat):Prop:=ρ[i]?=some (.ow (.ints (getL ρ i)))
def isLO (ρ:En) (i:Nat):Prop:=isL ρ i \/ isO ρ i \/ ρ[i]?=some (.fr (.scr (getL ρ i)))
def getP (ρ:En) (i:Nat):PV:=match ρ[i]? with
  | some (.fr p)=>p
  | some (.ow p)=>p
  | _=>.non
def isF (ρ:En) (i:Nat):Prop:=ρ[i]?=some (.fr (getP ρ i))
def getS (ρ:En) (i:Nat):Str:=match ρ[i]? with
  | some (.fr (.str s))=>s
  | _=>Str.empty
def isS (ρ:En) (i:Nat):Prop:=ρ[i]?=some (.fr (.str (getS ρ i)))
def getB (ρ:En) (i:Nat):Bool:=match ρ[i]? with
  | some (.fr (.bl b))=>b
  | _=>false
def isB (ρ:En) (i:Nat):Prop:=ρ[i]?=some (.fr (.bl (getB ρ i)))
section
variable {K:PySem.W.Frag} {G:Gx} {B:Bs} {σ:L2.St} {H H':Hp} {ρ:En} {O:Addr -> Bool} {i:Nat}
theorem Rep.readL (R:Rep K G B σ H ρ O) (h:isLO ρ i):∃ a,σ[i]?=some (some (.ref a)) /\ SqL K H a ((getL ρ i).map V.int):=by
  rcases h with h | h | h
  . obtain ⟨v,e1,a,e2,e3⟩:=R.fr i _ h
    subst e2
    exact ⟨a,e1,.inl (yQZ yZV e3)⟩
  . obtain ⟨a,vs,e1,e2,e3,e4,e5⟩:=R.ow i _ h
    have e5:vs=(getL ρ i).map V.int:=e5
    subst e5
    exact ⟨a,e1,.inl (.inl e4)⟩
  . obtain ⟨v,e1,a,e2,e3⟩:=R.fr i _ h
    subst e2
    exact ⟨a,e1,yZV.seq e3⟩
end
def tX (K:PySem.W.Frag) (G:Gx) (C:En -> Prop) (g:En -> PV):TE:=fun σ H Q=>∃ B ρ O,Rep K G B σ H ρ O /\ C ρ /\ ∀ v H',Same H H' -> At K G (mn H' O) (g ρ) v -> Q v H'
def tXl (K:PySem.W.Frag) (G:Gx) (C:En -> Prop) (g:En -> List Int):TE:=fun σ H Q=>∃ B ρ O,Rep K G B σ H ρ O /\ C ρ /\ ∀ a H',Same H H' -> H a=none -> H' a=some (.lst ((g ρ).map V.int)) -> Q (.ref a) H'
def tXp (K:PySem.W.Frag) (G:Gx) (C:En -> Prop) (g:En -> List PV):TE:=fun σ H Q=>∃ B ρ O,Rep K G B σ H ρ O /\ C ρ /\ ∀ a vs H',Same H H' -> H a=none -> H' a=some (.lst vs) -> AtL K G (mn H' (hide a O)) (g ρ) vs -> Q (.ref a) H'
def tXs (K:PySem.W.Frag) (G:Gx) (C:En -> Prop) (g:En -> List PV):TA:=fun σ H Q=>∃ B ρ O,Rep K G B σ H ρ O /\ C ρ /\ ∀ vs H',Same H H' -> AtL K G (mn H' O) (g ρ) vs -> Q vs H'
def tXT (K:PySem.W.Frag) (G:Gx) (C:En -> Prop) (p:En -> Prop) [∀ ρ,Decidable (p ρ)]:TT:=fun σ H Q=>∃ B ρ O,Rep K G B σ H ρ O /\ C ρ /\ ∀ H',Same H H' -> Q (decide (p ρ)) H'
abbrev tXI (K:PySem.W.Frag) (G:Gx) (C:En -> Prop) (g:En -> Int):TE:=tX K G C fun ρ=>.int (g ρ)
abbrev tXL (K:PySem.W.Frag) (G:Gx) (C:En -> Prop) (g:En -> List Int):TE:=tX K G C fun ρ=>.ints (g ρ)
abbrev tXB (K:PySem.W.Frag) (G:Gx) (C:En -> Prop) (p:En -> Prop) [∀ ρ,Decidable (p ρ)]:TE:=tX K G C fun ρ=>.bl (decide (p ρ))
abbrev tXS (K:PySem.W.Frag) (G:Gx) (C:En -> Prop) (g:En -> Str):TE:=tX K G C fun ρ=>.str (g ρ)
section
variable {X:Cx} {G:Gx} {a b:Expr} {pos:Pos} {Ca Cb:En -> Prop} {ga gb:En -> Int} {i:Nat} {x:Str} {e:Expr} {t:TE} {C:En -> Prop} {g:En -> PV} {gl hl:En -> List Int}
theorem toX (h:PE X e t) (k:∀ B σ H ρ O Q,Rep X.K G B σ H ρ O -> C ρ -> (∀ v H',Same H H' -> At X.K G (mn H' O) (g ρ) v -> Q v H') -> t σ H Q):PE X e (tX X.K G C g) :=
  fun pins s σ H Q I ⟨B,ρ,O,R,c,q⟩=>h pins s σ H Q I (k B σ H ρ O Q R c q)
theorem toXl (h:PE X e t) (k:∀ B σ H ρ O Q,Rep X.K G B σ H ρ O -> C ρ -> (∀ a H',Same H H' -> H a=none -> H' a=some (.lst ((gl ρ).map V.int)) -> Q (.ref a) H') -> t σ H Q):PE X e (tXl X.K G C gl) :=
  fun pins s σ H Q I ⟨B,ρ,O,R,c,q⟩=>h pins s σ H Q I (k B σ H ρ O Q R c q)
theorem newL (h:PE X e (tXl X.K G C gl)):PE X e (tXL X.K G C gl):=toX h fun B σ H ρ O Q R c q=>⟨B,ρ,O,R,c,fun a H' s n e=>q _ H' s ⟨a,rfl,.inl (by
  rw [yU5]
  . exact e
  . cases z:O a with
    | false=>rfl
    | true=>exact absurd n (R.dom a z))⟩⟩
theorem newP {gp:En -> List PV} (h:PE X e (tXp X.K G C gp)):PE X e (tX X.K G C fun ρ=>.lst (gp ρ)):=toX h fun B σ H ρ O Q R c q=>⟨B,ρ,O,R,c,fun a vs H' s n e al=>q _ H' s ⟨a,vs,rfl,.inl (by
  rw [yU5]
  . exact e
  . cases z:O a with
    | false=>rfl
    | true=>exact absurd n (R.dom a z)),AtL.mono (zZW yWW) _ _ al⟩⟩
theorem yQ2 {n:Int} {j:Nat}:PE X (.Constant (.int n) j pos) (tXI X.K G (fun _=>True) fun _=>n):=toX pe_int fun _ _ H _ _ _ _ _ q=>q _ H (Same.refl H) rfl
theorem qX2 {n:Bool} {j:Nat}:PE X (.Constant (.bool n) j pos) (tX X.K G (fun _=>True) fun _=>.bl n):=toX pe_bl fun _ _ H _ _ _ _ _ q=>q _ H (Same.refl H) rfl
theorem qKJ {j:Nat}:PE X (.Constant .none j pos) (tX X.K G (fun _=>True) fun _=>.non):=toX pe_non fun _ _ H _ _ _ _ _ q=>q _ H (Same.refl H) rfl
theorem qXV {n:Str} {j:Nat}:PE X (.Constant (.str n) j pos) (tXS X.K G (fun _=>True) fun _=>n):=toX pe_str fun _ _ H _ _ _ _ _ q=>q _ H (Same.refl H) rfl
theorem jJ0 {u:String} (hg:Gl X x) (hm:X.mg x=none) (hv:bootBuiltins x=some (.type u)) (hn:x ≠ "__name__":=by decide) (hd:(x == ("__debug__":Str))=false:=by decide):PE X (.Name x pos) (tX X.K G (fun _=>True) fun _=>.ty u) :=
  toX (pe_bltn (v:=.ty u) hg hm hv rfl hn hd) fun _ _ H _ _ _ _ _ q=>q _ H (Same.refl H) rfl
theorem yWJ {c:Addr} (hg:Gl X x) (hm:X.mg x=some (.ref c)) (hd:(x == ("__debug__":Str))=false:=by decide):PE X (.Name x pos) (tX X.K G (fun _=>True) fun _=>.cls c) :=
  toX (pe_glob (v:=.ref c) hg hm rfl hd) fun _ _ H _ _ _ _ _ q=>q _ H (Same.refl H) rfl
theorem xv (i:Nat) {x:Str} (hN:X.N[i]?=some x:=by rfl) (hv:Vis X.env.scope x:=by first | exact Or.inl rfl | exact Or.inr (Or.inl rfl) | exact Or.inr (Or.inr rfl))
    (hd:(x == ("__debug__":Str))=false:=by decide) (hcd:(x == ("__classdict__":Str))=false:=by decide):PE X (.Name x pos) (tX X.K G (fun ρ=>isF ρ i) fun ρ=>getP ρ i) :=
  toX (pe_var hN hv hd hcd) fun _ _ H _ _ _ R c q=>let ⟨v,e,h⟩:=R.fr i _ c; ⟨v,e,q v H (Same.refl H) h⟩
theorem xn (i:Nat) {x:Str} (hN:X.N[i]?=some x:=by rfl) (hv:Vis X.env.scope x:=by first | exact Or.inl rfl | exact Or.inr (Or.inl rfl) | exact Or.inr (Or.inr rfl))
    (hd:(x == ("__debug__":Str))=false:=by decide) (hcd:(x == ("__classdict__":Str))=false:=by decide):PE X (.Name x pos) (tXI X.K G (fun ρ=>isI ρ i) fun ρ=>getI ρ i) :=
  toX (pe_var hN hv hd hcd) fun _ _ H _ _ _ R c q=>let ⟨v,e,h⟩:=R.fr i _ c; ⟨v,e,q v H (Same.refl H) h⟩
theorem xl (i:Nat) {x:Str} (hN:X.N[i]?=some x:=by rfl) (hv:Vis X.env.scope x:=by first | exact Or.inl rfl | exact Or.inr (Or.inl rfl) | exact Or.inr (Or.inr rfl))
    (hd:(x == ("__debug__":Str))=false:=by decide) (hcd:(x == ("__classdict__":Str))=false:=by decide):PE X (.Name x pos) (tXL X.K G (fun ρ=>isL ρ i) fun ρ=>getL ρ i) :=
  toX (pe_var hN hv hd hcd) fun _ _ H _ _ _ R c q=>let ⟨v,e,h⟩:=R.fr i _ c; ⟨v,e,q v H (Same.refl H) h⟩
theorem xr (i:Nat) {x:Str} (hN:X.N[i]?=some x:=by rfl) (hv:Vis X.env.scope x:=by first | exact Or.inl rfl | exact Or.inr (Or.inl rfl) | exact Or.inr (Or.inr rfl))
    (hd:(x == ("__debug__":Str))=false:=by decide) (hcd:(x == ("__classdict__":Str))=false:=by decide):PE X (.Name x pos) (tX X.K G (fun ρ=>ρ[i]?=some (.fr (.scr (getL ρ i)))) fun ρ=>.scr (getL ρ i)) :=
  toX (pe_var hN hv hd hcd) fun _ _ H _ _ _ R c q=>let ⟨v,e,h⟩:=R.fr i _ c; ⟨v,e,q v H (Same.refl H) h⟩
theorem two {r:R2} {ga gb:En -> PV} {σ:L2.St} {H:Hp} {B:Bs} {ρ:En} {O:Addr -> Bool} {Q:VK} (R:Rep X.K G B σ H ρ O) (ca:Ca ρ) (cb:Cb ρ) (q:∀ v u H1 H2,Same H H1 -> Same H1 H2 -> At X.K G (mn H2 O) (ga ρ) v -> At X.K G (mn H2 O) (gb ρ) u -> r v u H2 Q) :
    tOp r (tX X.K G Ca ga) (tX X.K G Cb gb) σ H Q :=
  ⟨B,ρ,O,R,ca,fun v H1 s1 a1=>⟨B,ρ,O,R.grow s1,cb,fun u H2 s2 a2=>q v u H1 H2 s1 s2 (At.mono (yY9 s2) _ _ a1) a2⟩⟩
theorem qVX {op:Operator} {C:Int -> Int -> Prop} {g:Int -> Int -> Int} (ho:OpR X (binaryOp op) (rI C fun i j=>.int (g i j))) (ha:PE X a (tXI X.K G Ca ga)) (hb:PE X b (tXI X.K G Cb gb)) :
    PE X (.BinOp a op b pos) (tXI X.K G (fun ρ=>Ca ρ /\ Cb ρ /\ C (ga ρ) (gb ρ)) fun ρ=>g (ga ρ) (gb ρ)) :=
  toX (pe_op ho ha hb) fun _ _ _ _ _ _ R c q=>two R c.1 c.2.1 fun _ _ _ H2 s1 s2 a1 a2=>⟨_,_,a1,a2,c.2.2,q _ H2 (s1.trans s2) rfl⟩
theorem qU6 {op:Operator} {g:Int -> Int -> Int} (ho:OpR X (binaryOp op) (rI0 fun i j=>.int (g i j))) (ha:PE X a (tXI X.K G Ca ga)) (hb:PE X b (tXI X.K G Cb gb)) :
    PE X (.BinOp a op b pos) (tXI X.K G (fun ρ=>Ca ρ /\ Cb ρ) fun ρ=>g (ga ρ) (gb ρ)) :=
  toX (pe_op ho ha hb) fun _ _ _ _ _ _ R c q=>two R c.1 c.2 fun _ _ _ H2 s1 s2 a1 a2=>⟨_,_,a1,a2,q _ H2 (s1.trans s2) rfl⟩
theorem yJY (ha:PE X a (tXI X.K G Ca ga)) (hb:PE X b (tXI X.K G Cb gb)):PE X (.BinOp a .Add b pos) (tXI X.K G (fun ρ=>Ca ρ /\ Cb ρ) fun ρ=>ga ρ + gb ρ):=qU6 op_add ha hb
theorem yY5 (ha:PE X a (tXI X.K G Ca ga)) (hb:PE X b (tXI X.K G Cb gb)):PE X (.BinOp a .Sub b pos) (tXI X.K G (fun ρ=>Ca ρ /\ Cb ρ) fun ρ=>ga ρ - gb ρ):=qU6 op_sub ha hb
theorem yX4 (ha:PE X a (tXI X.K G Ca ga)) (hb:PE X b (tXI X.K G Cb gb)):PE X (.BinOp a .Mult b pos) (tXI X.K G (fun ρ=>Ca ρ /\ Cb ρ /\ IntMulOk (ga ρ) (gb ρ)) fun ρ=>ga ρ * gb ρ):=qVX zWZ ha hb
theorem yZ4 (ha:PE X a (tXI X.K G Ca ga)) (hb:PE X b (tXI X.K G Cb gb)):PE X (.BinOp a .Mod b pos) (tXI X.K G (fun ρ=>Ca ρ /\ Cb ρ /\ 0 < gb ρ) fun ρ=>ga ρ % gb ρ):=qVX op_mod ha hb
theorem yVW (ha:PE X a (tXI X.K G Ca ga)) (hb:PE X b (tXI X.K G Cb gb)):PE X (.BinOp a .FloorDiv b pos) (tXI X.K G (fun ρ=>Ca ρ /\ Cb ρ /\ CDivB (ga ρ) (gb ρ)) fun ρ=>ga ρ / gb ρ):=qVX qV7 ha hb
theorem zJY (ha:PE X a (tXI X.K G Ca ga)) (hb:PE X b (tXI X.K G Cb gb)):PE X (.BinOp a .Pow b pos) (tXI X.K G (fun ρ=>Ca ρ /\ Cb ρ /\ CPow (ga ρ) (gb ρ)) fun ρ=>ga ρ ^ (gb ρ).toNat):=qVX op_pow ha hb
theorem zQ3 (ha:PE X a (tXI X.K G Ca ga)):PE X (.UnaryOp .USub a pos) (tXI X.K G Ca fun ρ=>-ga ρ) :=
  toX (pe_un un_neg ha) fun B _ _ ρ O _ R c q=>⟨B,ρ,O,R,c,fun _ H1 s1 a1=>⟨_,a1,q _ H1 s1 rfl⟩⟩
theorem zVQ {op:CmpOp} {p:Int -> Int -> Prop} [∀ i j,Decidable (p i j)] (ho:OpR X (compareOp op) (rI0 fun i j=>.bl (decide (p i j)))) (hm:behindInMarks op b=false) (ha:PE X a (tXI X.K G Ca ga)) (hb:PE X b (tXI X.K G Cb gb)) :
    PT X (.Compare a [op] [b] pos) (tXT X.K G (fun ρ=>Ca ρ /\ Cb ρ) fun ρ=>p (ga ρ) (gb ρ)) :=
  fun pins s σ H Q I ⟨_,_,_,R,c,q⟩=>pt_cmpR ho ha hb hm pins s σ H Q I (two R c.1 c.2 fun _ _ _ H2 s1 s2 a1 a2=>⟨_,_,a1,a2,_,rfl,q H2 (s1.trans s2)⟩)
theorem jXX {op:CmpOp} {p:Int -> Int -> Prop} [∀ i j,Decidable (p i j)] (ho:OpR X (compareOp op) (rI0 fun i j=>.bl (decide (p i j)))) (hm:behindInMarks op b=false) (ha:PE X a (tXI X.K G Ca ga)) (hb:PE X b (tXI X.K G Cb gb)) :
    PE X (.Compare a [op] [b] pos) (tXB X.K G (fun ρ=>Ca ρ /\ Cb ρ) fun ρ=>p (ga ρ) (gb ρ)) :=
  toX (pe_cmpR ho ha hb hm) fun _ _ _ _ _ _ R c q=>two R c.1 c.2 fun _ _ _ H2 s1 s2 a1 a2=>⟨_,_,a1,a2,q _ H2 (s1.trans s2) rfl⟩
theorem jVQ (ha:PE X a (tXI X.K G Ca ga)) (hb:PE X b (tXI X.K G Cb gb)):PT X (.Compare a [.Lt] [b] pos) (tXT X.K G (fun ρ=>Ca ρ /\ Cb ρ) fun ρ=>ga ρ < gb ρ):=zVQ op_lt (nomark _) ha hb
theorem qQV (ha:PE X a (tXI X.K G Ca ga)) (hb:PE X b (tXI X.K G Cb gb)):PT X (.Compare a [.Gt] [b] pos) (tXT X.K G (fun ρ=>Ca ρ /\ Cb ρ) fun ρ=>gb ρ < ga ρ):=zVQ (p:=fun i j=>j < i) op_gt (nomark _) ha hb
theorem jV1 (ha:PE X a (tXI X.K G Ca ga)) (hb:PE X b (tXI X.K G Cb gb)):PT X (.Compare a [.GtE] [b] pos) (tXT X.K G (fun ρ=>Ca ρ /\ Cb ρ) fun ρ=>gb ρ <= ga ρ):=zVQ (p:=fun i j=>j <= i) op_ge (nomark _) ha hb
theorem yKK (ha:PE X a (tXI X.K G Ca ga)) (hb:PE X b (tXI X.K G Cb gb)):PT X (.Compare a [.Eq] [b] pos) (tXT X.K G (fun ρ=>Ca ρ /\ Cb ρ) fun ρ=>ga ρ=gb ρ):=zVQ qK7 (nomark _) ha hb
theorem qJH (ha:PE X a (tXI X.K G Ca ga)) (hb:PE X b (tXI X.K G Cb gb)):PT X (.Compare a [.NotEq] [b] pos) (tXT X.K G (fun ρ=>Ca ρ /\ Cb ρ) fun ρ=>¬ ga ρ=gb ρ):=zVQ (p:=fun i j=>¬ i=j) qUZ (nomark _) ha hb
theorem jXH (ha:PE X a (tXI X.K G Ca ga)) (hb:PE X b (tXI X.K G Cb gb)):PE X (.Compare a [.NotEq] [b] pos) (tXB X.K G (fun ρ=>Ca ρ /\ Cb ρ) fun ρ=>¬ ga ρ=gb ρ):=jXX (p:=fun i j=>¬ i=j) qUZ (nomark _) ha hb
variable {pa pb:En -> Prop} [∀ ρ,Decidable (pa ρ)] [∀ ρ,Decidable (pb ρ)] {rest:List Expr}
theorem xt_V {e:Expr} (h:PE X e (tXB X.K G Ca pa)) (he:∀ whole,isTrue e X.env whole=(do let v <- whole; standAt e.pos; holding [v] (truthy v)):=by intro _; rfl):PT X e (tXT X.K G Ca pa) :=
  fun pins s σ H Q I ⟨B,ρ,O,R,c,q⟩=>pt_val h he pins s σ H Q I ⟨B,ρ,O,R,c,fun _ H1 s1 a1=>⟨_,a1,q H1 s1⟩⟩
theorem jJJ (ha:PT X a (tXT X.K G Ca pa)):PT X (.UnaryOp .Not a pos) (tXT X.K G Ca fun ρ=>¬ pa ρ) :=
  fun pins s σ H Q I ⟨B,ρ,O,R,c,q⟩=>L2.pt_not ha pins s σ H Q I ⟨B,ρ,O,R,c,fun H1 s1=>by have z:=q H1 s1; rw [decide_not] at z; exact z⟩
theorem zVK (ha:PT X a (tXT X.K G Ca pa)):PW X (.BoolOp .Or [a] pos) (tXT X.K G Ca pa):=pw_or1 ha
theorem zZ2 (ha:PT X a (tXT X.K G Ca pa)):PW X (.BoolOp .And [a] pos) (tXT X.K G Ca pa):=pw_and1 ha
theorem zXX (ha:PT X a (tXT X.K G Ca pa)) (hb:PW X (.BoolOp .Or (b :: rest) pos) (tXT X.K G Cb pb)):PW X (.BoolOp .Or (a :: b :: rest) pos) (tXT X.K G (fun ρ=>Ca ρ /\ (¬ pa ρ -> Cb ρ)) fun ρ=>pa ρ \/ pb ρ) :=
  fun wh pins s σ H Q I ⟨B,ρ,O,R,c,q⟩=>pw_or ha hb wh pins s σ H Q I ⟨B,ρ,O,R,c.1,fun H1 s1=>by
    by_cases d:pa ρ
    . have z:=q H1 s1
      rw [decide_eq_true (Or.inl d:pa ρ \/ pb ρ)] at z
      rw [decide_eq_true d]; refine iteT ?_; exact z
    . rw [decide_eq_false d]; refine iteF ?_
      refine ⟨B,ρ,O,R.grow s1,c.2 d,fun H2 s2=>?_⟩
      have z:=q H2 (s1.trans s2)
      have e:decide (pa ρ \/ pb ρ)=decide (pb ρ):=by simp [d]
      rw [e] at z; exact z⟩
theorem zY0 (ha:PT X a (tXT X.K G Ca pa)) (hb:PW X (.BoolOp .And (b :: rest) pos) (tXT X.K G Cb pb)):PW X (.BoolOp .And (a :: b :: rest) pos) (tXT X.K G (fun ρ=>Ca ρ /\ (pa ρ -> Cb ρ)) fun ρ=>pa ρ /\ pb ρ) :=
  fun wh pins s σ H Q I ⟨B,ρ,O,R,c,q⟩=>pw_and ha hb wh pins s σ H Q I ⟨B,ρ,O,R,c.1,fun H1 s1=>by
    by_cases d:pa ρ
    . rw [decide_eq_true d]; refine iteT ?_
      refine ⟨B,ρ,O,R.grow s1,c.2 d,fun H2 s2=>?_⟩
      have z:=q H2 (s1.trans s2)
      have e:decide (pa ρ /\ pb ρ)=decide (pb ρ):=by simp [d]
      rw [e] at z; exact z
    . have z:=q H1 s1
      rw [decide_eq_false (fun y=>d y.1:¬ (pa ρ /\ pb ρ))] at z
      rw [decide_eq_false d]; refine iteF ?_; exact z⟩
theorem qU7 (ha:PE X a (tXB X.K G Ca pa)):PE X (.UnaryOp .Not a pos) (tXB X.K G Ca fun ρ=>¬ pa ρ) :=
  toX (pe_not ha) fun B _ _ ρ O _ R c q=>⟨B,ρ,O,R,c,fun _ H1 s1 a1=>⟨_,a1,q _ H1 s1 (by rw [decide_not]; rfl)⟩⟩
theorem zKQ (ha:PE X a (tXB X.K G Ca pa)) (hb:PE X (.BoolOp .And (b :: rest) pos) (tXB X.K G Cb pb)):PE X (.BoolOp .And (a :: b :: rest) pos) (tXB X.K G (fun ρ=>Ca ρ /\ (pa ρ -> Cb ρ)) fun ρ=>pa ρ /\ pb ρ) :=
  toX (pe_and ha hb) fun B _ _ ρ O _ R c q=>⟨B,ρ,O,R,c.1,fun _ H1 s1 a1=>⟨_,a1,by
    by_cases d:pa ρ
    . rw [decide_eq_true d]; refine iteT ?_
      refine ⟨B,ρ,O,R.grow s1,c.2 d,fun v H2 s2 a2=>q v H2 (s1.trans s2) ?_⟩
      have e:decide (pa ρ /\ pb ρ)=decide (pb ρ):=by simp [d]
      rw [e]; exact a2
    . have z:=q (.bl false) H1 s1 (by rw [decide_eq_false (fun y=>d y.1:¬ (pa ρ /\ pb ρ))]; rfl)
      rw [decide_eq_false d]; refine iteF ?_; exact z⟩⟩
variable {es:List Expr} {gs:En -> List PV}
theorem yQ3:PA X [] (tXs X.K G (fun _=>True) fun _=>[]):=fun pos pins s σ H Q I ⟨_,_,_,_,_,q⟩=>pa_nil pos pins s σ H Q I (q [] H (Same.refl H) rfl)
theorem yQ0 (ha:PE X e (tX X.K G Ca g)) (hr:PA X es (tXs X.K G Cb gs)) (hs:starEach (e :: es) X.env=(false,eval e X.env) :: starEach es X.env:=by rfl):PA X (e :: es) (tXs X.K G (fun ρ=>Ca ρ /\ Cb ρ) fun ρ=>g ρ :: gs ρ) :=
  fun pos pins s σ H Q I ⟨B,ρ,O,R,c,q⟩=>pa_cons ha hr hs pos pins s σ H Q I ⟨B,ρ,O,R,c.1,fun v H1 s1 a1=>⟨B,ρ,O,R.grow s1,c.2,fun vs H2 s2 a2=>q _ H2 (s1.trans s2) ⟨v,vs,rfl,At.mono (yY9 s2) _ _ a1,a2⟩⟩⟩
end
structure Ps where
  nx:En -> Prop
  rt:PV -> Prop
  rl:List Int -> Prop:=fun _=>False
  rn:PV -> Prop:=fun _=>False
  bk:En -> Prop:=fun _=>False
  ct:En -> Prop:=fun _=>False
  er:Addr -> Prop:=fun _=>False
abbrev ER:=Addr -> Hp -> Prop
abbrev ER0:ER:=fun _ _=>False
abbrev FS:=Ps -> En -> Prop
def RepE (K:PySem.W.Frag) (G:Gx) (B:Bs) (σ:L2.St) (H:Hp) (ρ:En):Prop:=∃ O,Rep K G B σ H ρ O
structure Owe (K:PySem.W.Frag) (G:Gx) (Er:ER) (B:Bs) (P:Ps) (D:Ends):Prop where
  nx:∀ σ H ρ,RepE K G B σ H ρ -> P.nx ρ -> D.nx σ H
  rt:∀ v H p,Same B.H0 H -> At K G (mn H B.Oc) p v -> P.rt p -> D.rt v H
  rl:∀ a H ns,Same B.H0 H -> B.H0 a=none -> H a=some (.lst (ns.map V.int)) -> P.rl ns -> D.rt (.ref a) H
  rn:∀ v H p,Same B.H0 H -> At K G (mn H fun a=>(B.H0 a).isSome) p v -> P.rn p -> D.rt v H
  bk:∀ σ H ρ,RepE K G B σ H ρ -> P.bk ρ -> D.bk σ H
  ct:∀ σ H ρ,RepE K G B σ H ρ -> P.ct ρ -> D.ct σ H
  er:∀ H C,Same B.H0 H -> P.er C -> Er C H
def ts (K:PySem.W.Frag) (G:Gx) (Er:ER) (f:FS):TS:=fun D σ H=>∃ B ρ P,RepE K G B σ H ρ /\ f P ρ /\ Owe K G Er B P D
section
variable {X:Cx} {G:Gx} {Er:ER} {pos:Pos} {st:Stmt} {sts:List Stmt} {f f1 f2:FS} {C:En -> Prop} {e:Expr} {t:TS}
theorem toS (h:PS X st t) (k:∀ B σ H ρ O P D,Rep X.K G B σ H ρ O -> f P ρ -> Owe X.K G Er B P D -> t D σ H):PS X st (ts X.K G Er f) :=
  fun pins s σ H D I ⟨B,ρ,P,⟨O,R⟩,c,w⟩=>h pins s σ H D I (k B σ H ρ O P D R c w)
theorem yZJ:PSs X [] (ts X.K G Er fun P ρ=>P.nx ρ):=fun pins s σ H D I ⟨_,ρ,_,R,c,w⟩=>pss_nil pins s σ H D I (w.nx σ H ρ R c)
theorem yQ5 (h:PS X st (ts X.K G Er f)):PSs X [st] (ts X.K G Er f):=pss_one h
theorem yQ1 (h1:PS X st (ts X.K G Er f1)) (h2:PSs X sts (ts X.K G Er f2)):PSs X (st :: sts) (ts X.K G Er fun P ρ=>f1 { P with nx:=f2 P } ρ) :=
  fun pins s σ H D I ⟨B,ρ,P,R,c,w⟩=>pss_cons h1 h2 pins s σ H D I ⟨B,ρ,{ P with nx:=f2 P },R,c,⟨fun _ _ ρ' R' c'=>⟨B,ρ',P,R',c',w⟩,w.rt,w.rl,w.rn,w.bk,w.ct,w.er⟩⟩
theorem yX9 (h1:PS X st (ts X.K G Er f1)) (h2:PSs X sts (ts X.K G Er f2)):PSs X (st :: sts) (ts X.K G Er fun P ρ=>∃ J:En -> Prop,f1 { P with nx:=J } ρ /\ ∀ ρ',J ρ' -> f2 P ρ') :=
  fun pins s σ H D I ⟨B,ρ,P,R,⟨J,c,k⟩,w⟩=>pss_cons h1 h2 pins s σ H D I ⟨B,ρ,{ P with nx:=J },R,c,⟨fun _ _ ρ' R' c'=>⟨B,ρ',P,R',k ρ' c',w⟩,w.rt,w.rl,w.rn,w.bk,w.ct,w.er⟩⟩
theorem yJ4 (i:Nat) (h:PSs X sts (ts X.K G Er f)):PSs X sts (ts X.K G Er fun P ρ=>f P (frz ρ i)) :=
  fun pins s σ H D I ⟨B,ρ,P,⟨_,R⟩,c,w⟩=>h pins s σ H D I ⟨B,frz ρ i,P,R.freeze i,c,w⟩
theorem qJK:PS X st (ts X.K G Er fun _ _=>False):=toS ps_never fun _ _ _ _ _ _ _ _ c _=>c
theorem yQX {g:En -> PV} (h:PE X e (tX X.K G C g)):PS X (.Return (some e) pos) (ts X.K G Er fun P ρ=>C ρ /\ P.rt (g ρ)) :=
  toS (ps_ret h) fun B _ _ ρ O _ _ R c w=>⟨B,ρ,O,R,c.1,fun v H1 s1 a1=>w.rt v H1 _ (R.same.trans s1) (At.mono (zZW R.hid) _ _ a1) c.2⟩
theorem yJ6 {g:En -> List Int} (h:PE X e (tXl X.K G C g)):PS X (.Return (some e) pos) (ts X.K G Er fun P ρ=>C ρ /\ P.rl (g ρ)) :=
  toS (ps_ret h) fun B _ _ ρ O _ _ R c w=>⟨B,ρ,O,R,c.1,fun a H1 s1 n1 e1=>w.rl a H1 _ (R.same.trans s1) (R.same.free n1) e1 c.2⟩
theorem zQV (i:Nat) {x:Str} {px:Pos} (hN:X.N[i]?=some x:=by rfl) (hv:Vis X.env.scope x:=by first | exact Or.inl rfl | exact Or.inr (Or.inl rfl) | exact Or.inr (Or.inr rfl))
    (hd:(x == ("__debug__":Str))=false:=by decide) (hcd:(x == ("__classdict__":Str))=false:=by decide):PS X (.Return (some (.Name x px)) pos) (ts X.K G Er fun P ρ=>isO ρ i /\ P.rl (getL ρ i)) :=
  toS (ps_ret (pe_var hN hv hd hcd)) fun B _ H ρ O _ _ R c w=>by
    obtain ⟨a,vs,e1,e2,e3,e4,e5⟩:=R.ow i _ c.1
    have e5:vs=(getL ρ i).map V.int:=e5
    subst e5
    exact ⟨_,e1,w.rl a H _ R.same e3 e4 c.2⟩
theorem zWH {i:Nat} {x:Str} {pos':Pos} {g:En -> PV} (hN:X.N.Nodup) (hi:X.N[i]?=some x) (hx:Loc X.env.scope x) (he:PE X e (tX X.K G C g)) (hs:swapsWith e (some (.Name x pos')) pos.line X.env=pure false:=by rfl)
    (hf:X.fn x=true \/ X.env.scope.names.lookup x=some .local:=by first | exact .inl rfl | exact .inr rfl | assumption):PS X (.Assign [.Name x pos'] e pos) (ts X.K G Er fun P ρ=>C ρ /\ P.nx (ρ.set i (.fr (g ρ)))) :=
  toS (ps_set hN hi hx he hs hf) fun B σ _ ρ O _ _ R c w=>⟨B,ρ,O,R,c.1,fun _ H1 s1 a1=>w.nx _ H1 _ ⟨O,(R.grow s1).set a1⟩ c.2⟩
theorem yZQ {i:Nat} {x:Str} {pos':Pos} {g:En -> PV} (hN:X.N.Nodup) (hi:X.N[i]?=some x) (hx:Loc X.env.scope x) (he:PE X e (tX X.K G C g)) (hs:swapsWith e (some (.Name x pos')) pos.line X.env=pure false:=by rfl)
    (hf:X.fn x=true \/ X.env.scope.names.lookup x=some .local:=by first | exact .inl rfl | exact .inr rfl | assumption):PS X (.Assign [.Name x pos'] e pos) (ts X.K G Er fun P ρ=>C ρ /\ ∀ p,p=g ρ -> P.nx (ρ.set i (.fr p))) :=
  toS (zWH hN hi hx he hs hf) fun B σ _ ρ O P D R c w=>⟨B,ρ,P,⟨O,R⟩,⟨c.1,c.2 _ rfl⟩,w⟩
theorem yQ9 {i:Nat} {x:Str} {pos':Pos} {g:En -> Int} (hN:X.N.Nodup) (hi:X.N[i]?=some x) (hx:Loc X.env.scope x) (he:PE X e (tXI X.K G C g)) (hs:swapsWith e (some (.Name x pos')) pos.line X.env=pure false:=by rfl)
    (hf:X.fn x=true \/ X.env.scope.names.lookup x=some .local:=by first | exact .inl rfl | exact .inr rfl | assumption):PS X (.Assign [.Name x pos'] e pos) (ts X.K G Er fun P ρ=>C ρ /\ ∀ n,n=g ρ -> P.nx (ρ.set i (.fr (.int n)))) :=
  toS (zWH hN hi hx he hs hf) fun B σ _ ρ O P D R c w=>⟨B,ρ,P,⟨O,R⟩,⟨c.1,c.2 _ rfl⟩,w⟩
theorem yZ1 {i:Nat} {x:Str} {pos':Pos} {g:En -> List Int} (hN:X.N.Nodup) (hi:X.N[i]?=some x) (hx:Loc X.env.scope x) (he:PE X e (tXL X.K G C g)) (hs:swapsWith e (some (.Name x pos')) pos.line X.env=pure false:=by rfl)
    (hf:X.fn x=true \/ X.env.scope.names.lookup x=some .local:=by first | exact .inl rfl | exact .inr rfl | assumption):PS X (.Assign [.Name x pos'] e pos) (ts X.K G Er fun P ρ=>C ρ /\ ∀ ns,ns=g ρ -> P.nx (ρ.set i (.fr (.ints ns)))) :=
  toS (zWH hN hi hx he hs hf) fun B σ _ ρ O P D R c w=>⟨B,ρ,P,⟨O,R⟩,⟨c.1,c.2 _ rfl⟩,w⟩
theorem yWK {i:Nat} {x:Str} {pos':Pos} {g:En -> List Int} (hN:X.N.Nodup) (hi:X.N[i]?=some x) (hx:Loc X.env.scope x) (he:PE X e (tXl X.K G C g)) (hs:swapsWith e (some (.Name x pos')) pos.line X.env=pure false:=by rfl)
    (hf:X.fn x=true \/ X.env.scope.names.lookup x=some .local:=by first | exact .inl rfl | exact .inr rfl | assumption):PS X (.Assign [.Name x pos'] e pos) (ts X.K G Er fun P ρ=>C ρ /\ ∀ ns,ns=g ρ -> P.nx (ρ.set i (.ow (.ints ns)))) :=
  toS (ps_set hN hi hx he hs hf) fun B σ _ ρ O _ _ R c w=>⟨B,ρ,O,R,c.1,fun a H1 s1 n1 e1=>w.nx _ H1 _ ⟨hide a O,R.new (p:=.ints (g ρ)) s1 n1 e1 rfl⟩ (c.2 _ rfl)⟩
theorem zUH {i:Nat} {x:Str} {pos':Pos} {g:En -> List PV} (hN:X.N.Nodup) (hi:X.N[i]?=some x) (hx:Loc X.env.scope x) (he:PE X e (tXp X.K G C g)) (hs:swapsWith e (some (.Name x pos')) pos.line X.env=pure false:=by rfl)
    (hf:X.fn x=true \/ X.env.scope.names.lookup x=some .local:=by first | exact .inl rfl | exact .inr rfl | assumption):PS X (.Assign [.Name x pos'] e pos) (ts X.K G Er fun P ρ=>C ρ /\ ∀ ns,ns=g ρ -> P.nx (ρ.set i (.ow (.lst ns)))) :=
  toS (ps_set hN hi hx he hs hf) fun B σ _ ρ O _ _ R c w=>⟨B,ρ,O,R,c.1,fun a vs H1 s1 n1 e1 al=>w.nx _ H1 _ ⟨hide a O,R.new (p:=.lst (g ρ)) s1 n1 e1 al⟩ (c.2 _ rfl)⟩
theorem qZV {i:Nat} {x:Str} {op:Operator} {pos':Pos} {g:En -> Int} {Pr:Int -> Int -> Prop} {h:Int -> Int -> Int} (hN:X.N.Nodup) (hi:X.N[i]?=some x) (hx:Loc X.env.scope x) (he:PE X e (tXI X.K G C g)) (ho:OpR X (inplaceOp op) (rI Pr fun i j=>.int (h i j)))
    (hf:X.fn x=true \/ X.env.scope.names.lookup x=some .local:=by first | exact .inl rfl | exact .inr rfl | assumption):PS X (.AugAssign (.Name x pos') op e pos) (ts X.K G Er fun P ρ=>isI ρ i /\ C ρ /\ Pr (getI ρ i) (g ρ) /\ ∀ n,n=h (getI ρ i) (g ρ) -> P.nx (ρ.set i (.fr (.int n)))) :=
  toS (ps_aug hN hi hx he ho hf) fun B σ H ρ O _ _ R c w=>by
    obtain ⟨c0,c1,c2,c3⟩:=c
    obtain ⟨v,e1,e2⟩:=R.fr i _ c0
    have e2:v=.int (getI ρ i):=e2
    subst e2
    exact ⟨_,e1,B,ρ,O,R,c1,fun y H1 s1 a1=>⟨_,_,rfl,a1,c2,w.nx _ H1 _ ⟨O,(R.grow s1).set (p:=.int _) rfl⟩ (c3 _ rfl)⟩⟩
theorem yY3 {c:Expr} {a b:List Stmt} {p:En -> Prop} [∀ ρ,Decidable (p ρ)] (hc:PT X c (tXT X.K G C p)) (ha:PSs X a (ts X.K G Er f1)) (hb:PSs X b (ts X.K G Er f2)):PS X (.If c a b pos) (ts X.K G Er fun P ρ=>C ρ /\ (p ρ -> f1 P ρ) /\ (¬ p ρ -> f2 P ρ)) :=
  toS (ps_if hc ha hb) fun B σ _ ρ O P D R c w=>⟨B,ρ,O,R,c.1,fun H1 s1=>by
    by_cases d:p ρ
    . rw [decide_eq_true d]; refine iteT ?_; exact ⟨B,ρ,P,⟨O,R.grow s1⟩,c.2.1 d,w⟩
    . rw [decide_eq_false d]; refine iteF ?_; exact ⟨B,ρ,P,⟨O,R.grow s1⟩,c.2.2 d,w⟩⟩
theorem yW3 {c:Expr} {body:List Stmt} {p:En -> Prop} [∀ ρ,Decidable (p ρ)] (hp:PassesOwn (model X.prog X.w) X.A X.env X.xe) (hc:PT X c (tXT X.K G C p)) (hb:PSs X body (ts X.K G Er f)) :
    PS X (.While c body [] pos) (ts X.K G Er fun P ρ=>∃ (W:En -> Prop) (μ:En -> Nat),W ρ /\ ∀ ρ,W ρ -> C ρ /\ (p ρ -> f { P with nx:=fun ρ'=>W ρ' /\ μ ρ' < μ ρ,ct:=fun ρ'=>W ρ' /\ μ ρ' < μ ρ,bk:=P.nx } ρ) /\ (¬ p ρ -> P.nx ρ)) :=
  toS (ps_while hp hc hb) fun B σ H ρ O P D R c w=>by
    obtain ⟨W,μ,w0,st⟩:=c
    refine ⟨fun m σ H=>∃ ρ,RepE X.K G B σ H ρ /\ W ρ /\ m=μ ρ,⟨μ ρ,ρ,⟨O,R⟩,w0,rfl⟩,?_⟩
    rintro m σ H ⟨ρ,⟨O,R⟩,hw,rfl⟩
    obtain ⟨c1,c2,c3⟩:=st ρ hw
    refine ⟨B,ρ,O,R,c1,fun H1 s1=>?_⟩
    by_cases d:p ρ
    . rw [decide_eq_true d]; refine iteT ?_
      refine ⟨fun σ' H'=>∃ ρ',RepE X.K G B σ' H' ρ' /\ W ρ' /\ μ ρ' < μ ρ,fun σ' H' ⟨ρ',R',h1,h2⟩=>⟨_,h2,ρ',R',h1,rfl⟩,B,ρ,_,⟨O,R.grow s1⟩,c2 d,⟨fun σ' H' ρ' R' h=>⟨ρ',R',h⟩,w.rt,w.rl,w.rn,w.nx,fun σ' H' ρ' R' h=>⟨ρ',R',h⟩,w.er⟩⟩
    . rw [decide_eq_false d]; refine iteF ?_; exact w.nx σ H1 ρ ⟨O,R.grow s1⟩ (c3 d)
theorem yWY {k:Nat} {x:Str} {a:Expr} {body:List Stmt} {g:En -> Int} {p px pos':Pos} (hp:PassesOwn (model X.prog X.w) X.A X.env X.xe) (hc:X.calm=true) (hg:Gl X "range") (hm:X.mg "range"=none) (ha:PE X a (tXI X.K G C g)) (hN:X.N.Nodup) (hi:X.N[k]?=some x) (hx:Loc X.env.scope x)
    (hb:PSs X body (ts X.K G Er f)) (hs:starEach [a] X.env=[(false,eval a X.env)]:=by rfl) (hfs:∀ x,foldedSetIterable (.Call (.Name "range" p) [a] [] pos') X.env x=pure x:=by intro _; rfl)
    (hf:X.fn x=true \/ X.env.scope.names.lookup x=some .local:=by first | exact .inl rfl | exact .inr rfl | assumption) :
    PS X (.For (.Name x px) (.Call (.Name "range" p) [a] [] pos') body [] pos) (ts X.K G Er fun P ρ=>C ρ /\ (-(2 ^ 62) <= g ρ /\ g ρ < 2 ^ 62) /\ ∃ W:Nat -> En -> Prop,W 0 ρ /\ (∀ i ρ',i < (g ρ).toNat -> W i ρ' -> f { P with nx:=W (i + 1),ct:=W (i + 1),bk:=P.nx } (ρ'.set k (.fr (.int i)))) /\ ∀ ρ',W (g ρ).toNat ρ' -> P.nx ρ') :=
  toS (ps_for hp hc (pi_range1 hg hm (pa_cons ha pa_nil hs) hs) (pg_name hN hi hx hf) hb hfs) fun B σ H ρ O P D R c w=>by
    obtain ⟨c1,⟨l1,l2⟩,W,w0,st,nd⟩:=c
    refine ⟨B,ρ,O,R,c1,fun v H1 s1 a1=>?_⟩
    have a1:v=.int (g ρ):=a1
    subst a1
    refine ⟨g ρ,rfl,l1,l2,for_range (fun i σ H=>∃ ρ',RepE X.K G B σ H ρ' /\ W i ρ') ⟨ρ,⟨O,R.grow s1⟩,w0⟩ ?_ ?_⟩
    . rintro i σ H hi ⟨ρ',⟨O',R'⟩,hw⟩
      have e:(0:Int) + i=i:=by omega
      rw [e]
      exact ⟨B,_,_,⟨O',R'.set (p:=.int i) rfl⟩,st i ρ' hi hw,⟨fun σ' H' ρ' R' h=>⟨ρ',R',h⟩,w.rt,w.rl,w.rn,w.nx,fun σ' H' ρ' R' h=>⟨ρ',R',h⟩,w.er⟩⟩
    . rintro σ H ⟨ρ',R',hw⟩
      exact w.nx σ H ρ' R' (nd ρ' hw)
theorem qYU {k:Nat} {x:Str} {a b:Expr} {body:List Stmt} {Cb:En -> Prop} {g h:En -> Int} {p px pos':Pos} (hp:PassesOwn (model X.prog X.w) X.A X.env X.xe) (hc:X.calm=true) (hg:Gl X "range") (hm:X.mg "range"=none) (ha:PE X a (tXI X.K G C g)) (hb':PE X b (tXI X.K G Cb h)) (hN:X.N.Nodup) (hi:X.N[k]?=some x) (hx:Loc X.env.scope x)
    (hb:PSs X body (ts X.K G Er f)) (hs:starEach [a,b] X.env=[(false,eval a X.env),(false,eval b X.env)]:=by rfl) (hs2:starEach [b] X.env=[(false,eval b X.env)]:=by rfl) (hfs:∀ x,foldedSetIterable (.Call (.Name "range" p) [a,b] [] pos') X.env x=pure x:=by intro _; rfl)
    (hf:X.fn x=true \/ X.env.scope.names.lookup x=some .local:=by first | exact .inl rfl | exact .inr rfl | assumption) :
    PS X (.For (.Name x px) (.Call (.Name "range" p) [a,b] [] pos') body [] pos) (ts X.K G Er fun P ρ=>(C ρ /\ Cb ρ) /\ (-(2 ^ 62) <= g ρ /\ g ρ < 2 ^ 62 /\ -(2 ^ 62) <= h ρ /\ h ρ < 2 ^ 62) /\
      ∃ W:Nat -> En -> Prop,W 0 ρ /\ (∀ i ρ',i < (h ρ - g ρ).toNat -> W i ρ' -> f { P with nx:=W (i + 1),ct:=W (i + 1),bk:=P.nx } (ρ'.set k (.fr (.int (g ρ + i))))) /\ ∀ ρ',W (h ρ - g ρ).toNat ρ' -> P.nx ρ') :=
  toS (ps_for hp hc (pi_range2 hg hm (pa_cons ha (pa_cons hb' pa_nil hs2) (by rw [hs,hs2])) hs hs2) (pg_name hN hi hx hf) hb hfs) fun B σ H ρ O P D R c w=>by
    obtain ⟨⟨c1,c2⟩,l,W,w0,st,nd⟩:=c
    refine ⟨B,ρ,O,R,c1,fun v H1 s1 a1=>⟨B,ρ,O,R.grow s1,c2,fun u H2 s2 a2=>?_⟩⟩
    have a1:v=.int (g ρ):=a1
    have a2:u=.int (h ρ):=a2
    subst a1 a2
    refine ⟨g ρ,h ρ,rfl,l,for_range (fun i σ H=>∃ ρ',RepE X.K G B σ H ρ' /\ W i ρ') ⟨ρ,⟨O,(R.grow s1).grow s2⟩,w0⟩ ?_ ?_⟩
    . rintro i σ H hi ⟨ρ',⟨O',R'⟩,hw⟩
      exact ⟨B,_,_,⟨O',R'.set (p:=.int _) rfl⟩,st i ρ' hi hw,⟨fun σ' H' ρ' R' h=>⟨ρ',R',h⟩,w.rt,w.rl,w.rn,w.nx,fun σ' H' ρ' R' h=>⟨ρ',R',h⟩,w.er⟩⟩
    . rintro σ H ⟨ρ',R',hw⟩
      exact w.nx σ H ρ' R' (nd ρ' hw)
theorem zU7 {B:Bs} {σ:L2.St} {H:Hp} {ρ:En} {O:Addr -> Bool} {K:PySem.W.Frag} {P:Ps} {D:Ends} (R:Rep K G B σ H ρ O) (w:Owe K G Er B P D):Owe K G Er (B.at H O) P D :=
  ⟨fun σ' H' ρ' ⟨O',R'⟩ h=>w.nx σ' H' ρ' ⟨O',R.unbase R'⟩ h,fun v H' p s a h=>w.rt v H' p (R.base_le.trans s) a h,fun a H' ns s n e h=>w.rl a H' ns (R.base_le.trans s) (R.base_le.free n) e h,fun v H' p s a h=>w.rn v H' p (R.base_le.trans s) (At.mono (zZW fun b z=>by
    obtain ⟨o,e⟩:=Option.isSome_iff_exists.mp z
    exact Option.isSome_iff_exists.mpr ⟨o,R.base_le _ _ e⟩) _ _ a) h,fun σ' H' ρ' ⟨O',R'⟩ h=>w.bk σ' H' ρ' ⟨O',R.unbase R'⟩ h,fun σ' H' ρ' ⟨O',R'⟩ h=>w.ct σ' H' ρ' ⟨O',R.unbase R'⟩ h,fun H' C s h=>w.er H' C (R.base_le.trans s) h⟩
theorem zQZ {k j:Nat} {x y:Str} {l:Expr} {body:List Stmt} {g:En -> List Int} {px py p pos' tp:Pos} {kk:Nat} (hp:PassesOwn (model X.prog X.w) X.A X.env X.xe) (hc:X.calm=true) (hg:Gl X "enumerate") (hm:X.mg "enumerate"=none) (hl:PE X l (tXL X.K G C g))
    (hgt:PG X (.Tuple [.Name x px,.Name y py] kk tp) (gTup X.K 2 (gCons (gName k) (gCons (gName j) gNil)))) (hb:PSs X body (ts X.K G Er f)) (hs:starEach [l] X.env=[(false,eval l X.env)]:=by rfl)
    (hfs:∀ x,foldedSetIterable (.Call (.Name "enumerate" p) [l] [] pos') X.env x=pure x:=by intro _; rfl) :
    PS X (.For (.Tuple [.Name x px,.Name y py] kk tp) (.Call (.Name "enumerate" p) [l] [] pos') body [] pos) (ts X.K G Er fun P ρ=>C ρ /\ ∃ W:Nat -> En -> Prop,W 0 ρ /\
      (∀ i n ρ',(g ρ)[i]?=some n -> W i ρ' -> f { P with nx:=W (i + 1),ct:=W (i + 1),bk:=P.nx } ((ρ'.set k (.fr (.int i))).set j (.fr (.int n)))) /\ ∀ ρ',W (g ρ).length ρ' -> P.nx ρ') :=
  toS (ps_for hp hc (zWU hg hm (pa_cons hl pa_nil hs) hs) hgt hb hfs) fun B σ H ρ O P D R c w=>by
    obtain ⟨c1,W,w0,st,nd⟩:=c
    refine ⟨B,ρ,O,R,c1,fun v H1 s1 a1=>?_⟩
    obtain ⟨a,e,hq⟩:=a1
    subst e
    have R1:=R.grow s1
    have w1:=zU7 R1 w
    refine ⟨a,rfl,⟨_,.inl (yQZ yZV hq)⟩,qW5 (xs:=(g ρ).map V.int) (fun i σ H=>∃ ρ',RepE X.K G (B.at H1 O) σ H ρ' /\ W i ρ') ⟨ρ,⟨O,R1.rebase⟩,w0⟩ ?_ ?_ ?_⟩
    . rintro i σ H _ ⟨ρ',⟨O',R'⟩,_⟩
      exact .inl (yQZ ((Rep.base_mn B H1 O).trans R'.same) hq)
    . rintro i y σ H T hy ⟨ρ',⟨O',R'⟩,hw⟩ hT
      obtain ⟨n,rfl,en⟩:=int_at hy
      refine ⟨T,_,rfl,SqT.of upd_same,rfl,_,_,rfl,_,_,rfl,rfl,?_⟩
      exact ⟨_,_,_,⟨O',((R'.grow (same_new hT _)).set (p:=.int i) rfl).set (p:=.int n) rfl⟩,st i n ρ' en hw,⟨fun σ' H' ρ' R' h=>⟨ρ',R',h⟩,w1.rt,w1.rl,w1.rn,w1.nx,fun σ' H' ρ' R' h=>⟨ρ',R',h⟩,w1.er⟩⟩
    . rintro σ H ⟨ρ',R',hw⟩
      rw [List.length_map] at hw
      exact w1.nx σ H ρ' R' (nd ρ' hw)
end
theorem getD_at {ns:List Int} {i:Int} (h1:-(ns.length:Int) <= i) (h2:i < ns.length):atI (ns.map V.int) i=some (V.int (ns.getD (if 0 <= i then i else i + ns.length).toNat 0)):=by
  by_cases c0:0 <= i
  . rw [if_pos c0]; exact zX6 c0 h2
  . rw [if_neg c0]
    have q2:=zX6 (ns:=ns) (i:=i + ns.length) (by omega) (by omega)
    unfold atI ixN at q2 ⊢
    rw [List.length_map] at q2 ⊢
    rw [if_pos (show 0 <= i + (ns.length:Int) by omega),if_pos (show i + (ns.length:Int) < (ns.length:Int) by omega)] at q2
    rw [if_neg c0,if_pos h1]
    exact q2
def ixO (n:Nat) (i:Int):Nat:=(if 0 <= i then i else i + n).toNat
theorem zU9 {n:Nat} {i:Int} (h1:-(n:Int) <= i) (h2:i < n):ixN n i=some (ixO n i):=by
  unfold ixN ixO
  by_cases c:0 <= i
  . rw [if_pos c,if_pos h2,if_pos c]
  . rw [if_neg c,if_pos h1,if_neg c]
theorem jX4 {n:Nat} {i:Int} (h1:-(n:Int) <= i) (h2:i < n):ixO n i < n:=by
  unfold ixO
  by_cases c:0 <= i
  . rw [if_pos c]; omega
  . rw [if_neg c]; omega
section
variable {X:Cx} {G:Gx} {Er:ER} {a b e:Expr} {pos p px:Pos} {C Ca Cb:En -> Prop} {ga gb:En -> Int} {i:Nat} {es:List Expr}
theorem yYV (i:Nat) {x:Str} (hb:PE X b (tXI X.K G Cb gb)) (hs:PlainIx b) (hN:X.N[i]?=some x:=by rfl) (hv:Vis X.env.scope x:=by first | exact Or.inl rfl | exact Or.inr (Or.inl rfl) | exact Or.inr (Or.inr rfl))
    (hd:(x == ("__debug__":Str))=false:=by decide) (hcd:(x == ("__classdict__":Str))=false:=by decide) :
    PE X (.Subscript (.Name x px) b pos) (tXI X.K G (fun ρ=>isLO ρ i /\ Cb ρ /\ -((getL ρ i).length:Int) <= gb ρ /\ gb ρ < ((getL ρ i).length:Int)) fun ρ=>(getL ρ i).getD (ixO (getL ρ i).length (gb ρ)) 0) :=
  toX (pe_ix ix_list (pe_var hN hv hd hcd) hb hs) fun B σ H ρ O Q R c q=>by
    obtain ⟨a,e1,e2⟩:=R.readL c.1
    exact ⟨_,e1,B,ρ,O,R,c.2.1,fun u H1 s1 a1=>⟨a,_,_,_,rfl,a1,s1.seq e2,getD_at c.2.2.1 c.2.2.2,q _ H1 s1 rfl⟩⟩
theorem yJ2 (i:Nat) {x:Str} (hm:X.mg "len"=none) (hN:X.N[i]?=some x:=by rfl) (hg:Gl X "len":=by rfl) (hv:Vis X.env.scope x:=by first | exact Or.inl rfl | exact Or.inr (Or.inl rfl) | exact Or.inr (Or.inr rfl))
    (hd:(x == ("__debug__":Str))=false:=by decide) (hcd:(x == ("__classdict__":Str))=false:=by decide) (he:starEach [.Name x px] X.env=[(false,eval (.Name x px) X.env)]:=by rfl) :
    PE X (.Call (.Name "len" p) [.Name x px] [] pos) (tXI X.K G (fun ρ=>isLO ρ i) fun ρ=>((getL ρ i).length:Int)) :=
  toX (pe_callB call_len_seq hg hm qUW (pa_cons (pe_var hN hv hd hcd) pa_nil he) (by decide) (by decide) he rfl) fun B σ H ρ O Q R c q=>by
    obtain ⟨a,e1,e2⟩:=R.readL c
    exact ⟨_,e1,a,_,rfl,.inl e2,by rw [List.length_map]; exact q _ H (Same.refl H) rfl⟩
def lenP:PV -> Int
  | .ints ns=>(ns.length:Int)
  | .scr ns=>(ns.length:Int)
  | .lst xs=>(xs.length:Int)
  | .tup xs=>(xs.length:Int)
  | _=>0
def hasLen:PV -> Prop
  | .ints _=>True
  | .scr _=>True
  | .lst _=>True
  | .tup _=>True
  | _=>False
theorem At.len {K:PySem.W.Frag} {H:Hp} {p:PV} {v:V} (h:At K G H p v) (hl:hasLen p):∃ a ys,v=.ref a /\ (SqL K H a ys \/ SqT K H a ys) /\ (ys.length:Int)=lenP p:=by
  cases p <;> first | exact hl.elim | skip
  . obtain ⟨a,e,q⟩:=h; exact ⟨a,_,e,.inl (.inl q),by rw [List.length_map]; rfl⟩
  . obtain ⟨a,e,q⟩:=h; exact ⟨a,_,e,.inl q,by rw [List.length_map]; rfl⟩
  . obtain ⟨a,vs,e,q,r⟩:=h; exact ⟨a,vs,e,.inl (.inl q),by rw [<- r.length]; rfl⟩
  . obtain ⟨a,vs,e,q,r⟩:=h; exact ⟨a,vs,e,.inr (SqT.of q),by rw [<- r.length]; rfl⟩
theorem yV0 {g:En -> PV} (hm:X.mg "len"=none) (ha:PE X a (tX X.K G C g)) (hg:Gl X "len":=by rfl) (he:starEach [a] X.env=[(false,eval a X.env)]:=by rfl) :
    PE X (.Call (.Name "len" p) [a] [] pos) (tXI X.K G (fun ρ=>C ρ /\ hasLen (g ρ)) fun ρ=>lenP (g ρ)) :=
  toX (pe_callB call_len_seq hg hm qUW (pa_cons ha pa_nil he) (by decide) (by decide) he rfl) fun B σ H ρ O Q R c q=>⟨B,ρ,O,R,c.1,fun v H1 s1 a1=>by
    obtain ⟨a,ys,e,s,l⟩:=a1.len c.2
    exact ⟨a,ys,by rw [e],s.imp (fun z=>yZV.seq z) (fun z=>qV3 yZV z),by rw [l]; exact q _ H1 s1 rfl⟩⟩
def itP:PV -> Int -> PV
  | .lst xs,k=>xs.getD (ixO xs.length k) .non
  | .tup xs,k=>xs.getD (ixO xs.length k) .non
  | .ints ns,k=>.int (ns.getD (ixO ns.length k) 0)
  | _,_=>.non
def hasIt:PV -> Int -> Prop
  | .lst xs,k=>-(xs.length:Int) <= k /\ k < xs.length
  | .tup xs,k=>-(xs.length:Int) <= k /\ k < xs.length
  | .ints xs,k=>-(xs.length:Int) <= k /\ k < xs.length
  | _,_=>False
theorem AtL.item {K:PySem.W.Frag} {H:Hp} {ps:List PV} {vs:List V} {k:Int} (h:AtL K G H ps vs) (h1:-(ps.length:Int) <= k) (h2:k < ps.length):∃ v,atI vs k=some v /\ At K G H (ps.getD (ixO ps.length k) .non) v:=by
  have l:=jX4 h1 h2
  have e:ps[ixO ps.length k]?=some (ps.getD (ixO ps.length k) .non):=by rw [gQ,List.getElem?_eq_getElem l]; rfl
  obtain ⟨v,ev,av⟩:=h.at e
  refine ⟨v,?_,av⟩
  unfold atI
  rw [<- h.length,zU9 h1 h2]
  exact ev
theorem yQJ {g:En -> PV} (ha:PE X a (tX X.K G Ca g)) (hb:PE X b (tXI X.K G Cb gb)) (hs:PlainIx b):PE X (.Subscript a b pos) (tX X.K G (fun ρ=>Ca ρ /\ Cb ρ /\ hasIt (g ρ) (gb ρ)) fun ρ=>itP (g ρ) (gb ρ)) :=
  toX (pe_ix ix_seq ha hb hs) fun B σ H ρ O Q R c q=>two R c.1 c.2.1 fun v u H1 H2 s1 s2 a1 a2=>by
    have h:=c.2.2
    revert a1 h q
    generalize g ρ=pg
    intro q a1 h
    cases pg <;> first | exact h.elim | skip
    . obtain ⟨p,e,r⟩:=a1
      exact .inl ⟨p,_,_,_,e,a2,.inl (yQZ yZV r),getD_at h.1 h.2,q _ H2 (s1.trans s2) rfl⟩
    . obtain ⟨p,vs,e,r,t⟩:=a1
      obtain ⟨v',e',a'⟩:=t.item h.1 h.2
      exact .inl ⟨p,vs,_,v',e,a2,.inl (yQZ yZV r),e',q _ H2 (s1.trans s2) a'⟩
    . obtain ⟨p,vs,e,r,t⟩:=a1
      obtain ⟨v',e',a'⟩:=t.item h.1 h.2
      exact .inr (.inl ⟨p,vs,_,v',e,a2,SqT.of (yZV _ _ r),e',q _ H2 (s1.trans s2) a'⟩)
theorem qYX (i:Nat) {x:Str} (hN:X.N[i]?=some x:=by rfl) (hv:Vis X.env.scope x:=by first | exact Or.inl rfl | exact Or.inr (Or.inl rfl) | exact Or.inr (Or.inr rfl))
    (hd:(x == ("__debug__":Str))=false:=by decide) (hcd:(x == ("__classdict__":Str))=false:=by decide):PT X (.Name x pos) (tXT X.K G (fun ρ=>isLO ρ i) fun ρ=>¬ getL ρ i=[]) :=
  fun pins s σ H Q I ⟨B,ρ,O,R,c,q⟩=>pt_truth (pe_var hN hv hd hcd) (fun _=>rfl) pins s σ H Q I (by
    obtain ⟨a,e1,e2⟩:=R.readL c
    refine ⟨_,e1,_,.inl ⟨_,e2,rfl⟩,?_⟩
    have z:=q H (Same.refl H)
    have e:(!((getL ρ i).map V.int).isEmpty)=decide (¬ getL ρ i=[]):=by cases getL ρ i <;> simp
    rw [e]; exact z)
def allI:List PV -> List Int
  | .int n :: r=>n :: allI r
  | _=>[]
def areI:List PV -> Prop
  | []=>True
  | .int _ :: r=>areI r
  | _=>False
theorem AtL.ints {K:PySem.W.Frag} {H:Hp}:∀ {ps:List PV} {vs:List V},AtL K G H ps vs -> areI ps -> vs=(allI ps).map V.int
  | [],_,h,_=>h
  | p :: ps,_,h,c=>by
    cases p <;> first | exact c.elim | skip
    obtain ⟨v,r,rfl,e,t⟩:=h
    have e:v=_:=e
    rw [e,AtL.ints t c]
    rfl
theorem yZK {gs:En -> List PV} (h:PA X es (tXs X.K G C gs)) (hz:∀ ρ,(gs ρ).length <= 1000:=by intro _; exact Nat.le_of_ble_eq_true rfl):PE X (.List es pos) (tXl X.K G (fun ρ=>C ρ /\ areI (gs ρ)) fun ρ=>allI (gs ρ)) :=
  toXl (pe_lst h) fun B σ H ρ O Q R c q=>⟨B,ρ,O,R,c.1,fun vs H1 s1 a1=>⟨by rw [<- a1.length]; exact Nat.le_of_lt (small1000 (hz ρ)),fun a ha=>by
    have e:=a1.ints c.2
    refine q a _ (s1.trans (same_new ha _)) (s1.free ha) ?_
    rw [upd_same,e]⟩⟩
theorem zUK {gs:En -> List PV} (h:PA X es (tXs X.K G C gs)) (hz:∀ ρ,(gs ρ).length <= 1000:=by intro _; exact Nat.le_of_ble_eq_true rfl):PE X (.List es pos) (tXp X.K G C gs) :=
  fun pins s σ H Q I ⟨B,ρ,O,R,c,q⟩=>pe_lst h pins s σ H Q I ⟨B,ρ,O,R,c,fun vs H1 s1 a1=>⟨by rw [<- a1.length]; exact Nat.le_of_lt (small1000 (hz ρ)),fun a ha =>
    q a vs _ (s1.trans (same_new ha _)) (s1.free ha) upd_same (AtL.mono (yVQ (same_new ha _) ha) _ _ a1)⟩⟩
theorem zQK {gs:En -> List PV} {x1} (h:PA X es (tXs X.K G C gs)) (hz:∀ ρ,(gs ρ).length <= 1000:=by intro _; exact Nat.le_of_ble_eq_true rfl):PE X (.Tuple es x1 pos) (tX X.K G C fun ρ=>.tup (gs ρ)) :=
  toX (pe_tup h) fun B σ H ρ O Q R c q=>⟨B,ρ,O,R,c,fun vs H1 s1 a1=>⟨by rw [<- a1.length]; exact Nat.le_of_lt (small1000 (hz ρ)),fun a ha=>by
    have o:O a=false:=by
      cases z:O a with
      | false=>rfl
      | true=>exact absurd (s1.free ha) (R.dom a z)
    refine q (.ref a) _ (s1.trans (same_new ha _)) ⟨a,vs,rfl,by rw [yU5 o]; exact upd_same,AtL.mono (yY9 (same_new ha _)) _ _ a1⟩⟩⟩
theorem yH8 {g:En -> PV} {ns:En -> List Int} (hm:X.mg "list"=none) (ha:PE X a (tX X.K G C g)) (hn:∀ ρ,g ρ=.ints (ns ρ) \/ g ρ=.scr (ns ρ)) (hg:Gl X "list":=by rfl) (he:starEach [a] X.env=[(false,eval a X.env)]:=by rfl) :
    PE X (.Call (.Name "list" p) [a] [] pos) (tXl X.K G C ns) :=
  toXl (pe_callTy call_list_of hg hm qUH (pa_cons ha pa_nil he) (by decide) (by decide) he rfl) fun B σ H ρ O Q R c q=>⟨B,ρ,O,R,c,fun v H1 s1 a1=>by
    have key:∃ p,v=.ref p /\ SqL X.K H1 p ((ns ρ).map V.int):=by
      rcases hn ρ with z | z
      . rw [z] at a1; obtain ⟨p,e,r⟩:=a1; exact ⟨p,e,.inl (yQZ yZV r)⟩
      . rw [z] at a1; obtain ⟨p,e,r⟩:=a1; exact ⟨p,e,yZV.seq r⟩
    obtain ⟨p,rfl,r⟩:=key
    exact ⟨p,_,rfl,.inl r,fun l hl=>q l _ (s1.trans (same_new hl _)) (s1.free hl) upd_same⟩⟩
def cutI (xs:List Int) (lo hi:Option Int):List Int:=(xs.drop (HT.sIx xs.length 0 lo)).take (HT.sIx xs.length xs.length hi - HT.sIx xs.length 0 lo)
theorem qW2 (xs:List Int) (lo hi:Option Int):cutV (xs.map V.int) lo hi=(cutI xs lo hi).map V.int:=by
  unfold cutV cutI
  rw [List.length_map,<- List.map_drop,<- List.map_take]
def tXo (K:PySem.W.Frag) (G:Gx) (C:En -> Prop) (g:En -> Option Int):TO:=fun σ H Q=>∃ B ρ O,Rep K G B σ H ρ O /\ C ρ /\ ∀ H',Same H H' -> Q (g ρ) H'
theorem yVJ:PO X none (tXo X.K G (fun _=>True) fun _=>none):=fun pins s σ H Q I ⟨_,_,_,_,_,q⟩=>po_none pins s σ H Q I (q H (Same.refl H))
theorem yJX (h:PE X e (tXI X.K G C ga)):PO X (some e) (tXo X.K G C fun ρ=>some (ga ρ)):=fun pins s σ H Q I ⟨B,ρ,O,R,c,q⟩=>po_some h pins s σ H Q I ⟨B,ρ,O,R,c,fun _ H1 s1 a1=>⟨_,a1,q H1 s1⟩⟩
theorem yV6 {lo hi:Option Expr} {p2:Pos} {g:En -> PV} {ns:En -> List Int} {Cl Ch:En -> Prop} {gl gh:En -> Option Int} (ha:PE X a (tX X.K G C g)) (hl:PO X lo (tXo X.K G Cl gl)) (hh:PO X hi (tXo X.K G Ch gh)) (hn:∀ ρ,C ρ -> g ρ=.ints (ns ρ) \/ g ρ=.scr (ns ρ)) :
    PE X (.Subscript a (.Slice lo hi none p2) pos) (tXl X.K G (fun ρ=>C ρ /\ Cl ρ /\ Ch ρ) fun ρ=>cutI (ns ρ) (gl ρ) (gh ρ)) :=
  toXl (pe_slice sl_list ha hl hh) fun B σ H ρ O Q R c q=>⟨B,ρ,O,R,c.1,fun v H1 s1 a1=>⟨B,ρ,O,R.grow s1,c.2.1,fun H2 s2=>⟨B,ρ,O,(R.grow s1).grow s2,c.2.2,fun H3 s3=>by
    have key:∃ p,v=.ref p /\ SqL X.K H1 p ((ns ρ).map V.int):=by
      rcases hn ρ c.1 with z | z
      . rw [z] at a1; obtain ⟨p,e,r⟩:=a1; exact ⟨p,e,.inl (yQZ yZV r)⟩
      . rw [z] at a1; obtain ⟨p,e,r⟩:=a1; exact ⟨p,e,yZV.seq r⟩
    obtain ⟨p,rfl,r⟩:=key
    refine ⟨p,_,rfl,(s2.trans s3).seq r,fun l hl=>q l _ (((s1.trans s2).trans s3).trans (same_new hl _)) (((s1.trans s2).trans s3).free hl) ?_⟩
    rw [upd_same,qW2]⟩⟩⟩
theorem Inv.lstR {X:Cx} {pins:List (Addr × Obj)} {σ:L2.St} {H:Hp} {s:Shared} {l:Addr} {xs:List V} (I:Inv X pins σ H s) (hH:Rd H l (.lst xs)):xs.length <= sizeLine /\ ∃ (its:List Value) (n:Nat),Vals xs its /\ xs.length=its.length /\ s.heap.get? l=some { cls:=.type "list",data:=.seq its.toArray n }:=by
  obtain ⟨z,its,n,r,e⟩:=hH.ok I.hok
  exact ⟨z,its,n,r,r.length,e⟩
def rCatR:R2:=fun x y H Q=>∃ l b xs zs,x=.ref l /\ y=.ref b /\ Rd H l (.lst xs) /\ Rd H b (.lst zs) /\ xs.length + zs.length <= sizeLine /\ ∀ p,H p=none -> Q (.ref p) (upd H p (.lst (xs ++ zs)))
theorem qQK:OpR X (binaryOp .Add) rCatR:=by
  intro pins s σ H x y v u Q I rx ry h
  obtain ⟨l,b,xs,zs,rfl,rfl,hH,hB,hz,q⟩:=h
  cases rx
  cases ry
  obtain ⟨z,its,n,r,hl,e⟩:=Inv.lstR I hH
  obtain ⟨z2,its2,n2,r2,hl2,e2⟩:=Inv.lstR I hB
  refine PySem.P.add_list e e2 ?_ (by rw [List.size_toArray,List.size_toArray]; omega)
  have ea:its.toArray ++ its2.toArray=(its ++ its2).toArray:=by simp
  rw [ea]
  exact ⟨.ref _,_,I.lnew (t':=s.toks) (r.append r2) (by rw [List.length_append]; omega),rfl,q _ I.fresh⟩
theorem zQU {gl hl:En -> List Int} (ha:PE X a (tXL X.K G Ca gl)) (hb:PE X b (tXL X.K G Cb hl)):PE X (.BinOp a .Add b pos) (tXl X.K G (fun ρ=>Ca ρ /\ Cb ρ /\ (gl ρ).length + (hl ρ).length <= sizeLine) fun ρ=>gl ρ ++ hl ρ) :=
  toXl (pe_op qQK ha hb) fun B σ H ρ O Q R c q=>two R c.1 c.2.1 fun v u H1 H2 s1 s2 a1 a2=>by
    obtain ⟨l,rfl,r1⟩:=a1
    obtain ⟨b,rfl,r2⟩:=a2
    refine ⟨l,b,_,_,rfl,rfl,yQZ yZV r1,yQZ yZV r2,by rw [List.length_map,List.length_map]; exact c.2.2,fun p hp=>q p _ ((s1.trans s2).trans (same_new hp _)) ((s1.trans s2).free hp) ?_⟩
    rw [upd_same,List.map_append]
theorem zUU {α:Type} (x:α):∀ k:Nat,(List.replicate k [x]).flatten=List.replicate k x
  | 0=>rfl
  | k + 1=>by rw [List.replicate_succ,List.flatten_cons,zUU x k]; rfl
theorem zQ6 {gl:En -> List Int} {n:En -> Int} (ha:PE X a (tXl X.K G Ca gl)) (hb:PE X b (tXI X.K G Cb gb)) (hn:∀ ρ,gl ρ=[n ρ]):PE X (.BinOp a .Mult b pos) (tXl X.K G (fun ρ=>Ca ρ /\ Cb ρ /\ -(2 ^ 63) <= gb ρ /\ (gb ρ).toNat <= 1000) fun ρ=>List.replicate (gb ρ).toNat (n ρ)) :=
  toXl (pe_op op_rep ha hb) fun B σ H ρ O Q R c q=>⟨B,ρ,O,R,c.1,fun l H1 s1 n1 e1=>⟨B,ρ,O,R.grow s1,c.2.1,fun u H2 s2 a2=>by
    rw [hn ρ] at e1
    refine ⟨l,_,_,rfl,a2,s2 _ _ e1,c.2.2.1,by have:=c.2.2.2; omega,?_,fun p hp=>q p _ ((s1.trans s2).trans (same_new hp _)) ((s1.trans s2).free hp) ?_⟩
    . rw [List.map_cons,List.map_nil,List.length_singleton,Nat.one_mul]
      exact Nat.le_of_lt (small1000 c.2.2.2)
    . rw [upd_same,List.map_cons,List.map_nil,zUU,List.map_replicate]⟩⟩
end
def spF (K:PySem.W.Frag) (G:Gx) (pre:List PV -> Prop) (F:List PV -> PV):Sp:=fun vs H Q _=>∃ as O,(∀ a,O a=true -> H a ≠ none) /\ AtL K G (mn H O) as vs /\ pre as /\ ∀ v H',Same H H' -> At K G (mn H' O) (F as) v -> Q v H'
def spL (K:PySem.W.Frag) (G:Gx) (pre:List PV -> Prop) (F:List PV -> List Int):Sp:=fun vs H Q _=>∃ as O,(∀ a,O a=true -> H a ≠ none) /\ AtL K G (mn H O) as vs /\ pre as /\ ∀ a H',Same H H' -> H a=none -> H' a=some (.lst ((F as).map V.int)) -> Q (.ref a) H'
section
variable {X:Cx} {G:Gx} {Er:ER} {e:Expr} {es:List Expr} {pos p:Pos} {j k:Nat} {x:Str} {ps:List Str} {pre:List PV -> Prop} {C:En -> Prop} {gs:En -> List PV}
theorem xc {F:List PV -> PV} (o:Ok X.prog X.w X.K X.mg X.base j x ps (spF X.K G pre F)) (hr:Room k X.A) (ha:PA X (e :: es) (tXs X.K G C gs)) (hj:j <= k:=by decide) (hg:Gl X x:=by rfl) (hdb:(x == ("__debug__":Str))=false:=by decide)
    (he:starEach (e :: es) X.env=(false,eval e X.env) :: starEach es X.env:=by rfl) (hpl:(backTo pos (starEach es X.env)).any (·.1)=false:=by rfl) :
    PE X (.Call (.Name x p) (e :: es) [] pos) (tX X.K G (fun ρ=>C ρ /\ pre (gs ρ)) fun ρ=>F (gs ρ)) :=
  toX (yUV o hr ha hj hg hdb he hpl) fun B σ H ρ O Q R c q=>⟨B,ρ,O,R,c.1,fun vs H1 s1 a1=>by
    dsimp only
    rw [List.append_nil]
    exact ⟨gs ρ,O,(R.grow s1).dom,a1,c.2,fun v H2 s2 a2=>q v H2 (s1.trans s2) a2⟩⟩
theorem xcl {F:List PV -> List Int} (o:Ok X.prog X.w X.K X.mg X.base j x ps (spL X.K G pre F)) (hr:Room k X.A) (ha:PA X (e :: es) (tXs X.K G C gs)) (hj:j <= k:=by decide) (hg:Gl X x:=by rfl) (hdb:(x == ("__debug__":Str))=false:=by decide)
    (he:starEach (e :: es) X.env=(false,eval e X.env) :: starEach es X.env:=by rfl) (hpl:(backTo pos (starEach es X.env)).any (·.1)=false:=by rfl) :
    PE X (.Call (.Name x p) (e :: es) [] pos) (tXl X.K G (fun ρ=>C ρ /\ pre (gs ρ)) fun ρ=>F (gs ρ)) :=
  toXl (yUV o hr ha hj hg hdb he hpl) fun B σ H ρ O Q R c q=>⟨B,ρ,O,R,c.1,fun vs H1 s1 a1=>by
    dsimp only
    rw [List.append_nil]
    exact ⟨gs ρ,O,(R.grow s1).dom,a1,c.2,fun a H2 s2 n2 e2=>q a H2 (s1.trans s2) (s1.free n2) e2⟩⟩
end
def startR (N:List Str) (as:List PV):En:=as.map Sl.fr ++ List.replicate (N.length - as.length) .un
theorem yH4 {K:PySem.W.Frag} {G:Gx} {H:Hp} {O:Addr -> Bool} {as:List PV} {vs:List V} {N:List Str} (hd:∀ a,O a=true -> H a ≠ none) (h:AtL K G (mn H O) as vs):Rep K G ⟨H,O⟩ (L2.start N vs) H (startR N as) O:=by
  have hl:=h.length
  refine ⟨Same.refl H,hd,fun _ z=>z,hd,fun _ z=>.inl z,fun i p e=>?_,fun i p e=>?_,fun i j p q a e=>?_,by unfold L2.start startR; simp [hl],fun i xs ys e=>?_⟩
  . unfold startR at e
    by_cases c:i < as.length
    . rw [List.getElem?_append_left (by rw [List.length_map]; exact c),List.getElem?_map] at e
      cases e':as[i]? with
      | none=>rw [e'] at e; cases e
      | some p' =>
        rw [e'] at e
        cases e
        obtain ⟨v,ev,av⟩:=h.at e'
        refine ⟨v,?_,av⟩
        unfold L2.start
        rw [List.getElem?_append_left (by rw [List.length_map,<- hl]; exact c),List.getElem?_map,ev]
        rfl
    . rw [List.getElem?_append_right (by rw [List.length_map]; omega),List.getElem?_replicate] at e
      split at e <;> cases e
  . exfalso
    unfold startR at e
    by_cases c:i < as.length
    . rw [List.getElem?_append_left (by rw [List.length_map]; exact c),List.getElem?_map] at e
      cases e':as[i]? <;> rw [e'] at e <;> cases e
    . rw [List.getElem?_append_right (by rw [List.length_map]; omega),List.getElem?_replicate] at e
      split at e <;> cases e
  . exfalso
    unfold startR at e
    by_cases c:i < as.length
    . rw [List.getElem?_append_left (by rw [List.length_map]; exact c),List.getElem?_map] at e
      cases e':as[i]? <;> rw [e'] at e <;> cases e
    . rw [List.getElem?_append_right (by rw [List.length_map]; omega),List.getElem?_replicate] at e
      split at e <;> cases e
  . exfalso
    unfold startR at e
    by_cases c:i < as.length
    . rw [List.getElem?_append_left (by rw [List.length_map]; exact c),List.getElem?_map] at e
      cases e':as[i]? <;> rw [e'] at e <;> cases e
    . rw [List.getElem?_append_right (by rw [List.length_map]; omega),List.getElem?_replicate] at e
      split at e <;> cases e
section
variable {P:Program} {w:World} {K:PySem.W.Frag} {mg:Str -> Option Value} {base:Heap} {G:Gx}
theorem okF {x:Str} {st:Stmt} {N ps:List Str} {k:Nat} {pre:List PV -> Prop} {F:List PV -> PV} (d:Def K mg x st ps) (S:FnScope N ps (defScope st)) (len:∀ as,pre as -> as.length=ps.length)
    (hbody:∀ (f:Addr) (cdv:Value) (A:Around) (outer:List Env) (s:Shared) (H:Hp) (E:XK),Room k (A.deeper (envOfC x (defScope st) s.heap.objs.size f cdv)) ->
      ∃ fs,PSs (cxOf CX0 P w K mg base N x (defScope st) f cdv A outer s H E).nox (defBody st) (ts K G ER0 fs) /\ ∀ as,pre as -> fs { nx:=fun _=>F as=.non,rt:=fun p=>p=F as,rl:=fun ns=>F as=.ints ns } (startR N as)):Ok P w K mg base (k + 1) x ps (spF K G pre F):=by
  refine Def.ok d S (fun vs H Q E h=>?_) fun f cdv A outer s H vs Q E hr h=>?_
  . obtain ⟨as,O,_,al,hp,_⟩:=h
    rw [<- al.length]; exact len as hp
  obtain ⟨as,O,hd,al,hp,q⟩:=h
  obtain ⟨fs,b,c⟩:=hbody f cdv A outer s H E hr
  refine ⟨_,b,⟨H,O⟩,startR N as,_,⟨O,yH4 hd al⟩,c as hp,⟨fun σ' H' ρ' R' h=>?_,fun v H' p s' a' h=>?_,fun a H' ns s' n e h=>?_,fun _ _ _ _ _ h=>h.elim,fun _ _ _ _ h=>h,fun _ _ _ _ h=>h,fun _ _ _ h=>h⟩⟩
  . obtain ⟨O',R'⟩:=R'
    exact q .non H' R'.same (by rw [show F as=.non from h]; rfl)
  . have h:p=F as:=h
    subst h
    exact q v H' s' a'
  . have h:F as=.ints ns:=h
    refine q _ H' s' ?_
    rw [h]
    exact ⟨a,rfl,.inl (by
      rw [yU5]
      . exact e
      . cases z:O a with
        | false=>rfl
        | true=>exact absurd n (hd a z))⟩
theorem okL {x:Str} {st:Stmt} {N ps:List Str} {k:Nat} {pre:List PV -> Prop} {F:List PV -> List Int} (d:Def K mg x st ps) (S:FnScope N ps (defScope st)) (len:∀ as,pre as -> as.length=ps.length)
    (hbody:∀ (f:Addr) (cdv:Value) (A:Around) (outer:List Env) (s:Shared) (H:Hp) (E:XK),Room k (A.deeper (envOfC x (defScope st) s.heap.objs.size f cdv)) ->
      ∃ fs,PSs (cxOf CX0 P w K mg base N x (defScope st) f cdv A outer s H E).nox (defBody st) (ts K G ER0 fs) /\ ∀ as,pre as -> fs { nx:=fun _=>False,rt:=fun _=>False,rl:=fun ns=>ns=F as } (startR N as)):Ok P w K mg base (k + 1) x ps (spL K G pre F):=by
  refine Def.ok d S (fun vs H Q E h=>?_) fun f cdv A outer s H vs Q E hr h=>?_
  . obtain ⟨as,O,_,al,hp,_⟩:=h
    rw [<- al.length]; exact len as hp
  obtain ⟨as,O,hd,al,hp,q⟩:=h
  obtain ⟨fs,b,c⟩:=hbody f cdv A outer s H E hr
  refine ⟨_,b,⟨H,O⟩,startR N as,_,⟨O,yH4 hd al⟩,c as hp,⟨fun _ _ _ _ h=>h.elim,fun _ _ _ _ _ h=>h.elim,fun a H' ns s' n e h=>?_,fun _ _ _ _ _ h=>h.elim,fun _ _ _ _ h=>h,fun _ _ _ _ h=>h,fun _ _ _ h=>h⟩⟩
  have h:ns=F as:=h
  subst h
  exact q a H' s' n e
end
def spM (pre:List Int -> Prop) (F:List Int -> List Int):Sp:=fun vs H Q _=>∃ a ns,vs=[.ref a] /\ H a=some (.lst (ns.map V.int)) /\ pre ns /\ ∀ H',(∀ b o,b ≠ a -> H b=some o -> H' b=some o) -> H' a=some (.lst ((F ns).map V.int)) -> Q .non H'
theorem jJW {H H':Hp} {a:Addr} {o:HO} (h:∀ b o,b ≠ a -> H b=some o -> H' b=some o) (e:H' a=some o):Same (upd H a o) H':=fun b u z=>by
  by_cases c:b=a
  . subst c; rw [upd_same] at z; cases z; exact e
  . rw [upd_ne c] at z; exact h b u c z
section
variable {X:Cx} {G:Gx} {Er:ER} {e b:Expr} {pos px pa pc:Pos} {i j k:Nat} {x y:Str} {C Cb:En -> Prop} {g gb:En -> Int}
theorem zY7 (i:Nat) {x:Str} (he:PE X e (tXI X.K G C g)) (hN:X.N[i]?=some x:=by rfl) (hv:Vis X.env.scope x:=by first | exact Or.inl rfl | exact Or.inr (Or.inl rfl) | exact Or.inr (Or.inr rfl))
    (hd:(x == ("__debug__":Str))=false:=by decide) (hcd:(x == ("__classdict__":Str))=false:=by decide)
    (hbase:attributeBase (.Name x px) "append" X.env (eval (.Name x px) X.env)=eval (.Name x px) X.env:=by rfl)
    (hfew:((backTo pc (starEach (e :: []) X.env)).all (fun x=>!x.1) && (backToKw pc (keywordEach [] X.env)).all (fun x=>x.1.isSome)
      && decide ((e :: []).length + ([]:List Keyword).length + (if ([]:List Keyword).isEmpty then 0 else 1) < 30))=true:=by rfl)
    (hline:(pa.endLine == pc.line)=true:=by rfl) (hs:starEach (e :: []) X.env=(false,eval e X.env) :: starEach [] X.env:=by rfl) (hplain:(backTo pc (starEach [] X.env)).any (·.1)=false:=by rfl)
    (hsw:swapsWith (.Call (.Attribute (.Name x px) "append" pa) [e] [] pc) none pos.line X.env=pure false:=by rfl) :
    PS X (.Expr (.Call (.Attribute (.Name x px) "append" pa) [e] [] pc) pos) (ts X.K G Er fun P ρ=>isO ρ i /\ C ρ /\ (getL ρ i).length < sizeLine /\ P.nx (ρ.set i (.ow (.ints (getL ρ i ++ [g ρ]))))) :=
  toS (ps_expr (pe_bm PySem.F.plainAttrs_list PySem.F.slot_list_append PySem.F.type_list_append mt_append (pe_var hN hv hd hcd) (pa_cons he pa_nil hs) hbase hfew hline hs hplain) hsw) fun B σ H ρ O P D R c w=>by
    obtain ⟨c0,c1,c2,c3⟩:=c
    obtain ⟨a,vs,e1,e2,e3,e4,e5⟩:=R.ow i _ c0
    have e5:vs=(getL ρ i).map V.int:=e5
    subst e5
    refine ⟨_,e1,.inl ⟨rfl,_,SqL.of e4⟩,B,ρ,O,R,c1,fun v H1 s1 a1=>?_⟩
    have a1:v=.int (g ρ):=a1
    subst a1
    refine ⟨a,_,_,rfl,rfl,s1 _ _ e4,by rw [List.length_map]; exact c2,w.nx σ _ _ ⟨O,(R.grow s1).change c0 e1 (p':=.ints (getL ρ i ++ [g ρ])) ?_⟩ c3⟩
    show _=(getL ρ i ++ [g ρ]).map V.int
    rw [List.map_append]
    rfl
theorem jZH (i:Nat) {x:Str} (hN:X.N[i]?=some x:=by rfl) (hv:Vis X.env.scope x:=by first | exact Or.inl rfl | exact Or.inr (Or.inl rfl) | exact Or.inr (Or.inr rfl))
    (hd:(x == ("__debug__":Str))=false:=by decide) (hcd:(x == ("__classdict__":Str))=false:=by decide)
    (hbase:attributeBase (.Name x px) "pop" X.env (eval (.Name x px) X.env)=eval (.Name x px) X.env:=by rfl) (hline:(pa.endLine == pc.line)=true:=by rfl)
    (hsw:swapsWith (.Call (.Attribute (.Name x px) "pop" pa) [] [] pc) none pos.line X.env=pure false:=by rfl) :
    PS X (.Expr (.Call (.Attribute (.Name x px) "pop" pa) [] [] pc) pos) (ts X.K G Er fun P ρ=>isO ρ i /\ getL ρ i ≠ [] /\ P.nx (ρ.set i (.ow (.ints (getL ρ i).dropLast)))) :=
  toS (ps_expr (pe_bm0 PySem.F.plainAttrs_list PySem.F.slot_list_pop PySem.F.type_list_pop mt_pop (pe_var hN hv hd hcd) hbase hline) hsw) fun B σ H ρ O P D R c w=>by
    obtain ⟨c0,c1,c3⟩:=c
    obtain ⟨a,vs,e1,e2,e3,e4,e5⟩:=R.ow i _ c0
    have e5:vs=(getL ρ i).map V.int:=e5
    subst e5
    have hl:0 < (getL ρ i).length:=lP c1
    refine ⟨_,e1,.inl ⟨rfl,_,SqL.of e4⟩,a,_,V.int ((getL ρ i)[(getL ρ i).length - 1]'(by omega)),rfl,rfl,e4,?_,w.nx σ _ _ ⟨O,R.change c0 e1 (p':=.ints (getL ρ i).dropLast) ?_⟩ c3⟩
    . rw [List.length_map,List.getElem?_map,List.getElem?_eq_getElem (by omega)]
      rfl
    . show _=(getL ρ i).dropLast.map V.int
      rw [List.map_dropLast]
theorem yU8 (i:Nat) {x:Str} {ps:Pos} (hk:PE X b (tXI X.K G Cb gb)) (he:PE X e (tXI X.K G C g)) (hN:X.N[i]?=some x:=by rfl) (hv:Vis X.env.scope x:=by first | exact Or.inl rfl | exact Or.inr (Or.inl rfl) | exact Or.inr (Or.inr rfl))
    (hd:(x == ("__debug__":Str))=false:=by decide) (hcd:(x == ("__classdict__":Str))=false:=by decide)
    (ha:∀ v,assign (.Subscript (.Name x px) b ps) X.env v=(do
      let ov <- holding [v] (eval (.Name x px) X.env)
      let iv <- holding [v,ov] (eval b X.env)
      standAt ps
      holding [v,ov,iv] (setItem ov iv v)
      release [v,ov,iv] []):=by intro _; rfl)
    (hs:swapsWithSole [.Subscript (.Name x px) b ps] e pos.line X.env=pure false:=by rfl) (hw:swappedStores [.Subscript (.Name x px) b ps] e X.env=pure none:=by rfl)
    (h1:(assignEach [.Subscript (.Name x px) b ps] X.env).map (·.2)=[assign (.Subscript (.Name x px) b ps) X.env]:=by rfl) :
    PS X (.Assign [.Subscript (.Name x px) b ps] e pos) (ts X.K G Er fun P ρ=>C ρ /\ isO ρ i /\ Cb ρ /\ (-((getL ρ i).length:Int) <= gb ρ /\ gb ρ < ((getL ρ i).length:Int)) /\ P.nx (ρ.set i (.ow (.ints ((getL ρ i).set (ixO (getL ρ i).length (gb ρ)) (g ρ)))))) :=
  toS (ps_asg he (pg_sub (pe_var hN hv hd hcd) hk set_list ha) hs hw h1) fun B σ H ρ O P D R c w=>by
    obtain ⟨c1,c0,c2,cb,c3⟩:=c
    refine ⟨B,ρ,O,R,c1,fun v H1 s1 a1=>?_⟩
    have a1:v=.int (g ρ):=a1
    subst a1
    have R1:=R.grow s1
    obtain ⟨a,vs,e1,e2,e3,e4,e5⟩:=R1.ow i _ c0
    have e5:vs=(getL ρ i).map V.int:=e5
    subst e5
    refine ⟨_,e1,B,ρ,O,R1,c2,fun u H2 s2 a2=>?_⟩
    have a2:u=.int (gb ρ):=a2
    subst a2
    refine ⟨a,_,_,_,rfl,rfl,s2 _ _ e4,by rw [List.length_map]; exact zU9 cb.1 cb.2,w.nx σ _ _ ⟨O,(R1.grow s2).change c0 e1 (p':=.ints _) ?_⟩ c3⟩
    show _=((getL ρ i).set _ _).map V.int
    rw [List.map_set]
theorem qYJ (i:Nat) {x y:Str} {ps:List Str} {pre:List Int -> Prop} {F:List Int -> List Int} (o:Ok X.prog X.w X.K X.mg X.base j y ps (spM pre F)) (hr:Room k X.A) (hj:j <= k:=by decide) (hg:Gl X y:=by rfl)
    (hN:X.N[i]?=some x:=by rfl) (hv:Vis X.env.scope x:=by first | exact Or.inl rfl | exact Or.inr (Or.inl rfl) | exact Or.inr (Or.inr rfl)) (hd:(x == ("__debug__":Str))=false:=by decide) (hcd:(x == ("__classdict__":Str))=false:=by decide)
    (hdb:(y == ("__debug__":Str))=false:=by decide) (he:starEach (.Name x px :: []) X.env=(false,eval (.Name x px) X.env) :: starEach [] X.env:=by rfl) (hpl:(backTo pc (starEach [] X.env)).any (·.1)=false:=by rfl)
    (hsw:swapsWith (.Call (.Name y pa) [.Name x px] [] pc) none pos.line X.env=pure false:=by rfl) :
    PS X (.Expr (.Call (.Name y pa) [.Name x px] [] pc) pos) (ts X.K G Er fun P ρ=>isO ρ i /\ pre (getL ρ i) /\ P.nx (ρ.set i (.ow (.ints (F (getL ρ i)))))) :=
  toS (ps_expr (yUV o hr (pa_cons (pe_var hN hv hd hcd) pa_nil he) hj hg hdb he hpl) hsw) fun B σ H ρ O P D R c w=>by
    obtain ⟨c0,c1,c3⟩:=c
    obtain ⟨a,vs,e1,e2,e3,e4,e5⟩:=R.ow i _ c0
    have e5:vs=(getL ρ i).map V.int:=e5
    subst e5
    exact ⟨_,e1,a,_,rfl,e4,c1,fun H' k1 k2=>w.nx σ H' _ ⟨O,(R.change c0 e1 (p':=.ints _) rfl).grow (jJW k1 k2)⟩ c3⟩
end
def capR (cap:List (Option Nat)) (ρ:En):En:=cap.map fun o=>match o with
  | some i=>(match ρ[i]? with
    | some (.fr p)=>.fr p
    | _=>.un)
  | none=>.un
section
variable {K:PySem.W.Frag} {G:Gx} {B:Bs} {σ:L2.St} {H H1:Hp} {ρ:En} {O:Addr -> Bool} {D:Addr} {cap:List (Option Nat)}
theorem qQ9 (R:Rep K G B σ H1 ρ O) (hD:H1 D=none) (s:Same H1 H) (hn:H D ≠ none):Rep K G ⟨H1,O⟩ (capS cap σ) H (capR cap ρ) (hide D O):=by
  refine ⟨s,R.dom,yWW,fun a z y=>?_,fun a z=>?_,fun j p e=>?_,fun j p e=>?_,fun i j p q a e=>?_,by unfold capS capR; rw [List.length_map,List.length_map],fun j xs ys e=>?_⟩
  . by_cases c:a=D
    . subst c; exact hn y
    . rw [hide_ne c] at z; exact R.dom a z (s.free y)
  . by_cases c:a=D
    . subst c; exact .inr hD
    . rw [hide_ne c] at z; exact .inl z
  . unfold capR at e
    rw [List.getElem?_map] at e
    cases ec:cap[j]? with
    | none=>rw [ec] at e; cases e
    | some o =>
      rw [ec] at e
      cases o with
      | none=>cases e
      | some i =>
        have e:=Option.some.inj e
        dsimp only at e
        split at e
        . rename_i p' er
          cases e
          obtain ⟨v,e1,e2⟩:=R.fr i p er
          refine ⟨v,?_,At.mono (yVQ s hD) _ _ e2⟩
          unfold capS
          rw [List.getElem?_map,ec]
          show some ((σ[i]?).join)=some (some v)
          rw [e1]
          rfl
        . cases e
  . exfalso
    unfold capR at e
    rw [List.getElem?_map] at e
    cases ec:cap[j]? with
    | none=>rw [ec] at e; cases e
    | some o =>
      rw [ec] at e
      cases o with
      | none=>cases e
      | some i =>
        have e:=Option.some.inj e
        dsimp only at e
        split at e <;> cases e
  . exfalso
    unfold capR at e
    rw [List.getElem?_map] at e
    cases ec:cap[i]? with
    | none=>rw [ec] at e; cases e
    | some o =>
      rw [ec] at e
      cases o with
      | none=>cases e
      | some i =>
        have e:=Option.some.inj e
        dsimp only at e
        split at e <;> cases e
  . exfalso
    unfold capR at e
    rw [List.getElem?_map] at e
    cases ec:cap[j]? with
    | none=>rw [ec] at e; cases e
    | some o =>
      rw [ec] at e
      cases o with
      | none=>cases e
      | some i =>
        have e:=Option.some.inj e
        dsimp only at e
        split at e <;> cases e
theorem yX1:∀ σ:L2.St,ExtS σ σ
  | []=>tJ
  | none :: r=>yX1 r
  | some _ :: r=>⟨rfl,yX1 r⟩
variable {α:Type} {J:It} {g:TG} {C:En -> Prop} {gb:En -> PV} {Q:VK}
theorem yWH (items:List α) (setσ:α -> V -> L2.St) (setr:α -> En) (val:α -> V) (R:Rep K G B σ H1 ρ O) (hD:H1 D=none) (hlen:items.length <= 1000) (hgo:∀ i H,i < items.length -> Same H1 H -> J.go i H)
    (hyld:∀ i it x H H',items[i]?=some it -> Same H1 H -> J.yld i H x H' -> Same H H' /\ ∀ k:L2.St -> Hp -> Prop,k (setσ it (val it)) H' -> g x (capS cap σ) H' k) (hstop:∀ H,Same H1 H -> J.stop items.length H)
    (hset:∀ it H,it ∈ items -> Same H1 H -> Rep K G ⟨H1,O⟩ (capS cap σ) H (capR cap ρ) (hide D O) -> Rep K G ⟨H1,O⟩ (setσ it (val it)) H (setr it) (hide D O)) (hext:∀ it,ExtS (capS cap σ) (setσ it (val it))) (hC:∀ it ∈ items,C (setr it))
    (hQ:∀ H' ys,Same H1 H' -> H' D=some (.lst ys) -> AtL K G (mn H' (hide D O)) (items.map fun it=>gb (setr it)) ys -> Q (.ref D) H') :
    ∃ W:Nat -> Nat -> List V -> Hp -> Prop,(∃ m,W 0 m [] (upd H1 D (.lst []))) /\ lcW D J (capS cap σ) g noTest (tX K G C gb) Q W:=by
  refine ⟨fun i m ys H=>m=items.length - i /\ i <= items.length /\ Same H1 H /\ H D=some (.lst ys) /\ AtL K G (mn H (hide D O)) ((items.take i).map fun it=>gb (setr it)) ys,⟨items.length,by simp,Nat.zero_le _,same_new hD _,upd_same,rfl⟩,?_⟩
  rintro i m ys H ⟨rfl,hi,hs,hd,al⟩
  have hl:ys.length=i:=by rw [<- al.length,List.length_map,List.length_take]; omega
  refine ⟨hd,small1000 (by omega),?_⟩
  by_cases hlt:i < items.length
  . refine .inr ⟨hgo i H hlt hs,?_⟩
    intro x H' hy
    have en:items[i]?=some items[i]:=List.getElem?_eq_getElem hlt
    obtain ⟨s1,kk⟩:=hyld i _ x H H' en hs hy
    refine kk _ ⟨hext _,?_⟩
    refine iteT ?_
    have hd':=s1 _ _ hd
    have R2:=hset items[i] H' (List.getElem_mem hlt) (hs.trans s1) (qQ9 R hD (hs.trans s1) (by rw [hd']; exact fun z=>by cases z))
    refine ⟨_,_,_,R2,hC _ (List.getElem_mem hlt),fun v H2 s2 a2=>⟨s2 _ _ hd',items.length - (i + 1),by omega,rfl,hlt,?_,upd_same,?_⟩⟩
    . intro b o z
      rw [upd_ne (ne_of_none z hD)]
      exact s2 _ _ (s1 _ _ (hs b o z))
    . rw [qY4 hide_self,jQK en,List.map_append]
      exact AtL.snoc (AtL.mono (yY9 (s1.trans s2)) _ _ al) a2
  . have e:i=items.length:=by omega
    subst e
    refine .inl ⟨hstop H hs,hQ H ys hs hd ?_⟩
    rw [List.take_length] at al
    exact al
theorem zYQ {gi:α -> Int}:∀ {l:List α} {ys:List V},AtL K G H (l.map fun x=>.int (gi x)) ys -> ys=(l.map gi).map V.int
  | [],_,h=>h
  | x :: r,_,h=>by
    obtain ⟨v,t,rfl,e,q⟩:=h
    have e:v=.int (gi x):=e
    rw [e,zYQ q]
    rfl
end
section
variable {K:PySem.W.Frag} {G:Gx} {σ:L2.St} {H:Hp} {Q:VK} {Cs Cb:En -> Prop} {gs:En -> List Int} {gi:En -> Int} {gp:En -> PV} {cap:List (Option Nat)}
theorem lc_L (h:tXp K G (fun ρ=>Cs ρ /\ (gs ρ).length <= 1000 /\ ∀ n ∈ gs ρ,Cb ((capR (none :: cap) ρ).set 0 (.fr (.int n)))) (fun ρ=>(gs ρ).map fun n=>gp ((capR (none :: cap) ρ).set 0 (.fr (.int n)))) σ H Q) :
    tLC (none :: cap) (iList K (tXL K G Cs gs)) (gName 0) noTest (tX K G Cb gp) σ H Q:=by
  obtain ⟨B,ρ,O,R,⟨c1,c2,c3⟩,q⟩:=h
  refine ⟨B,ρ,O,R,c1,fun v H1 s1 a1=>?_⟩
  obtain ⟨a,rfl,hq⟩:=a1
  have hq1:SqL K H1 a ((gs ρ).map V.int):=.inl (yQZ yZV hq)
  refine ⟨a,rfl,⟨_,hq1⟩,fun D hD=>?_⟩
  refine yWH (gs ρ) (fun _ v=>(capS (none :: cap) σ).set 0 (some v)) (fun n=>(capR (none :: cap) ρ).set 0 (.fr (.int n))) V.int (R.grow s1) hD c2 (fun i H hi s=>⟨_,.int (gs ρ)[i],s.seq hq1,by simp [hi]⟩) ?_ (fun H s=>⟨_,s.seq hq1,by simp⟩) (fun n H _ s R'=>R'.set (p:=.int n) rfl) ?_ c3 ?_
  . rintro i n x H H' en s ⟨rfl,hx⟩
    obtain ⟨n',rfl,hn⟩:=int_at (hx _ (s.seq hq1))
    rw [hn] at en
    cases en
    exact ⟨Same.refl _,fun k hk=>hk⟩
  . intro n
    show ExtS (none :: capS cap σ) (some (.int n) :: capS cap σ)
    exact yX1 _
  . intro H' ys s hd al
    exact q D ys H' (s1.trans s) (s1.free hD) hd al
theorem lc_E (h:tXp K G (fun ρ=>Cs ρ /\ (gs ρ).length <= 1000 /\ ∀ k:Nat,∀ n,(gs ρ)[k]?=some n -> Cb (((capR (none :: none :: cap) ρ).set 0 (.fr (.int k))).set 1 (.fr (.int n)))) (fun ρ=>(gs ρ).mapIdx fun k n=>gp (((capR (none :: none :: cap) ρ).set 0 (.fr (.int k))).set 1 (.fr (.int n)))) σ H Q) :
    tLC (none :: none :: cap) (iEnum K (tCons (tXL K G Cs gs) tNil)) (gTup K 2 (gCons (gName 0) (gCons (gName 1) gNil))) noTest (tX K G Cb gp) σ H Q:=by
  obtain ⟨B,ρ,O,R,⟨c1,c2,c3⟩,q⟩:=h
  refine ⟨B,ρ,O,R,c1,fun v H1 s1 a1=>?_⟩
  obtain ⟨a,rfl,hq⟩:=a1
  have hq1:SqL K H1 a ((gs ρ).map V.int):=.inl (yQZ yZV hq)
  refine ⟨a,rfl,⟨_,hq1⟩,fun D hD=>?_⟩
  have hz:((gs ρ).zipIdx).length=(gs ρ).length:=List.length_zipIdx
  refine yWH ((gs ρ).zipIdx) (fun p _=>((capS (none :: none :: cap) σ).set 0 (some (.int p.2))).set 1 (some (.int p.1))) (fun p=>((capR (none :: none :: cap) ρ).set 0 (.fr (.int p.2))).set 1 (.fr (.int p.1))) (fun p=>.int p.1) (R.grow s1) hD (by rw [hz]; exact c2)
    (fun i H hi s=>⟨_,.int ((gs ρ)[i]'(by rw [hz] at hi; exact hi)),s.seq hq1,by rw [hz] at hi; simp [hi]⟩) ?_ (fun H s=>⟨_,s.seq hq1,by simp⟩) (fun p H _ s R'=>(R'.set (p:=.int p.2) rfl).set (p:=.int p.1) rfl) ?_ ?_ ?_
  . rintro i ⟨n,k⟩ x H H' en s ⟨T,y,rfl,hT,rfl,hx⟩
    obtain ⟨n',rfl,hn⟩:=int_at (hx _ (s.seq hq1))
    rw [List.getElem?_zipIdx,hn] at en
    have en:(n',0 + i)=(n,k):=Option.some.inj en
    cases en
    refine ⟨same_new hT _,fun kk hk=>⟨T,_,rfl,SqT.of upd_same,rfl,_,_,rfl,_,_,rfl,rfl,?_⟩⟩
    rw [Nat.zero_add] at hk
    exact hk
  . rintro ⟨n,k⟩
    show ExtS (none :: none :: capS cap σ) (some (.int k) :: some (.int n) :: capS cap σ)
    exact yX1 _
  . rintro ⟨n,k⟩ hm
    have:=List.mem_zipIdx_iff_getElem?.mp hm
    exact c3 k n this
  . intro H' ys s hd al
    refine q D ys H' (s1.trans s) (s1.free hD) hd ?_
    have e:((gs ρ).mapIdx fun k n=>gp (((capR (none :: none :: cap) ρ).set 0 (.fr (.int k))).set 1 (.fr (.int n))))=(gs ρ).zipIdx.map fun p=>gp (((capR (none :: none :: cap) ρ).set 0 (.fr (.int p.2))).set 1 (.fr (.int p.1))):=by
      rw [List.mapIdx_eq_zipIdx_map]
    dsimp only
    rw [e]
    exact al
theorem lc_R {gn:En -> Int} (h:tXp K G (fun ρ=>Cs ρ /\ (0 <= gn ρ /\ gn ρ <= 1000) /\ ∀ k:Nat,k < (gn ρ).toNat -> Cb ((capR (none :: cap) ρ).set 0 (.fr (.int k)))) (fun ρ=>(List.range (gn ρ).toNat).map fun (k:Nat)=>gp ((capR (none :: cap) ρ).set 0 (.fr (.int k)))) σ H Q) :
    tLC (none :: cap) (iRng1 (tCons (tXI K G Cs gn) tNil)) (gName 0) noTest (tX K G Cb gp) σ H Q:=by
  obtain ⟨B,ρ,O,R,⟨c1,c2,c3⟩,q⟩:=h
  refine ⟨B,ρ,O,R,c1,fun v H1 s1 a1=>?_⟩
  have a1:v=.int (gn ρ):=a1
  subst a1
  have hz:(List.range (gn ρ).toNat).length=(gn ρ).toNat:=List.length_range
  refine ⟨gn ρ,rfl,by omega,by omega,fun D hD=>?_⟩
  refine yWH (List.range (gn ρ).toNat) (fun _ v=>(capS (none :: cap) σ).set 0 (some v)) (fun (k:Nat)=>(capR (none :: cap) ρ).set 0 (.fr (.int k))) (fun (k:Nat)=>.int k) (R.grow s1) hD (by rw [hz]; omega) (fun i H hi s=>by rw [hz] at hi; exact hi) ?_ (fun H s=>by rw [hz]; exact Nat.le_refl _) (fun k H _ s R'=>R'.set (p:=.int k) rfl) ?_ ?_ ?_
  . rintro i k x H H' en s ⟨rfl,rfl⟩
    have hlt:i < (gn ρ).toNat:=by
      have:=(List.getElem?_eq_some_iff.mp en).1
      rw [hz] at this
      exact this
    rw [List.getElem?_range hlt] at en
    cases en
    refine ⟨Same.refl _,fun kk hk=>?_⟩
    have e:(0:Int) + (i:Nat)=i:=by omega
    show kk ((capS (none :: cap) σ).set 0 (some (.int (0 + (i:Nat))))) H'
    rw [e]
    exact hk
  . intro k
    show ExtS (none :: capS cap σ) (some (.int k) :: capS cap σ)
    exact yX1 _
  . intro k hk
    exact c3 k (List.mem_range.mp hk)
  . intro H' ys s hd al
    exact q D ys H' (s1.trans s) (s1.free hD) hd al
theorem zY5 {C:En -> Prop} {α:Type} {src:En -> List α} {gi:En -> α -> Int} (h:tXl K G C (fun ρ=>(src ρ).map (gi ρ)) σ H Q):tXp K G C (fun ρ=>(src ρ).map fun x=>.int (gi ρ x)) σ H Q:=by
  obtain ⟨B,ρ,O,R,c,q⟩:=h
  refine ⟨B,ρ,O,R,c,fun a vs H' s n e al=>q a H' s n ?_⟩
  rw [e,zYQ al]
theorem jQ6 {C:En -> Prop} {src:En -> List Int} {gi:En -> Nat -> Int -> Int} (h:tXl K G C (fun ρ=>(src ρ).mapIdx (gi ρ)) σ H Q):tXp K G C (fun ρ=>(src ρ).mapIdx fun k x=>.int (gi ρ k x)) σ H Q:=by
  obtain ⟨B,ρ,O,R,c,q⟩:=h
  refine ⟨B,ρ,O,R,c,fun a vs H' s n e al=>q a H' s n ?_⟩
  dsimp only at al ⊢
  rw [List.mapIdx_eq_zipIdx_map] at al
  rw [e,zYQ (gi:=fun p:Int × Nat=>gi ρ p.2 p.1) al,List.mapIdx_eq_zipIdx_map]
end
section
variable {X:Cx} {G:Gx} {Er:ER} {N':List Str} {sc:Scope} {cl:List (Str × Addr)} {cap:List (Option Nat)} {el tg src:Expr} {at' spos px:Pos} {Cs Cb:En -> Prop} {gs:En -> List Int} {gn gi:En -> Int} {gp:En -> PV} {i:Nat} {x:Str}
theorem zKK (L:LcOk X N' sc cl (none :: cap)) (hc:X.calm=true) (hi:PE X src (tXL X.K G Cs gs)) (hg:∀ s H fp,PG (cxComp X N' sc cl s H fp) tg (gName 0)) (he:∀ s H fp,PE (cxComp X N' sc cl s H fp) el (tXI X.K G Cb gi)) (hs:∀ x,foldedSetIterable src X.env x=pure x:=by intro _; rfl) :
    PE X (.ListComp el [⟨tg,src,[],0⟩] sc at') (tXl X.K G (fun ρ=>Cs ρ /\ (gs ρ).length <= 1000 /\ ∀ n ∈ gs ρ,Cb ((capR (none :: cap) ρ).set 0 (.fr (.int n)))) fun ρ=>(gs ρ).map fun n=>gi ((capR (none :: cap) ρ).set 0 (.fr (.int n)))) :=
  fun pins s σ H Q I h=>zV3 L hc (pi_list hi) hg (fun _ _ _=>yX0) he hs pins s σ H Q I (lc_L (zY5 h))
theorem qUK {p pos':Pos} {els:List Expr} {kk:Nat} {tp:Pos} (L:LcOk X N' sc cl (none :: none :: cap)) (hc:X.calm=true) (hgl:Gl X "enumerate") (hm:X.mg "enumerate"=none) (hi:PE X src (tXL X.K G Cs gs))
    (hg:∀ s H fp,PG (cxComp X N' sc cl s H fp) (.Tuple els kk tp) (gTup X.K 2 (gCons (gName 0) (gCons (gName 1) gNil)))) (he:∀ s H fp,PE (cxComp X N' sc cl s H fp) el (tXI X.K G Cb gi)) (hst:starEach [src] X.env=[(false,eval src X.env)]:=by rfl)
    (hs:∀ x,foldedSetIterable (.Call (.Name "enumerate" p) [src] [] pos') X.env x=pure x:=by intro _; rfl) :
    PE X (.ListComp el [⟨.Tuple els kk tp,.Call (.Name "enumerate" p) [src] [] pos',[],0⟩] sc at') (tXl X.K G (fun ρ=>Cs ρ /\ (gs ρ).length <= 1000 /\ ∀ k:Nat,∀ n,(gs ρ)[k]?=some n -> Cb (((capR (none :: none :: cap) ρ).set 0 (.fr (.int k))).set 1 (.fr (.int n))))
      fun ρ=>(gs ρ).mapIdx fun k n=>gi (((capR (none :: none :: cap) ρ).set 0 (.fr (.int k))).set 1 (.fr (.int n)))) :=
  fun pins s σ H Q I h=>zV3 L hc (zWU hgl hm (pa_cons hi pa_nil hst) hst) hg (fun _ _ _=>yX0) he hs pins s σ H Q I (lc_E (jQ6 h))
theorem jY9 {t:TE} {st:Stmt} {C:En -> Prop} {g:En -> List Int} (h:PS X st (tAsg t (gName i))) (k:∀ σ H Q,tXl X.K G C g σ H Q -> t σ H Q):PS X st (ts X.K G Er fun P ρ=>C ρ /\ ∀ ns,ns=g ρ -> P.nx (ρ.set i (.ow (.ints ns)))) :=
  toS h fun B σ H ρ O P D R c w=>k σ H _ ⟨B,ρ,O,R,c.1,fun a H1 s1 n1 e1=>w.nx _ H1 _ ⟨hide a O,R.new (p:=.ints (g ρ)) s1 n1 e1 rfl⟩ (c.2 _ rfl)⟩
theorem jV2 {t:TE} {st:Stmt} {C:En -> Prop} {g:En -> List Int} (h:PS X st (tAsg t (gName i))) (k:∀ σ H Q,tXl X.K G C g σ H Q -> t σ H Q):PS X st (ts X.K G Er fun P ρ=>C ρ /\ ∀ ns,ns=g ρ -> P.nx (ρ.set i (.fr (.ints ns)))) :=
  toS h fun B σ H ρ O P D R c w=>k σ H _ ⟨B,ρ,O,R,c.1,fun a H1 s1 n1 e1=>w.nx _ H1 _ ⟨O,(R.grow s1).set (p:=.ints _) ⟨a,rfl,.inl (by
    rw [yU5]
    . exact e1
    . cases z:O a with
      | false=>rfl
      | true=>exact absurd n1 (R.dom a z))⟩⟩ (c.2 _ rfl)⟩
theorem qY6 (hN:X.N.Nodup) (hi':X.N[i]?=some x) (hx:X.env.scope.names.lookup x=some .local) (L:LcOk X N' sc cl (none :: cap)) (hc:X.calm=true) (hi:PE X src (tXL X.K G Cs gs)) (hg:∀ s H fp,PG (cxComp X N' sc cl s H fp) tg (gName 0)) (he:∀ s H fp,PE (cxComp X N' sc cl s H fp) el (tXI X.K G Cb gi))
    (hsw:swapsWith (.ListComp el [⟨tg,src,[],0⟩] sc at') (some (.Name x px)) spos.line X.env=pure true) (hs:∀ x,foldedSetIterable src X.env x=pure x:=by intro _; rfl) :
    PS X (.Assign [.Name x px] (.ListComp el [⟨tg,src,[],0⟩] sc at') spos) (ts X.K G Er fun P ρ=>(Cs ρ /\ (gs ρ).length <= 1000 /\ ∀ n ∈ gs ρ,Cb ((capR (none :: cap) ρ).set 0 (.fr (.int n)))) /\ ∀ ns,ns=((gs ρ).map fun n=>gi ((capR (none :: cap) ρ).set 0 (.fr (.int n)))) -> P.nx (ρ.set i (.ow (.ints ns)))) :=
  jY9 (qZK hN hi' hx L hc (pi_list hi) hg (fun _ _ _=>yX0) he hsw hs) fun σ H Q h=>lc_L (zY5 h)
theorem zU4 (hN:X.N.Nodup) (hi':X.N[i]?=some x) (hx:X.env.scope.names.lookup x=some .local) (L:LcOk X N' sc cl (none :: cap)) (hc:X.calm=true) (hi:PE X src (tXL X.K G Cs gs)) (hg:∀ s H fp,PG (cxComp X N' sc cl s H fp) tg (gName 0)) (he:∀ s H fp,PE (cxComp X N' sc cl s H fp) el (tXI X.K G Cb gi))
    (hsw:swapsWith (.ListComp el [⟨tg,src,[],0⟩] sc at') (some (.Name x px)) spos.line X.env=pure true) (hs:∀ x,foldedSetIterable src X.env x=pure x:=by intro _; rfl) :
    PS X (.Assign [.Name x px] (.ListComp el [⟨tg,src,[],0⟩] sc at') spos) (ts X.K G Er fun P ρ=>(Cs ρ /\ (gs ρ).length <= 1000 /\ ∀ n ∈ gs ρ,Cb ((capR (none :: cap) ρ).set 0 (.fr (.int n)))) /\ ∀ ns,ns=((gs ρ).map fun n=>gi ((capR (none :: cap) ρ).set 0 (.fr (.int n)))) -> P.nx (ρ.set i (.fr (.ints ns)))) :=
  jV2 (qZK hN hi' hx L hc (pi_list hi) hg (fun _ _ _=>yX0) he hsw hs) fun σ H Q h=>lc_L (zY5 h)
end
theorem yZZ {k:En -> Prop} {ρ ρ':En} (h:ρ=ρ') (q:k ρ'):k ρ:=by rw [h]; exact q
def tyP:PV -> Option Value
  | .int _=>some (.type "int")
  | .bl _=>some (.type "bool")
  | .non=>some (.type "NoneType")
  | .str _=>some (.type "str")
  | .ints _=>some (.type "list")
  | .lst _=>some (.type "list")
  | .tup _=>some (.type "tuple")
  | _=>none
def clsP:PV -> Option Value
  | .ty n=>some (.type n)
  | .cls a=>some (.ref a)
  | _=>none
theorem At.ty {K:PySem.W.Frag} {G:Gx} {H:Hp} {p:PV} {v:V} {t:Value} (h:At K G H p v) (e:tyP p=some t):TyOf K H v t:=by
  cases p <;> first | cases e | skip
  . cases (show v=_ from h); exact .int _
  . cases (show v=_ from h); exact .bl _
  . cases (show v=_ from h); exact .non
  . cases (show v=_ from h); exact .str _
  . obtain ⟨a,rfl,r | ⟨o,r⟩⟩:=h
    . exact .lst r
    . exact .frz r
  . obtain ⟨a,vs,rfl,r | ⟨o,r⟩,_⟩:=h
    . exact .lst r
    . exact .frz r
  . obtain ⟨a,vs,rfl,r,_⟩:=h
    exact .tup r
theorem At.cls {K:PySem.W.Frag} {G:Gx} {H:Hp} {p:PV} {v:V} {t:Value} (h:At K G H p v) (e:clsP p=some t):clsV v=some t:=by
  cases p <;> first | cases e | skip
  . cases (show v=_ from h); rfl
  . cases (show v=_ from h); rfl
def instP (K:PySem.W.Frag) (p c:PV):Bool:=match tyP p,clsP c with
  | some t,some cv=>PySem.W.kitOne K t cv == some true
  | _,_=>false
def instOk (K:PySem.W.Frag) (p c:PV):Prop:=∃ t cv b,tyP p=some t /\ clsP c=some cv /\ PySem.W.kitOne K t cv=some b
theorem qV0 {K:PySem.W.Frag} {p c:PV} {t cv:Value} {b:Bool} (h1:tyP p=some t) (h2:clsP c=some cv) (h:PySem.W.kitOne K t cv=some b):instP K p c=b:=by
  unfold instP
  rw [h1,h2]
  show (PySem.W.kitOne K t cv == some true)=b
  rw [h]
  cases b <;> rfl
theorem TyOf.up {K:PySem.W.Frag} {H H':Hp} {v:V} {t:Value} (s:Same H H') (h:TyOf K H v t):TyOf K H' v t:=by
  cases h with
  | non=>exact .non
  | bl x=>exact .bl x
  | int x=>exact .int x
  | str x=>exact .str x
  | flt x=>exact .flt x
  | lst e=>exact .lst (s _ _ e)
  | frz e=>exact .frz (s _ _ e)
  | tup e=>exact .tup (s _ _ e)
  | dK e=>exact .dK (s _ _ e)
  | dT e=>exact .dT (s _ _ e)
  | ins e a b c d f=>exact .ins (s _ _ e) a b c d f
section
variable {X:Cx} {G:Gx} {a b c e:Expr} {es:List Expr} {pos p px apos:Pos} {C Ca Cb Cc:En -> Prop} {ga gc:En -> PV} {gi gj:En -> Int} {i j k n:Nat} {x m:Str}
abbrev spFI (K:PySem.W.Frag) (G:Gx) (pre:List PV -> Prop) (F:List PV -> Int):Sp:=spF K G pre fun as=>.int (F as)
abbrev spFB (K:PySem.W.Frag) (G:Gx) (pre:List PV -> Prop) (F:List PV -> Bool):Sp:=spF K G pre fun as=>.bl (F as)
abbrev spFL (K:PySem.W.Frag) (G:Gx) (pre:List PV -> Prop) (F:List PV -> List Int):Sp:=spF K G pre fun as=>.ints (F as)
variable {ps:List Str} {pre:List PV -> Prop} {gs:En -> List PV}
theorem xcL {F:List PV -> List Int} (o:Ok X.prog X.w X.K X.mg X.base j x ps (spFL X.K G pre F)) (hr:Room k X.A) (ha:PA X (e :: es) (tXs X.K G C gs)) (hj:j <= k:=by decide) (hg:Gl X x:=by rfl) (hdb:(x == ("__debug__":Str))=false:=by decide)
    (he:starEach (e :: es) X.env=(false,eval e X.env) :: starEach es X.env:=by rfl) (hpl:(backTo pos (starEach es X.env)).any (·.1)=false:=by rfl) :
    PE X (.Call (.Name x p) (e :: es) [] pos) (tXL X.K G (fun ρ=>C ρ /\ pre (gs ρ)) fun ρ=>F (gs ρ)):=xc o hr ha hj hg hdb he hpl
theorem xci {F:List PV -> Int} (o:Ok X.prog X.w X.K X.mg X.base j x ps (spFI X.K G pre F)) (hr:Room k X.A) (ha:PA X (e :: es) (tXs X.K G C gs)) (hj:j <= k:=by decide) (hg:Gl X x:=by rfl) (hdb:(x == ("__debug__":Str))=false:=by decide)
    (he:starEach (e :: es) X.env=(false,eval e X.env) :: starEach es X.env:=by rfl) (hpl:(backTo pos (starEach es X.env)).any (·.1)=false:=by rfl) :
    PE X (.Call (.Name x p) (e :: es) [] pos) (tXI X.K G (fun ρ=>C ρ /\ pre (gs ρ)) fun ρ=>F (gs ρ)):=xc o hr ha hj hg hdb he hpl
theorem xcb {F:List PV -> Bool} (o:Ok X.prog X.w X.K X.mg X.base j x ps (spFB X.K G pre F)) (hr:Room k X.A) (ha:PA X (e :: es) (tXs X.K G C gs)) (hj:j <= k:=by decide) (hg:Gl X x:=by rfl) (hdb:(x == ("__debug__":Str))=false:=by decide)
    (he:starEach (e :: es) X.env=(false,eval e X.env) :: starEach es X.env:=by rfl) (hpl:(backTo pos (starEach es X.env)).any (·.1)=false:=by rfl) :
    PE X (.Call (.Name x p) (e :: es) [] pos) (tXB X.K G (fun ρ=>C ρ /\ pre (gs ρ)) fun ρ=>F (gs ρ)=true) :=
  toX (xc o hr ha hj hg hdb he hpl) fun B σ H ρ O Q R c q=>⟨B,ρ,O,R,c,fun v H' s a=>q v H' s (by dsimp only; rw [Bool.decide_eq_true]; exact a)⟩
def getZ (ρ:En) (i:Nat):Int:=match ρ[i]? with
  | some (.fr (.ob 0 z))=>z
  | _=>0
def isK (ρ:En) (i:Nat):Prop:=ρ[i]?=some (.fr (.ob 0 (getZ ρ i)))
theorem yK3 {KA:Hp -> Addr -> Int -> Prop} {preK:Int -> List Int -> Prop} {F:Int -> List Int -> Int} {pl:Sem Bool} (i:Nat) (M:KM X.prog X.w X.K X.mg X.base j KA m n preK F) (hr:Room k X.A) (ha:PA X (e :: es) (tXs X.K G C gs)) (hn:∀ ρ,(gs ρ).length=n:=by intro _; rfl) (hG:∀ H a z,G.ob 0 H a z -> KA H a z:=by first | exact fun _ _ _ h=>h.2 | exact fun _ _ _ h=>h.elim (fun z=>z.2) fun z=>absurd z.1 (by decide)) (hGm:∀ {H H':Hp} {a:Addr} {z:Int},KA H a z -> Same H H' -> KA H' a z:=by first | exact fun h s=>KAt.same h s | exact fun h s=>h.same s) (hj:j <= k:=by decide)
    (hN:X.N[i]?=some x:=by rfl) (hv:Vis X.env.scope x:=by first | exact Or.inl rfl | exact Or.inr (Or.inl rfl) | exact Or.inr (Or.inr rfl)) (hd:(x == ("__debug__":Str))=false:=by decide) (hcd:(x == ("__classdict__":Str))=false:=by decide)
    (hst:starEach (e :: es) X.env=(false,eval e X.env) :: starEach es X.env:=by rfl) (hpl:(backTo pos (starEach es X.env)).any (·.1)=false:=by rfl)
    (ht:eval (.Call (.Attribute (.Name x px) m apos) (e :: es) [] pos) X.env=(do
      let ov <- eval (.Name x px) X.env
      standAt apos.atName
      let (f,first) <- holding [ov] (getMethod ov m pl)
      callWith pos f first (backTo pos (starEach (e :: es) X.env)) (backToKw pos (keywordEach [] X.env))):=by rfl) :
    PE X (.Call (.Attribute (.Name x px) m apos) (e :: es) [] pos) (tXI X.K G (fun ρ=>isK ρ i /\ C ρ /\ areI (gs ρ) /\ preK (getZ ρ i) (allI (gs ρ))) fun ρ=>F (getZ ρ i) (allI (gs ρ))):=by
  intro pins s σ H Q I h
  obtain ⟨B,ρ,O,R,⟨c0,c1,c2,c3⟩,q⟩:=h
  obtain ⟨v,e1,a,rfl,ka⟩:=R.fr i _ c0
  have ka1:KA H a (getZ ρ i):=hGm (hG _ _ _ ka) yZV
  obtain ⟨Cl,dx,fs,ps,f1,f2,M'⟩:=M.ex H a _ ka1
  obtain ⟨f,fd,FF,bb,mm,cc⟩:=M'.ex
  refine pe_meth (pe_var hN hv hd hcd) cc mm (FF.mono hj) hr bb .nil pass0 ha hst hpl ht pins s σ H Q I ⟨_,e1,a,dx,fs,rfl,f1,f2,B,ρ,O,R,c1,fun vs H1 s1 a1=>?_⟩
  have ev:=a1.ints c2
  have el:(allI (gs ρ)).length=n:=by rw [<- hn ρ,a1.length,ev,List.length_map]
  exact ⟨allI (gs ρ),el,by rw [List.append_nil,ev],hGm ka1 s1,c3,q _ H1 s1 rfl⟩
end
theorem zU2:∀ {as:List PV},areI as -> (allI as).length=as.length
  | [],_=>rfl
  | p :: r,h=>by
    cases p <;> first | exact h.elim | skip
    show (allI r).length + 1=r.length + 1
    rw [zU2 (as:=r) h]
section
variable {P:Program} {w:World} {K:PySem.W.Frag} {mg:Str -> Option Value} {base:Heap} {G:Gx} {k n:Nat} {x:Str} {ps:List Str}
def scrI:List PV -> List Int
  | .scr ns :: _=>ns
  | _=>[]
def preS (n:Nat) (pre:List Int -> List Int -> Prop):List PV -> Prop
  | .scr ns :: r=>areI r /\ r.length=n /\ pre ns (allI r)
  | _=>False
theorem liftS {pre:List Int -> List Int -> Prop} {F:List Int -> List Int -> Int} (o:Ok P w K mg base k x ps (spS K n pre F)):Ok P w K mg base k x ps (spFI K G (preS n pre) fun as=>F (scrI as) (allI as.tail)) :=
  o.imp fun vs H Q E ⟨as,O,_,al,hp,q⟩=>by
    match as,hp,al,q with
    | .scr ns :: r,⟨h1,h2,h3⟩,al,q =>
      obtain ⟨v,t,rfl,⟨a,rfl,hs⟩,al2⟩:=al
      exact ⟨a,ns,allI r,by rw [zU2 h1,h2],by rw [al2.ints h1],yZV.seq hs,h3,q _ H (Same.refl H) rfl⟩
end
section
variable {X:Cx} {G:Gx} {Er:ER} {b e:Expr} {px ps pos:Pos} {C Cb:En -> Prop} {g gb:En -> Int}
theorem qWX:PGet X (rIxL X.K):=by
  intro pins s σ H x y v u Q I rx ry h
  obtain ⟨p,xs,i,z,rfl,rfl,hq,he,q⟩:=h
  cases rx
  obtain ⟨t,rfl⟩:=ry
  obtain ⟨its,r,pl,hz⟩:=I.list hq
  obtain ⟨j,h1,h2,h3,h4,h5⟩:=atI_get he
  obtain ⟨w,ew,rw'⟩:=r.get h2
  have hl:=r.length
  have hn:=line63
  have fin:EP X pins σ Q w s:=⟨z,H,I,rw',q⟩
  by_cases h0:0 <= i
  . have hj:i.toNat=j:=by
      rw [seqIndex_of h0 h5] at h1
      exact Option.some.inj h1
    exact wpAny_getItem_list pl.isList h0 (by omega) (by rw [hj]; simpa using ew) fin
  . have hj:(i + (its.toArray.size:Int)).toNat=j:=by
      rw [seqIndex_neg (by omega) h4] at h1
      rw [List.size_toArray,<- hl]
      exact Option.some.inj h1
    exact wpAny_getItem_list_neg pl.isList (by omega) (by rw [List.size_toArray] <;> omega) (by omega) (by rw [hj]; simpa using ew) fin
theorem zVX (i:Nat) {x:Str} {op:Operator} {Pr:Int -> Int -> Prop} {h:Int -> Int -> Int} (hk:PE X b (tXI X.K G Cb gb)) (he:PE X e (tXI X.K G C g)) (ho:OpR X (inplaceOp op) (rI Pr fun i j=>.int (h i j))) (hN:X.N[i]?=some x:=by rfl) (hv:Vis X.env.scope x:=by first | exact Or.inl rfl | exact Or.inr (Or.inl rfl) | exact Or.inr (Or.inr rfl))
    (hd:(x == ("__debug__":Str))=false:=by decide) (hcd:(x == ("__classdict__":Str))=false:=by decide)
    (ha:∀ ov iv new,augStore b ov iv new=(do holding [new,ov,iv] (setItem ov iv new); release [new,ov,iv] []; pure .next):=by intros; rfl) :
    PS X (.AugAssign (.Subscript (.Name x px) b ps) op e pos) (ts X.K G Er fun P ρ=>isO ρ i /\ Cb ρ /\ (-((getL ρ i).length:Int) <= gb ρ /\ gb ρ < ((getL ρ i).length:Int)) /\ C ρ /\ Pr ((getL ρ i).getD (ixO (getL ρ i).length (gb ρ)) 0) (g ρ) /\
      P.nx (ρ.set i (.ow (.ints ((getL ρ i).set (ixO (getL ρ i).length (gb ρ)) (h ((getL ρ i).getD (ixO (getL ρ i).length (gb ρ)) 0) (g ρ))))))) :=
  toS (ps_augS (pe_var hN hv hd hcd) hk qWX he ho set_list ha) fun B σ H ρ O P D R c w=>by
    obtain ⟨c0,c1,cb,c2,cp,c3⟩:=c
    obtain ⟨a,vs,e1,e2,e3,e4,e5⟩:=R.ow i _ c0
    have e5:vs=(getL ρ i).map V.int:=e5
    subst e5
    refine ⟨_,e1,B,ρ,O,R,c1,fun u H1 s1 a1=>?_⟩
    have a1:u=.int (gb ρ):=a1
    subst a1
    refine ⟨a,_,_,_,rfl,rfl,SqL.of (s1 _ _ e4),getD_at cb.1 cb.2,B,ρ,O,R.grow s1,c2,fun v H2 s2 a2=>?_⟩
    have a2:v=.int (g ρ):=a2
    subst a2
    refine ⟨_,_,rfl,rfl,cp,a,_,_,_,rfl,rfl,s2 _ _ (s1 _ _ e4),by rw [List.length_map]; exact zU9 cb.1 cb.2,w.nx σ _ _ ⟨O,((R.grow s1).grow s2).change c0 e1 (p':=.ints _) ?_⟩ c3⟩
    show _=((getL ρ i).set _ _).map V.int
    rw [List.map_set]
    rfl
end
end L3
namespace L3
open PySem PyProof.Rows L2 FM
theorem yH3 (xs:List Int) (lo hi:Option Int):(cutI xs lo hi).length <= xs.length:=by
  unfold cutI
  rw [List.length_take,List.length_drop]
  omega
theorem yUY (xs:List Int) (a:Nat):cutI xs (some (a:Int)) none=xs.drop a:=by
  unfold cutI
  rw [HT.sIx_nat,HT.sIx_none]
  by_cases h:a <= xs.length
  . rw [Nat.min_eq_left h,List.take_of_length_le (by rw [List.length_drop]; omega)]
  . rw [Nat.min_eq_right (by omega),List.drop_eq_nil_of_le (Nat.le_refl _),List.drop_eq_nil_of_le (by omega),List.take_nil]
theorem qJ1 (xs:List Int) (b:Nat):cutI xs none (some (b:Int))=xs.take b:=by
  unfold cutI
  rw [HT.sIx_nat,HT.sIx_none,List.drop_zero,Nat.sub_zero]
  by_cases h:b <= xs.length
  . rw [Nat.min_eq_left h]
  . rw [Nat.min_eq_right (by omega),List.take_of_length_le (Nat.le_refl _),List.take_of_length_le (by omega)]
theorem qV9 {z a:Int} {B:Nat} (hz:0 <= z) (hz2:z < (B:Int)) (ha:a.natAbs < B):(pl z a).natAbs < B:=by
  by_cases h:z=0
  . subst h; exact ha
  . have:=qQ5 (z:=z) (n:=a) (by omega)
    omega
end L3
namespace L2
open PySem PySem.Spec PyProof.Rows
end L2
namespace L3
open PySem PySem.Spec PyProof.Rows L2
end L3
namespace FM
open L2
theorem yQ6 {xs:List Int} {n:Nat} (h:xs.length <= n):xs.getD n 0=0:=by rw [gQ,List.getElem?_eq_none h]; rfl
theorem yQQ {xs:List Int} {n:Nat} (h:n < xs.length):xs.getD n 0=xs[n]:=by rw [gQ,List.getElem?_eq_getElem h]; rfl
theorem getD_at' {xs:List Int} {n:Nat} {x:Int} (h:xs[n]?=some x):xs.getD n 0=x:=by rw [gQ,h]; rfl
theorem getD_mem {xs:List Int} {n:Nat} (h:n < xs.length):xs.getD n 0 ∈ xs:=by rw [yQQ h]; exact List.getElem_mem h
theorem yJU (f:Int -> Int) (h0:f 0=0) (xs:List Int) (n:Nat):(xs.map f).getD n 0=f (xs.getD n 0):=by
  by_cases h:n < xs.length
  . rw [yQQ (by rw [List.length_map]; exact h),List.getElem_map,yQQ h]
  . rw [yQ6 (by rw [List.length_map]; omega),yQ6 (by omega),h0]
theorem pl_0 (z:Int):pl z 0=0:=by
  unfold pl
  split
  . rfl
  . exact Int.zero_emod z
theorem zQY (xs:List Int) (x:Int) (n:Nat):(xs ++ [x]).getD n 0=if n=xs.length then x else xs.getD n 0:=by
  by_cases h:n < xs.length
  . rw [yQQ (by rw [List.length_append]; omega),List.getElem_append_left h,if_neg (by omega),yQQ h]
  . by_cases h2:n=xs.length
    . subst h2
      rw [if_pos rfl,yQQ (by rw [List.length_append,List.length_singleton]; omega),List.getElem_append_right (Nat.le_refl _)]
      simp
    . rw [if_neg h2,yQ6 (by rw [List.length_append,List.length_singleton]; omega),yQ6 (by omega)]
theorem qZQ (xs:List Int):xs=[] \/ ∃ ys x,xs=ys ++ [x]:=by
  by_cases h:xs=[]
  . exact .inl h
  . exact .inr ⟨_,_,(List.dropLast_concat_getLast h).symm⟩
theorem zV1:∀ (k:Nat) (xs:List Int),xs.length=k -> ∀ n,(trimZ xs).getD n 0=xs.getD n 0
  | 0,xs,h,n=>by
    have:xs=[]:=List.length_eq_zero_iff.mp h
    subst this
    rfl
  | k + 1,xs,h,n=>by
    rcases qZQ xs with rfl | ⟨ys,x,rfl⟩
    . rfl
    . by_cases hx:x=0
      . subst hx
        have hl:ys.length=k:=by rw [List.length_append,List.length_singleton] at h; omega
        rw [yH9,zV1 k ys hl n,zQY]
        by_cases h2:n=ys.length
        . rw [if_pos h2,yQ6 (by omega)]
        . rw [if_neg h2]
      . rw [zX9 _ hx]
theorem zQ9 (xs:List Int) (n:Nat):(trimZ xs).getD n 0=xs.getD n 0:=zV1 _ xs rfl n
def InForm (xs:List Int):Prop:=xs ≠ [] -> xs.getD (xs.length - 1) 0 ≠ 0
theorem zJU:∀ (k:Nat) (xs:List Int),xs.length=k -> InForm (trimZ xs)
  | 0,xs,h=>by
    have:xs=[]:=List.length_eq_zero_iff.mp h
    subst this
    intro h; exact absurd rfl h
  | k + 1,xs,h=>by
    rcases qZQ xs with rfl | ⟨ys,x,rfl⟩
    . intro h; exact absurd rfl h
    . by_cases hx:x=0
      . subst hx
        rw [yH9]
        exact zJU k ys (by rw [List.length_append,List.length_singleton] at h; omega)
      . rw [zX9 _ hx]
        intro _
        rw [zQY,if_pos (by rw [List.length_append,List.length_singleton]; omega)]
        exact hx
theorem yWV (xs:List Int):InForm (trimZ xs):=zJU _ xs rfl
theorem yV2 {a b:List Int} (ha:InForm a) (hb:InForm b) (h:∀ n,a.getD n 0=b.getD n 0):a=b:=by
  have le:∀ {a b:List Int},InForm a -> (∀ n,a.getD n 0=b.getD n 0) -> a.length <= b.length:=fun {a b} ha h=>by
    by_cases c:a.length <= b.length
    . exact c
    . have hne:a ≠ []:=fun z=>by subst z; exact c (Nat.zero_le _)
      exact absurd (by rw [h,yQ6 (by omega)]) (ha hne)
  have hl:a.length=b.length:=Nat.le_antisymm (le ha h) (le hb fun n=>(h n).symm)
  refine List.ext_getElem hl fun i h1 h2=>?_
  have:=h i
  rw [yQQ h1,yQQ h2] at this
  exact this
theorem zU6 {a b:List Int} (h:∀ n,a.getD n 0=b.getD n 0):trimZ a=trimZ b :=
  yV2 (yWV a) (yWV b) fun n=>by rw [zQ9,zQ9,h]
theorem qYQ {z:Int} {a b:List Int} (h:∀ n,pl z (a.getD n 0)=pl z (b.getD n 0)):trimZ (a.map (pl z))=trimZ (b.map (pl z)) :=
  zU6 fun n=>by rw [yJU _ (pl_0 z),yJU _ (pl_0 z),h]
def Tz (z:Int) (f:List Int):List Int:=trimZ (f.map (pl z))
theorem yZX (z:Int) (f:List Int) (n:Nat):(Tz z f).getD n 0=pl z (f.getD n 0):=by unfold Tz; rw [zQ9,yJU _ (pl_0 z)]
theorem yJW (z:Int) (f:List Int):(Tz z f).length <= f.length:=by
  unfold Tz
  refine Nat.le_trans (zV2 _) ?_
  rw [List.length_map]
  exact Nat.le_refl _
theorem mem_getD {xs:List Int} {m:Int} (h:m ∈ xs):∃ n,n < xs.length /\ xs.getD n 0=m:=by
  obtain ⟨n,h1,h2⟩:=List.getElem_of_mem h
  exact ⟨n,h1,by rw [yQQ h1,h2]⟩
theorem jJV {z:Int} {f:List Int} {m:Int} (h:m ∈ Tz z f):∃ k ∈ f,m=pl z k:=by
  obtain ⟨n,h1,h2⟩:=mem_getD h
  rw [yZX] at h2
  exact ⟨f.getD n 0,getD_mem (Nat.lt_of_lt_of_le h1 (yJW z f)),h2.symm⟩
def sm:Nat -> (Nat -> Int) -> Int
  | 0,_=>0
  | n + 1,f=>sm n f + f n
theorem yQ7 {f g:Nat -> Int}:∀ {n:Nat},(∀ i,i < n -> f i=g i) -> sm n f=sm n g
  | 0,_=>rfl
  | n + 1,h=>by
    show sm n f + f n=sm n g + g n
    rw [yQ7 fun i hi=>h i (by omega),h n (by omega)]
theorem yXU {f:Nat -> Int}:∀ {n:Nat},(∀ i,i < n -> f i=0) -> sm n f=0
  | 0,_=>rfl
  | n + 1,h=>by
    show sm n f + f n=0
    rw [yXU fun i hi=>h i (by omega),h n (by omega)]
    rfl
theorem zZ0 {f:Nat -> Int} {n:Nat}:∀ {m:Nat},n <= m -> (∀ i,n <= i -> i < m -> f i=0) -> sm m f=sm n f
  | 0,h,_=>by
    have:n=0:=by omega
    subst this; rfl
  | m + 1,h,z=>by
    by_cases c:n=m + 1
    . subst c; rfl
    . show sm m f + f m=sm n f
      rw [z m (by omega) (by omega),Int.add_zero]
      exact zZ0 (by omega) fun i h1 h2=>z i h1 (by omega)
theorem yV1 (f:Nat -> Int):∀ n,sm (n + 1) f=f 0 + sm n fun i=>f (i + 1)
  | 0=>by show 0 + f 0=f 0 + 0; omega
  | n + 1=>by
    show sm (n + 1) f + f (n + 1)=f 0 + (sm n (fun i=>f (i + 1)) + f (n + 1))
    rw [yV1 f n]
    omega
theorem qU1 (f:Nat -> Int):∀ n,sm (n + 1) f=sm (n + 1) fun i=>f (n - i)
  | 0=>rfl
  | n + 1=>by
    rw [yV1 (fun i=>f (n + 1 - i)) (n + 1)]
    show sm (n + 1) f + f (n + 1)=f (n + 1 - 0) + sm (n + 1) fun i=>f (n + 1 - (i + 1))
    rw [qU1 f n,Nat.sub_zero]
    have:sm (n + 1) (fun i=>f (n - i))=sm (n + 1) fun i=>f (n + 1 - (i + 1)):=yQ7 fun i _=>by rw [Nat.add_sub_add_right]
    omega
theorem jJY {z:Int} {f g:Nat -> Int}:∀ {n:Nat},(∀ i,i < n -> pl z (f i)=pl z (g i)) -> pl z (sm n f)=pl z (sm n g)
  | 0,_=>rfl
  | n + 1,h=>by
    show pl z (sm n f + f n)=pl z (sm n g + g n)
    rw [<- qX8,<- pl_add',jJY fun i hi=>h i (by omega),h n (by omega),qX8,pl_add']
def cm (f g:List Int) (n:Nat):Int:=sm (n + 1) fun i=>f.getD i 0 * g.getD (n - i) 0
theorem yQK (f g:List Int) (n:Nat):cm f g n=cm g f n:=by
  unfold cm
  rw [qU1]
  refine yQ7 fun i hi=>?_
  rw [Int.mul_comm,show n - (n - i)=i by omega]
theorem jY0 {z:Int} {f g f' g':List Int} (hf:∀ n,pl z (f.getD n 0)=pl z (f'.getD n 0)) (hg:∀ n,pl z (g.getD n 0)=pl z (g'.getD n 0)) (n:Nat):pl z (cm f g n)=pl z (cm f' g' n) :=
  jJY fun i _=>by rw [<- zKU,<- pl_mul',hf,hg,zKU,pl_mul']
def cpart (f g:List Int) (n i:Nat):Int:=sm i fun j=>if j <= n then f.getD j 0 * g.getD (n - j) 0 else 0
theorem qX5 (f g:List Int) (n:Nat) {i:Nat} (h:f.length <= i):cpart f g n i=cm f g n:=by
  have e:cm f g n=cpart f g n (n + 1):=yQ7 fun j hj=>by rw [if_pos (by omega)]
  rw [e]
  unfold cpart
  rcases Nat.le_total i (n + 1) with c | c
  . refine (zZ0 c fun j h1 h2=>?_).symm
    rw [yQ6 (show f.length <= j by omega),Int.zero_mul]
    split <;> rfl
  . refine zZ0 c fun j h1 h2=>?_
    rw [if_neg (by omega)]
theorem qHV {f g:List Int} {n:Nat} (h:f.length + g.length <= n + 1):cm f g n=0:=by
  unfold cm
  refine yXU fun i hi=>?_
  by_cases c:i < f.length
  . rw [yQ6 (show g.length <= n - i by omega),Int.mul_zero]
  . rw [yQ6 (show f.length <= i by omega),Int.zero_mul]
def convL (f g:List Int):List Int:=(List.range (f.length + g.length)).map (cm f g)
theorem yQ4 (f g:List Int) (n:Nat):(convL f g).getD n 0=cm f g n:=by
  unfold convL
  by_cases h:n < f.length + g.length
  . rw [yQQ (by rw [List.length_map,List.length_range]; exact h),List.getElem_map,List.getElem_range]
  . rw [yQ6 (by rw [List.length_map,List.length_range]; omega),qHV (by omega)]
theorem qWY {a b:List Int} (hl:a.length=b.length) (h:∀ n,a.getD n 0=b.getD n 0):a=b:=by
  refine List.ext_getElem hl fun i h1 h2=>?_
  have:=h i
  rw [yQQ h1,yQQ h2] at this
  exact this
def RowAt (f g:List Int) (i k:Nat) (row:List Int):Prop:=row.length=f.length + g.length /\ ∀ n,row.getD n 0=cpart f g n i + if i <= n /\ n - i < k then f.getD i 0 * g.getD (n - i) 0 else 0
theorem zXU (f g:List Int):RowAt f g 0 0 (List.replicate (f.length + g.length) 0):=by
  refine ⟨List.length_replicate,fun n=>?_⟩
  rw [if_neg (by omega)]
  show _=(0:Int) + 0
  by_cases h:n < f.length + g.length
  . rw [yQQ (by rw [List.length_replicate]; exact h),List.getElem_replicate]; rfl
  . rw [yQ6 (by rw [List.length_replicate]; omega)]; rfl
theorem yK2 (row:List Int) (j:Nat) (x:Int) (n:Nat) (h:j < row.length):(row.set j x).getD n 0=if n=j then x else row.getD n 0:=by
  by_cases c:n=j
  . subst c
    rw [if_pos rfl,yQQ (by rw [List.length_set]; exact h),List.getElem_set_self]
  . rw [if_neg c,gQ,List.getElem?_set_ne (by omega),<- gQ]
theorem zH5 {f g row:List Int} {i k:Nat} (h:RowAt f g i k row) (hi:i < f.length) (hk:k < g.length):RowAt f g i (k + 1) (row.set (i + k) (row.getD (i + k) 0 + f.getD i 0 * g.getD k 0)):=by
  obtain ⟨hl,hr⟩:=h
  refine ⟨by rw [List.length_set]; exact hl,fun n=>?_⟩
  rw [yK2 _ _ _ _ (by omega)]
  by_cases c:n=i + k
  . subst c
    rw [if_pos rfl,hr,if_neg (by omega),if_pos (by omega),show i + k - i=k by omega]
    omega
  . rw [if_neg c,hr]
    by_cases d:i <= n /\ n - i < k
    . rw [if_pos d,if_pos (by omega)]
    . rw [if_neg d,if_neg (by omega)]
theorem zU1 {f g row:List Int} {i:Nat} (h:RowAt f g i g.length row):RowAt f g (i + 1) 0 row:=by
  obtain ⟨hl,hr⟩:=h
  refine ⟨hl,fun n=>?_⟩
  rw [hr,if_neg (show ¬ (i + 1 <= n /\ n - (i + 1) < 0) by omega)]
  show _=cpart f g n i + (if i <= n then f.getD i 0 * g.getD (n - i) 0 else 0) + 0
  by_cases c:i <= n
  . rw [if_pos c]
    by_cases d:n - i < g.length
    . rw [if_pos ⟨c,d⟩]; omega
    . rw [if_neg (by omega),yQ6 (show g.length <= n - i by omega),Int.mul_zero]; omega
  . rw [if_neg (by omega),if_neg c]; omega
theorem row_end {f g row:List Int} (h:RowAt f g f.length 0 row):row=convL f g:=by
  obtain ⟨hl,hr⟩:=h
  refine qWY (by rw [hl]; unfold convL; rw [List.length_map,List.length_range]) fun n=>?_
  rw [hr,if_neg (by omega),yQ4,qX5 f g n (Nat.le_refl _)]
  omega
theorem zUZ (z:Int) (f g:List Int):Tz z (convL (Tz z f) (Tz z g))=Tz z (convL f g) :=
  qYQ fun n=>by
    rw [yQ4,yQ4]
    exact jY0 (fun k=>by rw [yZX,yUZ]) (fun k=>by rw [yZX,yUZ]) n
end FM
namespace L3
open PySem PySem.Spec PyProof.Rows L2
theorem jVJ (H:Hp):mn H (fun _=>false)=H:=by funext b; exact yU5 rfl
def tXr (K:PySem.W.Frag) (G:Gx) (C:En -> Prop) (g:En -> PV):TE:=fun σ H Q=>∃ B ρ O,Rep K G B σ H ρ O /\ C ρ /\ ∀ v H',Same H H' -> At K G H' (g ρ) v -> Q v H'
section
variable {X:Cx} {G:Gx} {Er:ER} {a b c e:Expr} {es:List Expr} {pos p px ps pa pc:Pos} {C Ca Cb:En -> Prop} {g:En -> PV} {gs:En -> List PV} {gi:En -> Int} {i j k:Nat} {x:Str} {pl:List Str} {pre:List PV -> Prop}
theorem rdX (h:PE X e (tX X.K G C g)):PE X e (tXr X.K G C g):=fun pins s σ H Q I ⟨B,ρ,O,R,c,q⟩=>h pins s σ H Q I ⟨B,ρ,O,R,c,fun v H' s a=>q v H' s (At.mono yZV _ _ a)⟩
end
end L3
namespace L2
open PySem PySem.Spec PyProof.Rows
theorem yW7:∀ {ns:List Int} {its:List Value},Vals (ns.map V.int) its -> IntsAre its ns
  | [],_,h=>by cases h; exact .nil
  | n :: r,_,h=>by
    cases h with
    | cons a b =>
      obtain ⟨t,rfl⟩:=a
      exact .cons n t (yW7 b)
def rEqL (g:List Int -> List Int -> Bool):R2:=fun x y H Q=>∃ a b ns ms,x=.ref a /\ y=.ref b /\ Rd H a (.lst (ns.map V.int)) /\ Rd H b (.lst (ms.map V.int)) /\ Q (.bl (g ns ms)) H
section
variable {X:Cx}
theorem qYY (hu:X.A.units + 64 < cLine):OpR X (compareOp .Eq) (rEqL fun ns ms=>decide (ns=ms)):=by
  intro pins s σ H x y v u Q I rx ry h
  obtain ⟨a,b,ns,ms,rfl,rfl,ha,hb,q⟩:=h
  cases rx
  cases ry
  obtain ⟨_,its,n,r,_,e⟩:=L3.Inv.lstR I ha
  obtain ⟨_,its2,n2,r2,_,e2⟩:=L3.Inv.lstR I hb
  exact PySem.W.ke_eq_ints ⟨_,e,rfl,_,rfl⟩ ⟨_,e2,rfl,_,rfl⟩ (yW7 r) (yW7 r2) hu ⟨.bl _,H,I,rfl,q⟩
theorem jQQ (hu:X.A.units + 64 < cLine):OpR X (compareOp .NotEq) (rEqL fun ns ms=>decide (¬ ns=ms)):=by
  intro pins s σ H x y v u Q I rx ry h
  obtain ⟨a,b,ns,ms,rfl,rfl,ha,hb,q⟩:=h
  cases rx
  cases ry
  obtain ⟨_,its,n,r,_,e⟩:=L3.Inv.lstR I ha
  obtain ⟨_,its2,n2,r2,_,e2⟩:=L3.Inv.lstR I hb
  have q:Q (.bl (decide (¬ ns=ms))) H:=q
  rw [decide_not] at q
  exact PySem.W.ke_ne_ints ⟨_,e,rfl,_,rfl⟩ ⟨_,e2,rfl,_,rfl⟩ (yW7 r) (yW7 r2) hu ⟨.bl _,H,I,rfl,q⟩
theorem jY7:bootBuiltins "sum"=some (.builtin "sum"):=by decide +kernel
theorem qJX (hc:X.calm=true):CallR X (.builtin "sum") (fun xs H Q=>∃ (a:Addr) (ns:List Int),xs=[.ref a] /\ Rd H a (.lst (ns.map V.int)) /\ Q (.int ns.sum) H):=by
  intro pins s σ H xs us Q I rv h
  obtain ⟨a,ns,rfl,ha,q⟩:=h
  obtain ⟨u,rfl,ru⟩:=vals1 rv
  cases ru
  obtain ⟨_,its,n,r,_,e⟩:=L3.Inv.lstR I ha
  have hi:=yW7 r
  obtain ⟨xs,ex⟩:=hi.allInts.items
  have es:(numsOf its.toArray.toList).sum=ns.sum:=by rw [show its.toArray.toList=its from rfl,hi.numsOf]
  rw [ex,nums_intItems] at es
  refine sum_intListG (xs:=xs) (I.ok.hd hc) ⟨_,e,rfl,_,by rw [ex]⟩ fun h' tk t' hk=>?_
  refine ⟨.int ns.sum,H,I.kept (t':=tk) hk,⟨t',?_⟩,q⟩
  rw [preSum_eq,List.take_of_length_le (by simp),es]
end
def Itz (K:PySem.W.Frag) (a b:Addr):It :=
  ⟨fun i H=>∃ xs ys x y,SqL K H a xs /\ SqL K H b ys /\ xs[i]?=some x /\ ys[i]?=some y,
   fun i H v H'=>∃ T x y,v=.ref T /\ H T=none /\ H'=upd H T (.tup [x,y]) /\ (∀ xs,SqL K H a xs -> xs[i]?=some x) /\ ∀ ys,SqL K H b ys -> ys[i]?=some y,
   fun i H=>∃ xs ys,SqL K H a xs /\ SqL K H b ys /\ (xs.length <= i \/ ys.length <= i)⟩
theorem qK3 {P:Program} {w:World} {K:PySem.W.Frag} {els:List Expr} {kk:Nat} {tp:Pos} (a b z TI TO i1 i2:Addr) (D:ZipApart z TI TO i1 i2 a b) :
    Turn P w K (.Tuple els kk tp) (Itz K a b) [z,TI,TO,i1,i2] z (fun i h=>IsZip h z TI TO .none /\ IsPair h TI (.ref i1) (.ref i2) /\ (∃ u v,IsPair h TO u v) /\ h.IsListIter i1 a i /\ h.IsListIter i2 b i) where
  mem:=by simp
  obj:=fun i h st c hc=>by
    obtain ⟨hz,hTI,⟨u,v,hTO⟩,⟨o1,q1,_,d1⟩,⟨o2,q2,_,d2⟩⟩:=st
    rcases List.mem_cons.mp hc with rfl | hc
    . exact ⟨_,hz,fun v y=>by cases y⟩
    rcases List.mem_cons.mp hc with rfl | hc
    . exact ⟨_,hTI,fun v y=>by cases y⟩
    rcases List.mem_cons.mp hc with rfl | hc
    . exact ⟨_,hTO,fun v y=>by cases y⟩
    rcases List.mem_cons.mp hc with rfl | hc
    . exact ⟨o1,q1,fun v y=>by rw [d1] at y; cases y⟩
    . have e:c=i2:=by simpa using hc
      subst e
      exact ⟨o2,q2,fun v y=>by rw [d2] at y; cases y⟩
  keep:=fun i h h' st k=>by
    obtain ⟨hz,hTI,⟨u,v,hTO⟩,h1,h2⟩:=st
    exact ⟨k z (by simp) _ hz,k TI (by simp) _ hTI,⟨u,v,k TO (by simp) _ hTO⟩,h1.at fun o q=>k i1 (by simp) o q,h2.at fun o q=>k i2 (by simp) o q⟩
  item:=by
    intro X hP hw hK hc i pins s σ H E I hf st hg
    subst hP hw hK
    obtain ⟨xs,ys,x,y,hqa,hqb,hx,hy⟩:=hg
    obtain ⟨hz,hTI,⟨p0,q0,hTO⟩,h1,h2⟩:=st
    obtain ⟨its,rv,pa,hza⟩:=I.list hqa
    obtain ⟨u,hu,ru⟩:=rv.get hx
    obtain ⟨its2,rv2,pb,hzb⟩:=I.list hqb
    obtain ⟨u2,hu2,ru2⟩:=rv2.get hy
    refine wpAny_pyNext_zip_item D hz hTI hTO h1 h2 pa.isList pb.isList (x:=u) (y:=u2) (by simpa using hu) (by simpa using hu2) fun h' hz' hTO' h1' h2' hT hsz hk=>⟨_,rfl,?_⟩
    refine wpAny_letOwnedTupleGo_zip hz' fun h2h hz2 hs2=>?_
    have Tz:s.heap.objs.size ≠ z:=Nat.ne_of_gt (Heap.lt_size hz)
    have keep2:∀ c o,c ∉ [z,TI,TO,i1,i2] -> s.heap.get? c=some o -> h2h.get? c=some o:=fun c o hc q=>by
      have c1:c ≠ z:=fun e=>hc (by simp [e])
      exact (hs2.2 c c1).trans (hk c o c1 (fun e=>hc (by simp [e])) (fun e=>hc (by simp [e])) (fun e=>hc (by simp [e])) q)
    have I1:Inv X pins σ H { s with heap:=h2h,toks:=s.toks }:=I.turnedL hf keep2
    have fT:FpOk X pins H s.heap.objs.size:=I.fpOk (Nat.le_refl _) (I.hok.fresh (Nat.le_refl _))
    have I2:=I1.track (o:=.tup [x,y]) fT ⟨by show 2 <= sizeLine; decide,[u,u2],.cons ru (.cons ru2 .nil),⟨_,(hs2.2 _ Tz).trans hT,rfl,_,rfl⟩⟩
    have up:∀ c o,c ≠ z -> h'.get? c=some o -> h2h.get? c=some o:=fun c o c1 q=>(hs2.2 c c1).trans q
    refine ⟨.ref s.heap.objs.size,_,I2,rfl,⟨_,x,y,rfl,fT.1,rfl,fun zs hq=>by rw [I.list_inj hq hqa]; exact hx,fun zs hq=>by rw [I.list_inj hq hqb]; exact hy⟩,⟨hz2,?_,⟨u,u2,up _ _ D.TOz hTO'⟩,h1'.at fun o q=>up _ o D.i1z q,h2'.at fun o q=>up _ o D.i2z q⟩,fun c hc=>?_⟩
    . exact up _ _ D.TIz (hk _ _ D.TIz D.TITO D.TIi1 D.TIi2 hTI)
    . have lt:c < s.heap.objs.size:=by
        rcases List.mem_cons.mp hc with rfl | hc
        . exact Heap.lt_size hz
        rcases List.mem_cons.mp hc with rfl | hc
        . exact Heap.lt_size hTI
        rcases List.mem_cons.mp hc with rfl | hc
        . exact Heap.lt_size hTO
        rcases List.mem_cons.mp hc with rfl | hc
        . obtain ⟨o,q,_⟩:=h1; exact Heap.lt_size q
        . have e:c=i2:=by simpa using hc
          subst e
          obtain ⟨o,q,_⟩:=h2; exact Heap.lt_size q
      rw [upd_ne (Nat.ne_of_lt lt)]
      exact (hf c hc).1
  done:=by
    intro X hP hw hK hc i pins s σ H E I hf st hg
    subst hP hw hK
    obtain ⟨xs,ys,hqa,hqb,hx⟩:=hg
    obtain ⟨hz,hTI,⟨p0,q0,hTO⟩,h1,h2⟩:=st
    obtain ⟨its,rv,pa,hza⟩:=I.list hqa
    obtain ⟨its2,rv2,pb,hzb⟩:=I.list hqb
    have hl:=rv.length
    have hl2:=rv2.length
    refine wpAny_pyNext_zip_end (I.ok.hd hc) D hz hTI hTO h1 h2 pa.isList pb.isList ?_ fun h' hk=>⟨rfl,I.turnedL (t':=s.toks) hf fun c o hc q=>hk c o (fun e=>hc (by simp [e])) (fun e=>hc (by simp [e])) (fun e=>hc (by simp [e])) (fun e=>hc (by simp [e])) q⟩
    rcases hx with h | h
    . exact .inl (by simp; omega)
    . exact .inr (by simp; omega)
  self:=fun A i s Q E st h=>wpAny_pyIter_zip st.1 h
theorem jYU:bootBuiltins "zip"=some (.type "zip"):=by decide +kernel
def iZip (K:PySem.W.Frag) (ta:TA):TI:=fun σ H R=>ta σ H fun vs H1=>∃ a b,vs=[.ref a,.ref b] /\ (∃ xs,SqL K H1 a xs) /\ (∃ xs,SqL K H1 b xs) /\ R (Itz K a b) H1
theorem qJ3 {X:Cx} {els:List Expr} {kk:Nat} {tp:Pos} {l l2:Expr} {ta:TA} {p pos:Pos} (hg:Gl X "zip") (hm:X.mg "zip"=none) (ha:PA X [l,l2] ta) (hs:starEach [l,l2] X.env=(false,eval l X.env) :: starEach [l2] X.env:=by rfl) (hpl:(backTo pos (starEach [l2] X.env)).any (·.1)=false:=by rfl) :
    PI X (.Tuple els kk tp) (.Call (.Name "zip" p) [l,l2] [] pos) (iZip X.K ta):=by
  intro pins s σ H R I h
  refine Call_ (ld_blt I hg hm jYU (PyProof.Rows.callWith_type1 (thn (ha pos pins s σ H _ I h) fun us s1 ⟨vs,H1,I1,r1,q1⟩=>?_) hs hpl))
  obtain ⟨a,b,rfl,⟨xs,hqa⟩,⟨ys,hqb⟩,q⟩:=q1
  obtain ⟨u,u2,rfl,ru,ru2⟩:=vals2 r1
  cases ru
  cases ru2
  obtain ⟨its,rv,pa,hza⟩:=I1.list hqa
  obtain ⟨its2,rv2,pb,hzb⟩:=I1.list hqb
  have la:a < s1.heap.objs.size:=by obtain ⟨o,e,_⟩:=pa.isList; exact Heap.lt_size e
  have lb:b < s1.heap.objs.size:=by obtain ⟨o,e,_⟩:=pb.isList; exact Heap.lt_size e
  refine call_zip_2 pa.isList pb.isList fun h1 hz hTI hTO h1i h2i hsz hk=>?_
  refine wpAny_pyIter_zip hz ?_
  have I2:Inv X pins σ H1 { s1 with heap:=h1 }:=I1.kept (t':=s1.toks) hk
  have D:ZipApart (s1.heap.objs.size + 4) (s1.heap.objs.size + 2) (s1.heap.objs.size + 3) s1.heap.objs.size (s1.heap.objs.size + 1) a b:=by
    have la':@LT.lt Nat _ a s1.heap.objs.size:=la
    have lb':@LT.lt Nat _ b s1.heap.objs.size:=lb
    constructor <;> (show @Ne Nat _ _) <;> omega
  refine ⟨_,[s1.heap.objs.size + 4,s1.heap.objs.size + 2,s1.heap.objs.size + 3,s1.heap.objs.size,s1.heap.objs.size + 1],_,_,H1,rfl,I2,qK3 a b _ _ _ _ _ D,⟨hz,hTI,⟨_,_,hTO⟩,h1i,h2i⟩,fun c hc=>?_,q⟩
  have le:s1.heap.objs.size <= c:=by
    simp only [List.mem_cons,List.not_mem_nil,or_false] at hc
    show (_:Nat) <= (_:Nat)
    rcases hc with h | h | h | h | h <;> rw [h] <;> first | exact Nat.le_refl _ | exact Nat.le_add_right _ _
  exact I1.fpOk le (I1.hok.fresh le)
end L2
namespace L3
open PySem PySem.Spec PyProof.Rows L2
section
variable {X:Cx} {G:Gx} {Er:ER} {a b e:Expr} {pos p px apos:Pos} {C Ca Cb:En -> Prop} {gl hl:En -> List Int} {i j k:Nat} {x:Str}
theorem jZY {r:R2} {σ:L2.St} {H:Hp} {B:Bs} {ρ:En} {O:Addr -> Bool} {Q:VK} (R:Rep X.K G B σ H ρ O) (ca:Ca ρ) (cb:Cb ρ) (q:∀ l m H1 H2,Same H H1 -> Same H1 H2 -> Rd H2 l (.lst ((gl ρ).map V.int)) -> Rd H2 m (.lst ((hl ρ).map V.int)) -> r (.ref l) (.ref m) H2 Q) :
    tOp r (tXr X.K G Ca fun ρ=>.ints (gl ρ)) (tXr X.K G Cb fun ρ=>.ints (hl ρ)) σ H Q :=
  ⟨B,ρ,O,R,ca,fun v H1 s1 a1=>⟨B,ρ,O,R.grow s1,cb,fun u H2 s2 a2=>by
    obtain ⟨l,rfl,r1⟩:=a1
    obtain ⟨m,rfl,r2⟩:=a2
    exact q l m H1 H2 s1 s2 (yQZ s2 r1) r2⟩⟩
theorem jYK (hu:X.A.units + 64 < cLine) (ha:PE X a (tXr X.K G Ca fun ρ=>.ints (gl ρ))) (hb:PE X b (tXr X.K G Cb fun ρ=>.ints (hl ρ))):PE X (.Compare a [.Eq] [b] pos) (tXB X.K G (fun ρ=>Ca ρ /\ Cb ρ) fun ρ=>gl ρ=hl ρ) :=
  toX (pe_cmpR (qYY hu) ha hb (nomark _)) fun _ _ _ _ _ _ R c q=>jZY R c.1 c.2 fun l m _ H2 s1 s2 r1 r2=>⟨l,m,_,_,rfl,rfl,r1,r2,q _ H2 (s1.trans s2) rfl⟩
theorem jXU (hu:X.A.units + 64 < cLine) (ha:PE X a (tXr X.K G Ca fun ρ=>.ints (gl ρ))) (hb:PE X b (tXr X.K G Cb fun ρ=>.ints (hl ρ))):PT X (.Compare a [.Eq] [b] pos) (tXT X.K G (fun ρ=>Ca ρ /\ Cb ρ) fun ρ=>gl ρ=hl ρ) :=
  fun pins s σ H Q I ⟨_,_,_,R,c,q⟩=>pt_cmpR (qYY hu) ha hb (nomark _) pins s σ H Q I (jZY R c.1 c.2 fun l m _ H2 s1 s2 r1 r2=>⟨l,m,_,_,rfl,rfl,r1,r2,_,rfl,q H2 (s1.trans s2)⟩)
theorem jY6 (hu:X.A.units + 64 < cLine) (ha:PE X a (tXr X.K G Ca fun ρ=>.ints (gl ρ))) (hb:PE X b (tXr X.K G Cb fun ρ=>.ints (hl ρ))):PT X (.Compare a [.NotEq] [b] pos) (tXT X.K G (fun ρ=>Ca ρ /\ Cb ρ) fun ρ=>¬ gl ρ=hl ρ) :=
  fun pins s σ H Q I ⟨_,_,_,R,c,q⟩=>pt_cmpR (jQQ hu) ha hb (nomark _) pins s σ H Q I (jZY R c.1 c.2 fun l m _ H2 s1 s2 r1 r2=>⟨l,m,_,_,rfl,rfl,r1,r2,_,rfl,q H2 (s1.trans s2)⟩)
theorem jYY (hcm:X.calm=true) (hm:X.mg "sum"=none) (ha:PE X a (tXL X.K G Ca gl)) (hg:Gl X "sum":=by rfl) (he:starEach [a] X.env=[(false,eval a X.env)]:=by rfl):PE X (.Call (.Name "sum" p) [a] [] pos) (tXI X.K G Ca fun ρ=>(gl ρ).sum) :=
  toX (pe_callB (qJX hcm) hg hm jY7 (pa_cons ha pa_nil he) (by decide) (by decide) he rfl) fun B σ H ρ O Q R c q=>⟨B,ρ,O,R,c,fun v H1 s1 a1=>by
    obtain ⟨l,rfl,r1⟩:=a1
    exact ⟨l,_,rfl,yQZ yZV r1,q _ H1 s1 rfl⟩⟩
def pvI:PV -> Int
  | .int n=>n
  | _=>0
def pvL:PV -> List Int
  | .ints ns=>ns
  | _=>[]
theorem zW5 {g:En -> PV} (h:PE X e (tX X.K G C g)):PE X e (tXI X.K G (fun ρ=>C ρ /\ g ρ=.int (pvI (g ρ))) fun ρ=>pvI (g ρ)) :=
  toX h fun B σ H ρ O Q R c q=>⟨B,ρ,O,R,c.1,fun v H' s a=>q v H' s (by rw [<- c.2]; exact a)⟩
theorem xl_of {g:En -> PV} (h:PE X e (tX X.K G C g)):PE X e (tXL X.K G (fun ρ=>C ρ /\ g ρ=.ints (pvL (g ρ))) fun ρ=>pvL (g ρ)) :=
  toX h fun B σ H ρ O Q R c q=>⟨B,ρ,O,R,c.1,fun v H' s a=>q v H' s (by rw [<- c.2]; exact a)⟩
def pvP:PV -> List PV
  | .lst xs=>xs
  | _=>[]
theorem yW9 {g:En -> PV} (h:PE X e (tX X.K G C g)):PE X e (tX X.K G (fun ρ=>C ρ /\ g ρ=.lst (pvP (g ρ))) fun ρ=>.lst (pvP (g ρ))) :=
  toX h fun B σ H ρ O Q R c q=>⟨B,ρ,O,R,c.1,fun v H' s a=>q v H' s (by rw [<- c.2]; exact a)⟩
end
theorem jJ3 {H:Hp} {O:Addr -> Bool} {x:Addr} (hd:∀ a,O a=true -> H a ≠ none) (hx:H x=none) {H':Hp}:mn H' O x=H' x:=yU5 (by
  cases z:O x with
  | false=>rfl
  | true=>exact absurd hx (hd x z))
theorem jZ7 {H:Hp} {x dx C:Addr} {fs:List (Str × V)} (hx:H x=none) (hd:H dx=none):Same H (upd (upd (upd H dx (.own x)) x (.ins C dx [])) x (.ins C dx fs)):=fun b o e=>by
  rw [upd_ne (ne_of_none e hx),upd_ne (ne_of_none e hx),upd_ne (ne_of_none e hd)]
  exact e
def KW (cW:Addr) (H:Hp) (a:Addr) (z:Int):Prop:=z=0 /\ ∃ dx fs,H a=some (.ins cW dx fs) /\ fs.lookup ("size":Str)=some (.int 0) /\ ∀ m ∈ kMeths,fs.lookup m=none
section
variable {K:PySem.W.Frag} {G:Gx} {σ:L2.St} {H:Hp} {Q:VK} {Cs Ct Cb:En -> Prop} {pt:En -> Prop} [∀ ρ,Decidable (pt ρ)] {gs hs:En -> List Int} {gi:En -> Int} {gp:En -> PV} {cap:List (Option Nat)}
theorem lc_Z {Cs':En -> Prop} (h:tXp K G (fun ρ=>(Cs ρ /\ Cs' ρ) /\ (gs ρ).length <= 1000 /\ ∀ n m,(n,m) ∈ (gs ρ).zip (hs ρ) -> Cb (((capR (none :: none :: cap) ρ).set 0 (.fr (.int n))).set 1 (.fr (.int m))))
      (fun ρ=>((gs ρ).zip (hs ρ)).map fun p=>gp (((capR (none :: none :: cap) ρ).set 0 (.fr (.int p.1))).set 1 (.fr (.int p.2)))) σ H Q) :
    tLC (none :: none :: cap) (iZip K (tCons (tXr K G Cs fun ρ=>.ints (gs ρ)) (tCons (tXr K G Cs' fun ρ=>.ints (hs ρ)) tNil))) (gTup K 2 (gCons (gName 0) (gCons (gName 1) gNil))) noTest (tX K G Cb gp) σ H Q:=by
  obtain ⟨B,ρ,O,R,⟨⟨c1,c1'⟩,c2,c3⟩,q⟩:=h
  refine ⟨B,ρ,O,R,c1,fun v H1 s1 a1=>⟨B,ρ,O,R.grow s1,c1',fun u H2 s2 a2=>?_⟩⟩
  obtain ⟨a,rfl,hq⟩:=a1
  obtain ⟨b,rfl,hq'⟩:=a2
  have hq1:SqL K H2 a ((gs ρ).map V.int):=.inl (yQZ s2 hq)
  have hq2:SqL K H2 b ((hs ρ).map V.int):=.inl hq'
  refine ⟨a,b,rfl,⟨_,hq1⟩,⟨_,hq2⟩,fun D hD=>?_⟩
  have hz:((gs ρ).zip (hs ρ)).length=min (gs ρ).length (hs ρ).length:=List.length_zip
  have at1:∀ i,i < ((gs ρ).zip (hs ρ)).length -> i < (gs ρ).length /\ i < (hs ρ).length:=fun i h=>by rw [hz] at h; omega
  refine yWH ((gs ρ).zip (hs ρ)) (fun p _=>((capS (none :: none :: cap) σ).set 0 (some (.int p.1))).set 1 (some (.int p.2))) (fun p=>((capR (none :: none :: cap) ρ).set 0 (.fr (.int p.1))).set 1 (.fr (.int p.2))) (fun p=>.int p.1) ((R.grow s1).grow s2) hD (by rw [hz]; omega)
    (fun i H hi s=>⟨_,_,.int ((gs ρ)[i]'(at1 i hi).1),.int ((hs ρ)[i]'(at1 i hi).2),s.seq hq1,s.seq hq2,by simp [(at1 i hi).1],by simp [(at1 i hi).2]⟩) ?_ (fun H s=>⟨_,_,s.seq hq1,s.seq hq2,by rw [hz,List.length_map,List.length_map]; omega⟩) (fun p H _ s R'=>(R'.set (p:=.int p.1) rfl).set (p:=.int p.2) rfl) ?_ ?_ ?_
  . rintro i ⟨n,m⟩ x H H' en s ⟨T,y,y',rfl,hT,rfl,hx,hx'⟩
    obtain ⟨n',rfl,hn⟩:=int_at (hx _ (s.seq hq1))
    obtain ⟨m',rfl,hm⟩:=int_at (hx' _ (s.seq hq2))
    have en:(n',m')=(n,m):=by
      rw [List.getElem?_zip_eq_some] at en
      have e1:=en.1
      have e2:=en.2
      rw [hn] at e1
      rw [hm] at e2
      rw [Option.some.inj e1,Option.some.inj e2]
    cases en
    exact ⟨same_new hT _,fun kk hk=>⟨T,_,rfl,SqT.of upd_same,rfl,_,_,rfl,_,_,rfl,rfl,hk⟩⟩
  . rintro ⟨n,m⟩
    show ExtS (none :: none :: capS cap σ) (some (.int n) :: some (.int m) :: capS cap σ)
    exact yX1 _
  . rintro ⟨n,m⟩ hm
    exact c3 n m hm
  . intro H' ys s hd al
    exact q D ys H' ((s1.trans s2).trans s) ((s1.trans s2).free hD) hd al
end
section
variable {X:Cx} {G:Gx} {Er:ER} {N':List Str} {sc:Scope} {cl:List (Str × Addr)} {cap:List (Option Nat)} {el tg src tst l l2:Expr} {at' spos px p pos':Pos} {Cs Cs' Ct Cb:En -> Prop} {pt:En -> Prop} [∀ ρ,Decidable (pt ρ)] {gs hs:En -> List Int} {gi:En -> Int} {gp:En -> PV} {i:Nat} {x:Str}
theorem qK4 {kk:Nat} {tp:Pos} {els:List Expr} (L:LcOk X N' sc cl (none :: none :: cap)) (hc:X.calm=true) (hgl:Gl X "zip") (hm:X.mg "zip"=none) (h1:PE X l (tXr X.K G Cs fun ρ=>.ints (gs ρ))) (h2:PE X l2 (tXr X.K G Cs' fun ρ=>.ints (hs ρ))) (hg:∀ s H fp,PG (cxComp X N' sc cl s H fp) (.Tuple els kk tp) (gTup X.K 2 (gCons (gName 0) (gCons (gName 1) gNil)))) (he:∀ s H fp,PE (cxComp X N' sc cl s H fp) el (tXI X.K G Cb gi))
    (hst:starEach [l,l2] X.env=(false,eval l X.env) :: starEach [l2] X.env:=by rfl) (hst2:starEach [l2] X.env=[(false,eval l2 X.env)]:=by rfl) (hpl:(backTo pos' (starEach [l2] X.env)).any (·.1)=false:=by rfl) (hfs:∀ x,foldedSetIterable (.Call (.Name "zip" p) [l,l2] [] pos') X.env x=pure x:=by intro _; rfl) :
    PE X (.ListComp el [⟨.Tuple els kk tp,.Call (.Name "zip" p) [l,l2] [] pos',[],0⟩] sc at') (tXl X.K G (fun ρ=>(Cs ρ /\ Cs' ρ) /\ (gs ρ).length <= 1000 /\ ∀ n m,(n,m) ∈ (gs ρ).zip (hs ρ) -> Cb (((capR (none :: none :: cap) ρ).set 0 (.fr (.int n))).set 1 (.fr (.int m))))
      fun ρ=>((gs ρ).zip (hs ρ)).map fun p=>gi (((capR (none :: none :: cap) ρ).set 0 (.fr (.int p.1))).set 1 (.fr (.int p.2)))) :=
  fun pins s σ H Q I h=>zV3 L hc (qJ3 hgl hm (pa_cons h1 (pa_cons h2 pa_nil hst2) hst) hst hpl) hg (fun _ _ _=>yX0) he hfs pins s σ H Q I (lc_Z (zY5 h))
end
end L3
namespace L2
open PySem PySem.Spec PyProof.Rows PySem.W PySem.Calls
theorem qK8:∀ (ns:List Int),∀ n ∈ ns,WData.weight (.int n) <= WData.weightAll (ns.map WData.int)
  | [],n,h=>by cases h
  | m :: r,n,h=>by
    rw [List.map_cons]
    simp only [WData.weightAll]
    rcases List.mem_cons.mp h with rfl | h
    . omega
    . have:=qK8 r n h
      omega
theorem jZV {ns:List Int} (h:WData.layableAll [WData.list (ns.map WData.int)]=true) {n:Int} (hn:n ∈ ns):Builtin.Int.intBits n <= 2 ^ 20:=by
  have h1:WData.layable (WData.list (ns.map WData.int))=true:=List.all_eq_true.mp h _ List.mem_cons_self
  unfold WData.layable at h1
  rw [Bool.and_eq_true] at h1
  have h2:=of_decide_eq_true h1.2
  have h3:=qK8 ns n hn
  simp only [WData.weight] at h2 h3
  exact Nat.le_trans h3 h2
theorem qW3 {l:PySem.W.OpenLaw} {n k:Nat} {q:Program} {loose:List Str} {XP:(Str -> Option Value) -> Heap -> Prop} {YP:World -> Heap -> Prop} {d:DefRec} {K:Params -> PySem.W.Frag} {CX:World -> CXT} {sp:World -> Sp} {x:Str}
    (hn:l.most=some n) (hn2:n <= sizeLine) (hdf:d.params.defaults=[]) (hr:Room k callerA) (hY:∀ (w:World) (h:Heap),YP w h -> (K w.params).In h)
    (F:∀ (w:World) (mg:Str -> Option Value) (fa:Addr) (h:Heap),(K w.params).In h -> h.Ns mainGlobals mg -> mg d.name=some (.ref fa) ->
      ∃ fd:FuncData,(∀ (s:Shared) (u:Value),BindsTo s fd ⟨[u],[]⟩ [(x,u)]) /\ ∀ base:Heap,(K w.params).In base -> base.Ns mainGlobals mg -> FnOk l.prog w (K w.params) mg base (CX w) k fa fd [x] (sp w))
    (hsp:∀ (w:World) (H:Hp) (a:Addr) (ns:List Int),ns.length <= n -> (∀ m ∈ ns,Builtin.Int.intBits m <= 2 ^ 20) -> SqL (K w.params) H a (ns.map V.int) -> sp w [.ref a] H (fun v _=>v=.bl true) fun _ _ _=>False)
    (hCX:∀ (w:World) (H:Hp) (s:Shared) (e:Value) (s':Shared),CX w [] H s (fun _ _ _=>False) e s' -> False):PySem.W.WalkO q loose XP YP l.row.toRowW d [] (fun f vs=>PySem.call f vs):=by
  intro w s₀ s₁ mg mb G Y fa o pm cd doc dV kV ho hd hcd hD hmg hg args vals as hpre hlay hrd hwl hlo
  obtain rfl:dV=.none:=Dflts.none hD hdf
  obtain rfl:kV=.none:=Dflts.noKw hD
  obtain ⟨a,vs,ns,rfl,rfl,hobj,hints,hlen⟩:=Att.script_of hn hpre hwl
  have KX:=hY w _ Y
  obtain ⟨fd,hb,hF⟩:=F w mg fa _ KX G.T.g hmg
  refine enter_call (codeAny_mono (law_call KX G.T.g G.T.b G.T.builtins G.T.nolimit hg hobj hints (Nat.le_trans hlen hn2) hr hF hb (fun H hO hS=>hsp w H a ns hlen (fun m hm=>jZV hlay hm) hS) fun H e s'=>hCX w H s₁ e s') fun r s' hq=>?_)
  obtain ⟨rfl,h2,h3,h4⟩:=hq
  exact ⟨.inl ⟨.bool true,.bool true,[],rfl,fun _=>rfl,.bool true,Att.post_true l _,fun _=>⟨List.Pairwise.nil,fun _ hm=>(nomatch hm)⟩⟩,h2,h3,h4⟩
def spLaw2 (K:PySem.W.Frag):Sp:=fun vs H Q _=>∃ (a:Addr) (ns:List Int),vs=[.ref a] /\ SqL K H a (ns.map V.int) /\ ns.length <= 63 /\ (∀ m ∈ ns,Builtin.Int.intBits m <= 2 ^ 20) /\ ∀ H',Q (.bl true) H'
end L2
namespace L3
open PySem PySem.Spec PyProof.Rows L2
theorem lawF2 {P:Program} {w:World} {K:PySem.W.Frag} {mg:Str -> Option Value} {base:Heap} {G:Gx} {k:Nat} {x:Str} {st:Stmt} {N:List Str} {f:Addr} {fd:FuncData} {y:Str} (F:Fun K x x st f fd) (S:FnScope N [y] (defScope st))
    (hbody:∀ (cdv:Value) (A:Around) (outer:List Env) (s:Shared) (H:Hp) (E:XK),Room k (A.deeper (envOfC x (defScope st) s.heap.objs.size f cdv)) ->
      ∃ fs,PSs (cxOf CX0 P w K mg base N x (defScope st) f cdv A outer s H E).nox (defBody st) (ts K G ER0 fs) /\ ∀ ns:List Int,ns.length <= 63 -> (∀ m ∈ ns,Builtin.Int.intBits m <= 2 ^ 20) -> fs { nx:=fun _=>False,rt:=fun p=>p=.bl true } (startR N [.scr ns])):FnOk P w K mg base CX0 (k + 1) f fd [y] (spLaw2 K):=by
  refine F.ok S (fun vs H Q E h=>?_) fun cdv A outer s H vs Q E hr h=>?_
  . obtain ⟨a,ns,rfl,_⟩:=h
    rfl
  obtain ⟨a,ns,rfl,hS,hl,hb,q⟩:=h
  obtain ⟨fs,b,c⟩:=hbody cdv A outer s H E hr
  have al:AtL K G (mn H fun _=>false) [.scr ns] [.ref a]:=⟨_,_,rfl,⟨a,rfl,by rw [jVJ]; exact hS⟩,rfl⟩
  refine ⟨_,b,⟨H,fun _=>false⟩,startR N [.scr ns],_,⟨_,yH4 (fun _ z=>by cases z) al⟩,c ns hl hb,⟨fun _ _ _ _ h=>h.elim,fun v H' p s' a' h=>?_,fun _ _ _ _ _ _ h=>h.elim,fun _ _ _ _ _ h=>h.elim,fun _ _ _ _ h=>h,fun _ _ _ _ h=>h,fun _ _ _ h=>h⟩⟩
  have h:p=.bl true:=h
  subst h
  have a':v=.bl true:=a'
  subst a'
  exact q H'
end L3
namespace FM
open L2
structure Eu (n z b r sb s:Int):Prop where
  r0:0 <= r
  rb:r < b
  bz:b <= z
  db:z ∣ b - sb * n
  dr:z ∣ r - s * n
  gc:Int.gcd b r=Int.gcd n z
  sg:(sb <= 0 /\ 0 <= s) \/ (0 <= sb /\ s <= 0)
  id:(s.natAbs:Int) * b + (sb.natAbs:Int) * r=z
theorem qZZ (n z:Int):Int.gcd z (n % z)=Int.gcd n z:=by
  rw [Int.emod_def,Int.gcd_sub_mul_left_right,Int.gcd_comm]
theorem Eu.start {n z:Int} (hz:2 <= z):Eu n z z (n % z) 0 1:=by
  refine ⟨Int.emod_nonneg _ (by omega),Int.emod_lt_of_pos _ (by omega),Int.le_refl _,?_,?_,qZZ n z,.inl ⟨by omega,by omega⟩,?_⟩
  . rw [Int.zero_mul,Int.sub_zero]; exact Int.dvd_refl z
  . rw [Int.one_mul,Int.emod_def]
    exact ⟨-(n / z),by rw [Int.mul_neg]; omega⟩
  . show (1:Int) * z + ((0:Int).natAbs:Int) * (n % z)=z
    rw [Int.one_mul]
    show z + (0:Int) * (n % z)=z
    rw [Int.zero_mul]; omega
theorem Eu.rest {b r:Int} (h:0 < r):b - b / r * r=b % r:=by rw [Int.emod_def,Int.mul_comm]
theorem Eu.step {n z b r sb s:Int} (h:Eu n z b r sb s) (hr:r ≠ 0):Eu n z r (b - b / r * r) s (sb - b / r * s):=by
  have r0:0 < r:=by have:=h.r0; omega
  have q0:0 <= b / r:=Int.ediv_nonneg (by have:=h.rb; omega) (by omega)
  have er:=Eu.rest (b:=b) r0
  have abs:((sb - b / r * s).natAbs:Int)=(sb.natAbs:Int) + b / r * (s.natAbs:Int):=by
    rcases h.sg with ⟨h1,h2⟩ | ⟨h1,h2⟩
    . have e1:0 <= b / r * s:=Int.mul_nonneg q0 h2
      have e2:(s.natAbs:Int)=s:=by omega
      rw [e2]
      omega
    . have e1:b / r * s <= 0:=Int.mul_nonpos_of_nonneg_of_nonpos q0 h2
      have e2:(s.natAbs:Int) = -s:=by omega
      rw [e2,Int.mul_neg]
      omega
  refine ⟨?_,?_,by have:=h.rb; have:=h.bz; omega,h.dr,?_,?_,?_,?_⟩
  . rw [er]; exact Int.emod_nonneg _ (by omega)
  . rw [er]; exact Int.emod_lt_of_pos _ r0
  . obtain ⟨u,hu⟩:=h.db
    obtain ⟨v,hv⟩:=h.dr
    refine ⟨u - b / r * v,?_⟩
    have e:b - b / r * r - (sb - b / r * s) * n=(b - sb * n) - b / r * (r - s * n):=by
      rw [Int.sub_mul,Int.mul_sub,Int.mul_assoc]; omega
    rw [e,hu,hv,Int.mul_sub,Int.mul_left_comm]
  . rw [er,<- h.gc,qZZ]
  . rcases h.sg with ⟨h1,h2⟩ | ⟨h1,h2⟩
    . exact .inr ⟨h2,by have:=Int.mul_nonneg q0 h2; omega⟩
    . exact .inl ⟨h2,by have:=Int.mul_nonpos_of_nonneg_of_nonpos q0 h2; omega⟩
  . rw [abs,<- h.id,Int.add_mul,Int.mul_sub,Int.mul_assoc,Int.mul_comm (b / r) ((s.natAbs:Int) * r),Int.mul_assoc,Int.mul_comm r (b / r)]
    omega
theorem Eu.end {n z b sb s:Int} (h:Eu n z b 0 sb s):b=(Int.gcd n z:Int):=by
  have:=h.gc
  rw [Int.gcd_zero_right] at this
  have:=h.rb
  omega
theorem Eu.one {n z b sb s:Int} (hz:2 <= z) (h:Eu n z b 0 sb s) (h1:b=1):(sb % z * n) % z=1:=by
  have hd:=h.db
  rw [h1] at hd
  have e:(sb % z * n) % z=(sb * n) % z:=by rw [Int.mul_emod,Int.emod_emod_of_dvd _ (Int.dvd_refl z),<- Int.mul_emod]
  rw [e]
  have e2:(1 - sb * n) % z=0:=Int.emod_eq_zero_of_dvd hd
  have e3:=(Int.emod_eq_emod_iff_emod_sub_eq_zero (m:=1) (n:=z) (k:=sb * n)).mpr e2
  rw [<- e3]
  exact Int.emod_eq_of_lt (by omega) (by omega)
end FM
namespace L2
open PySem PySem.Spec PyProof.Rows
section
variable {X:Cx} {pins:List (Addr × Obj)} {σ:St} {H:Hp} {s:Shared} {h':Heap} {ch:List Addr}
theorem Inv.noted {t':Nat} (I:Inv X pins σ H s) (hl:X.env.locals ∈ frs X.stack)
    (hch:∀ b ∈ ch,X.s₀.heap.get? b=none /\ H b=none /\ b ∉ frs X.stack /\ (∀ x c,X.env.cells.lookup x=some c -> c ≠ b) /\ ∀ p ∈ X.pn ++ pins,p.1 ≠ b)
    (keep:∀ b o,b ∉ ch -> b ∉ frs X.stack -> s.heap.get? b=some o -> h'.get? b=some o) (slot:∀ b o,b ∈ frs X.stack -> s.heap.get? b=some o -> ∃ sl,h'.get? b=some { o with slots:=sl }):Inv X pins σ H { s with heap:=h',toks:=t' }:=by
  have any:∀ b o,b ∉ ch -> s.heap.get? b=some o -> ∃ sl,h'.get? b=some { o with slots:=sl }:=fun b o hb e=>by
    by_cases c:b ∈ frs X.stack
    . exact slot b o c e
    . exact ⟨o.slots,keep b o hb c e⟩
  have noC:∀ b o,X.s₀.heap.get? b=some o -> b ∉ ch:=fun b o e z=>by rw [(hch b z).1] at e; cases e
  have neL:∀ b o,X.s₀.heap.get? b=some o -> b ≠ X.env.locals:=fun b o e=>Nat.ne_of_lt (Nat.lt_of_lt_of_le (Heap.lt_size e) I.ok.above)
  have cellK:∀ x c,X.env.cells.lookup x=some c -> ∀ v,s.heap.IsCell c v -> h'.IsCell c v:=fun x c e v ⟨o,ho,hd⟩=>by
    obtain ⟨sl,q⟩:=any c o (fun z=>(hch c z).2.2.2.1 x c e rfl) ho
    exact ⟨_,q,hd⟩
  refine ⟨I.ok,I.os,I.bare,⟨fun b o e n hbf hx=>?_,fun b o e n hbf hx=>?_,I.base.free,fun b o e hx=>?_,I.base.tups,I.base.frzs,I.base.tbls⟩,?_,fun x c e=>?_,I.free,I.freeC,fun p hp=>?_,fun b o e=>?_,I.len⟩
  . refine keep b o (noC b o e) (fun z=>?_) (I.base.keep b o e n hbf hx)
    rcases List.mem_cons.mp (I.stkSub b z) with q | q
    . exact neL b o e q
    . exact hbf q
  . obtain ⟨sl,e1⟩:=I.base.slot b o e n hbf hx
    obtain ⟨sl2,e2⟩:=any b _ (noC b o e) e1
    exact ⟨sl2,e2⟩
  . obtain ⟨o',e1⟩:=I.base.there b o e hx
    obtain ⟨sl2,e2⟩:=any b o' (noC b o e) e1
    exact ⟨_,e2⟩
  . obtain ⟨m,⟨o,es,ep,ho,r⟩,hloc⟩:=I.loc
    obtain ⟨sl,e⟩:=slot _ o hl ho
    refine ⟨m,⟨_,es,ep,e,r⟩,fun i x v h1 h2 h3=>?_⟩
    obtain ⟨u,ru,l⟩:=hloc i x v h1 h2 h3
    refine ⟨u,ru,?_⟩
    rcases l with l | ⟨k,c,hc,ic⟩
    . exact .inl l
    . exact .inr ⟨k,c,hc,cellK x c hc _ ic⟩
  . obtain ⟨v,ic⟩:=I.cell x c e
    exact ⟨v,cellK x c e v ic⟩
  . obtain ⟨a1,a2,a3,a4,a5⟩:=I.pin p hp
    refine ⟨keep p.1 p.2 (fun z=>(hch _ z).2.2.2.2 p hp rfl) (fun z=>?_) a1,a2,a3,a4,a5⟩
    rcases List.mem_cons.mp (I.stkSub _ z) with q | q
    . exact a3 q
    . exact a4 q
  . refine (I.hok b o e).stay (fun c u hc q=>keep c u (fun z=>?_) (fun z=>?_) q) (fun _ q=>q) fun _ _ q=>q
    . have hn:=(hch c z).2.1
      rcases hc with rfl | hc
      . rw [hn] at e; cases e
      . rw [hn] at hc; cases hc
    . have hn:=I.stkFree c z
      rcases hc with rfl | hc
      . rw [hn] at e; cases e
      . rw [hn] at hc; cases hc
theorem Inv.newAt (I:Inv X pins σ H s) (hex:X.ex=[]) {b:Addr} (hb:s.heap.get? b=none):X.s₀.heap.get? b=none /\ b ∉ frs X.stack /\ (∀ x c,X.env.cells.lookup x=some c -> c ≠ b) /\ ∀ p ∈ X.pn ++ pins,p.1 ≠ b:=by
  refine ⟨?_,fun z=>?_,fun x c e z=>?_,fun p hp z=>?_⟩
  . cases q:X.s₀.heap.get? b with
    | none=>rfl
    | some o =>
      obtain ⟨o',e⟩:=I.base.there b o q (by rw [hex]; simp)
      rw [hb] at e; cases e
  . obtain ⟨_,o,e,_⟩:=I.stack.mem z
    rw [hb] at e; cases e
  . obtain ⟨v,o,e',_⟩:=I.cell x c e
    rw [z,hb] at e'; cases e'
  . have e:=(I.pin p hp).1
    rw [z,hb] at e; cases e
end
section
variable {X:Cx} {pins:List (Addr × Obj)} {σ:St} {H1 H':Hp} {s1 s':Shared} {a:Addr} {cls:Value}
theorem qV6 {M:Model} {Q:Shared -> Prop} {E':Value -> Shared -> Prop} (I:Inv X pins σ H1 s1) (hst:X.stack=X.env :: X.outer) (hfr:X.env.frame=some X.env.locals) (hex:X.ex=[]) (ho:s'.os=s1.os) (hb:AllBare s'.gens)
    (u:Un (frs X.stack) [] H1 H' s1.heap s'.heap) (hok:HOk X.prog X.w H' s'.heap) (F:Fly s1.heap H' s'.heap a cls)
    (hQ:∀ h',Inv X pins σ H' { s' with heap:=h' } -> Fly s1.heap H' h' a cls -> Q { s' with heap:=h' }) :
    wpAny M X.A (noteFrame (.ref a) X.env) (fun _ s2=>wpAny M X.A (setFlight (.ref a) none) (fun _ s3=>Q s3) E' s2) E' s':=by
  have J:Inv X pins σ H' s':=I.call' (ch:=[]) ho u hok hb (fun b z=>absurd z (by simp))
  obtain ⟨oe,vs,T,oT,ts,he,hcls,hdi,hd,h1,hTe,hT,hdT,h3,hHT,hsT⟩:=F.ex
  subst hcls
  have hA:X.A.frames=some (X.env :: X.outer):=by rw [<- hst]; exact I.ok.frames
  have FF:=J.stack
  have na:=I.newAt hex F.new
  have nT:=I.newAt hex hsT
  have hl:X.env.locals ∈ frs X.stack:=by rw [hst]; unfold frs; rw [List.filterMap_cons,hfr]; exact List.mem_cons_self
  refine zV9 (as:=a :: T :: frs X.stack) (Q:=fun _ s3=>Q s3) hA (by rw [<- hst]; exact FF) hfr he hdi hd h1 hTe hT hdT h3 List.mem_cons_self (List.mem_cons_of_mem _ List.mem_cons_self) (fun b z=>List.mem_cons_of_mem _ (List.mem_cons_of_mem _ (by rw [hst]; exact z))) fun h3' L=>?_
  rw [<- hst] at L
  obtain ⟨oe',vs',T',oT',ts',he',hc',hdi',hd',h1',hnT',hTe',hT',hdT',h3''⟩:=L.ex
  have J3:Inv X pins σ H' { s' with heap:=h3' }:=J.noted (t':=s'.toks) (ch:=[a,T]) hl (fun b z=>by
      rcases List.mem_cons.mp z with rfl | z
      . exact ⟨na.1,F.un,na.2.1,na.2.2.1,na.2.2.2⟩
      . have e:b=T:=by simpa using z
        subst e
        exact ⟨nT.1,hHT,nT.2.1,nT.2.2.1,nT.2.2.2⟩)
    (fun b o hb hf e=>L.keep b o e (by
      intro z
      rcases List.mem_cons.mp z with q | z
      . exact hb (by simp [q])
      . rcases List.mem_cons.mp z with q | z
        . exact hb (by simp [q])
        . exact hf z)) L.slot
  have tn:H' T'=none /\ s1.heap.get? T'=none:=by
    refine ⟨J.untracked hnT',?_⟩
    cases q:s1.heap.get? T' with
    | none=>rfl
    | some o=>obtain ⟨o',e'⟩:=u.there T' o q (by simp); rw [hnT'] at e'; cases e'
  exact hQ h3' J3 ⟨⟨oe',vs',T',oT',ts',he',hc',hdi',hd',h1',hTe',hT',hdT',h3'',tn.1,tn.2⟩,F.un,F.new⟩
end
section
variable {X:Cx} {pins:List (Addr × Obj)} {σ:St} {H H':Hp} {s:Shared} {h0:Heap} {a:Addr} {cls:Value}
theorem zHU {M:Model} {A:Around} {Q:Unit -> Shared -> Prop} {E':Value -> Shared -> Prop} (J:Inv X pins σ H' s) (hst:X.stack=X.env :: X.outer) (hfr:X.env.frame=some X.env.locals) (F:Fly h0 H' s.heap a cls)
    (nw:∀ b,h0.get? b=none -> X.s₀.heap.get? b=none /\ b ∉ frs X.stack /\ (∀ x c,X.env.cells.lookup x=some c -> c ≠ b) /\ ∀ p ∈ X.pn ++ pins,p.1 ≠ b)
    (hQ:∀ h',Inv X pins σ H' { s with heap:=h' } -> Fly h0 H' h' a cls -> Q () { s with heap:=h' }):wpAny M A (setFlight (.ref a) none) Q E' s:=by
  obtain ⟨oe,vs,T,oT,ts,he,hcls,hdi,hd,h1,hTe,hT,hdT,h3,hHT,hsT⟩:=F.ex
  have FF:=J.stack
  have hsz3:3 < ts.size:=(Array.getElem?_eq_some_iff.mp h3).1
  have other:∀ b,b ≠ T -> (s.heap.update T (Obj.mapFields (·.setIfInBounds 3 .none))).get? b=s.heap.get? b:=fun b hb=>Heap.get?_update_other _ _ (Ne.symm hb)
  have nT:=nw T hsT
  have hl:X.env.locals ∈ frs X.stack:=by rw [hst]; unfold frs; rw [List.filterMap_cons,hfr]; exact List.mem_cons_self
  refine wpAny_setFlight_none he hd h1 hT hdT hsz3 (hQ _ ?_ ?_)
  . exact J.noted (t':=s.toks) (ch:=[T]) hl (fun b z=>by
      have e:b=T:=by simpa using z
      subst e
      exact ⟨nT.1,hHT,nT.2.1,nT.2.2.1,nT.2.2.2⟩) (fun b o hb hf e=>(other b (fun z=>hb (by simp [z]))).trans e)
      (fun b o z e=>⟨o.slots,(other b (fun q=>nT.2.1 (by rw [<- q]; exact z))).trans e⟩)
  . refine ⟨⟨oe,vs,T,_,_,(other a (Ne.symm hTe)).trans he,hcls,hdi,hd,h1,hTe,Heap.get?_update_self _ hT (Obj.isFreed_of_fields (Obj.data_mapFields hdT _)),Obj.data_mapFields hdT _,by simp [hsz3],hHT,hsT⟩,F.un,F.new⟩
theorem Inv.gone {n y:Str} {j:Nat} {v:Option Value} {m:Str -> Option Value} {h':Heap} {t':Nat} (I:Inv X pins σ H s) (hN:X.N.Nodup) (hj:X.N[j]?=some y) (hny:y ≠ n) (hl:∀ (i:Nat) (x:Str) (v:V),X.N[i]?=some x -> σ[i]?=some (some v) -> Vis X.env.scope x -> ∃ u,RelV v u /\ Look X.env s.heap m x u)
    (hn:h'.Ns X.env.locals (fun x=>if x=n then v else m x)) (hs:Heap.SameBut X.env.locals s.heap h') {w:V} (hw:σ[j]?=some (some w)):Inv X pins ((List.replicate X.N.length none).set j (some w)) H { s with heap:=h',toks:=t' }:=by
  have neL:∀ b o,X.s₀.heap.get? b=some o -> b ≠ X.env.locals:=fun b o e=>Nat.ne_of_lt (Nat.lt_of_lt_of_le (Heap.lt_size e) I.ok.above)
  refine ⟨I.ok,I.os,I.bare,⟨fun b o e q hb hx=>(hs.2 b (neL b o e)).trans (I.base.keep b o e q hb hx),fun b o e q hb hx=>?_,I.base.free,fun b o e hx=>?_,I.base.tups,I.base.frzs,I.base.tbls⟩,⟨_,hn,fun k x u e1 e2 e3=>?_⟩,fun x c e=>?_,I.free,I.freeC,fun p hp=>?_,fun b o e=>?_,by rw [List.length_set,List.length_replicate]⟩
  . obtain ⟨sl,e1⟩:=I.base.slot b o e q hb hx
    exact ⟨sl,(hs.2 b (neL b o e)).trans e1⟩
  . obtain ⟨o',e1⟩:=I.base.there b o e hx
    exact ⟨o',(hs.2 b (neL b o e)).trans e1⟩
  . have kj:k=j /\ u=w:=by
      rw [List.getElem?_set] at e2
      split at e2
      . rename_i z
        split at e2
        . cases e2; exact ⟨z.symm,rfl⟩
        . cases e2
      . rw [List.getElem?_replicate] at e2
        split at e2 <;> cases e2
    obtain ⟨rfl,rfl⟩:=kj
    rw [hj] at e1
    cases e1
    obtain ⟨u',r',q⟩:=hl k y u hj hw e3
    refine ⟨u',r',?_⟩
    rcases q with ⟨kk,e⟩ | ⟨kk,c,e,z⟩
    . exact .inl ⟨kk,by dsimp only; rw [if_neg hny]; exact e⟩
    . exact .inr ⟨kk,c,e,z.sameBut hs (I.cne y c e)⟩
  . obtain ⟨w',z⟩:=I.cell x c e
    exact ⟨w',z.sameBut hs (I.cne x c e)⟩
  . obtain ⟨e,q,ne,nf,d⟩:=I.pin p hp
    exact ⟨(hs.2 p.1 ne).trans e,q,ne,nf,d⟩
  . refine (I.hok b o e).stay (fun c u hc q=>(hs.2 c (fun z=>?_)).trans q) (fun _ q=>q) fun _ _ q=>q
    subst z
    rcases hc with rfl | hc
    . rw [I.free] at e; cases e
    . rw [I.free] at hc; cases hc
def excO (a:Addr) (cls:Value):HO:=.ext fun h=>∃ o vs,h.get? a=some o /\ o.cls=cls /\ o.dict=none /\ o.data=.fields vs
theorem Inv.trackN {T:Addr} {o:HO} (I:Inv X pins σ H s) (f0:H T=none) (f1:T ≠ X.env.locals) (f3:X.s₀.heap.get? T=none) (f4:∀ x c,X.env.cells.lookup x=some c -> c ≠ T) (f5:∀ p ∈ X.pn ++ pins,p.1 ≠ T)
    (new:ObjOk X.prog X.w (upd H T o) s.heap T o):Inv X pins σ (upd H T o) s:=by
  have ne:∀ {b:Addr} {u:HO},H b=some u -> b ≠ T:=fun e=>ne_of_none e f0
  refine ⟨I.ok,I.os,I.bare,⟨I.base.keep,I.base.slot,fun b ob e n x=>?_,I.base.there,fun b xs e=>?_,fun b ob u e=>?_,fun b ps e=>?_⟩,I.loc,I.cell,by rw [upd_ne (Ne.symm f1)]; exact I.free,fun x c e=>?_,fun p hp=>?_,fun b u e=>?_,I.len⟩
  . have hb:b ≠ T:=fun z=>by rw [z,f3] at e; cases e
    rw [upd_ne hb]; exact I.base.free b ob e n x
  . have q:=I.base.tups b xs e
    rw [upd_ne (ne q)]; exact q
  . have q:=I.base.frzs b ob u e
    rw [upd_ne (ne q)]; exact q
  . obtain ⟨m,q⟩:=I.base.tbls b ps e
    exact ⟨m,by rw [upd_ne (ne q)]; exact q⟩
  . rw [upd_ne (f4 x c e)]; exact I.freeC x c e
  . obtain ⟨a1,a2,a3⟩:=I.pin p hp
    exact ⟨a1,by rw [upd_ne (f5 p hp)]; exact a2,a3⟩
  . by_cases c:b=T
    . subst c; rw [upd_same] at e; cases e; exact new
    . rw [upd_ne c] at e
      exact (I.hok b u e).stay (fun _ _ _ q=>q) (fun d q=>by rw [upd_ne (ne q)]; exact q) fun d xs q=>by rw [upd_ne (ne q)]; exact q
theorem Inv.toPn (I:Inv X pins σ H s) (E:Value -> Shared -> Prop):Inv { X with pn:=X.pn ++ pins,xe:=E } [] σ H s :=
  ⟨⟨I.ok.mod,I.ok.kind,I.ok.glob,I.ok.blt,I.ok.above,I.ok.inj,I.ok.has,I.ok.cab,I.ok.hd,I.ok.frames,I.ok.stk,I.ok.exf,I.ok.bs,I.ok.bsz,I.ok.noex,I.ok.exfs,I.ok.funs,I.ok.frf⟩,I.os,I.bare,I.base,I.loc,I.cell,I.free,I.freeC,fun p hp=>I.pin p (by simpa using hp),I.hok,I.len⟩
theorem Inv.ofPn {E:Value -> Shared -> Prop} {ps:List (Addr × Obj)} (I:Inv { X with pn:=X.pn ++ pins,xe:=E } ps σ H s):Inv X pins σ H s :=
  ⟨⟨I.ok.mod,I.ok.kind,I.ok.glob,I.ok.blt,I.ok.above,I.ok.inj,I.ok.has,I.ok.cab,I.ok.hd,I.ok.frames,I.ok.stk,I.ok.exf,I.ok.bs,I.ok.bsz,I.ok.noex,I.ok.exfs,I.ok.funs,I.ok.frf⟩,I.os,I.bare,I.base,I.loc,I.cell,I.free,I.freeC,fun p hp=>I.pin p (List.mem_append_left _ hp),I.hok,I.len⟩
theorem Inv.mark (I:Inv X pins σ H s) (v:Value) (E:Value -> Shared -> Prop):Inv { X with A:=X.A.mark (some v),calm:=false,xe:=E } pins σ H s :=
  ⟨⟨I.ok.mod,I.ok.kind,I.ok.glob,I.ok.blt,I.ok.above,I.ok.inj,I.ok.has,I.ok.cab,(fun z=>by cases z),I.ok.frames,I.ok.stk,I.ok.exf,I.ok.bs,I.ok.bsz,I.ok.noex,I.ok.exfs,I.ok.funs,I.ok.frf⟩,I.os,I.bare,I.base,I.loc,I.cell,I.free,I.freeC,I.pin,I.hok,I.len⟩
theorem Inv.unmark {v:Value} {E:Value -> Shared -> Prop} (hd:X.calm=true -> X.A.handled=none) (I:Inv { X with A:=X.A.mark (some v),calm:=false,xe:=E } pins σ H s):Inv X pins σ H s :=
  ⟨⟨I.ok.mod,I.ok.kind,I.ok.glob,I.ok.blt,I.ok.above,I.ok.inj,I.ok.has,I.ok.cab,hd,I.ok.frames,I.ok.stk,I.ok.exf,I.ok.bs,I.ok.bsz,I.ok.noex,I.ok.exfs,I.ok.funs,I.ok.frf⟩,I.os,I.bare,I.base,I.loc,I.cell,I.free,I.freeC,I.pin,I.hok,I.len⟩
end
def tTry (K:PySem.W.Frag) (N:Nat) (C:Addr) (j:Nat) (te:XK -> TE):TS:=fun D σ H =>
  te (fun cls _ H'=>PySem.W.exmOne K cls (.ref C)=some true /\ ∀ a,H' a=none -> D.nx ((List.replicate N none).set j (some (.ref a))) (upd H' a (excO a cls))) σ H fun _ H1=>D.nx σ H1
section
variable {X:Cx} {call:Expr} {te:XK -> TE} {x n y:Str} {C:Addr} {i j:Nat} {px py pn hp p1 p2 pos:Pos}
theorem jJK (hc:X.calm=true) (hst:X.stack=X.env :: X.outer) (hfr:X.env.frame=some X.env.locals) (hex:X.ex=[]) (hg:Gl X x) (hm:X.mg x=some (.ref C)) (hN:X.N.Nodup) (hi:X.N[i]?=some n) (hj:X.N[j]?=some y) (hln:X.env.scope.names.lookup n=some .local) (hly:X.env.scope.names.lookup y=some .local)
    (hkn:X.env.kindOf n=some .local) (hny:y ≠ n) (hij:i ≠ j)
    (he:∀ (pn:List (Addr × Obj)) (E':Value -> Shared -> Prop) (Ec:XK),Passes (CXe X.prog X.w) { X with pn:=pn,xe:=E' } Ec -> PE { X with pn:=pn,xe:=E' } call (te Ec))
    (hs:swapsWith call none p1.line X.env=pure false:=by rfl) (hs2:swapsWith (.Name n pn) (some (.Name y py)) p2.line X.env=pure false:=by rfl) (hdx:(x == ("__debug__":Str))=false:=by decide) (hdn:(n == ("__debug__":Str))=false:=by decide) (hdc:(n == ("__classdict__":Str))=false:=by decide) :
    PS X (.Try [.Expr call p1] [.ExceptHandler (some (.Name x px)) (some n) [.Assign [.Name y py] (.Name n pn) p2] hp] [] [] pos) (tTry X.K X.N.length C j te):=by
  intro pins s σ H D I h
  have hx:Passes (CXe X.prog X.w) { X with pn:=X.pn ++ pins,xe:=fun e s'=>∃ σ1 H1 s1,Inv X pins σ1 H1 s1 /\ CXe X.prog X.w X.stack H1 s1 (fun cls _ H'=>PySem.W.exmOne X.K cls (.ref C)=some true /\ ∀ a,H' a=none -> D.nx ((List.replicate X.N.length none).set j (some (.ref a))) (upd H' a (excO a cls))) e s' } (fun cls _ H'=>PySem.W.exmOne X.K cls (.ref C)=some true /\ ∀ a,H' a=none -> D.nx ((List.replicate X.N.length none).set j (some (.ref a))) (upd H' a (excO a cls))) :=
    fun _ σ1 H1 s1 e s' I1 q=>⟨σ1,H1,s1,I1.ofPn,q⟩
  have body:=pss_one (ps_expr (pos:=p1) (he _ _ _ hx) hs) [] s σ H { nx:=D.nx,rt:=fun _ _=>False } (I.toPn _) h
  refine wpAny_Try_except (wpAny_mono body (fun f s1 q=>?_) fun e s' q=>?_)
  . cases f with
    | next =>
      obtain ⟨σ',H',I',q⟩:=q
      exact wpAny_execs_nil ⟨σ',H',I'.ofPn,q⟩
    | ret v=>obtain ⟨_,_,_,_,_,q⟩:=q; exact q.elim
    | brk=>obtain ⟨_,_,_,q⟩:=q; exact q.elim
    | cont=>obtain ⟨_,_,_,q⟩:=q; exact q.elim
  . obtain ⟨σ1,H1,s1,I1,a,cls,H',rfl,ho,hb,u,hok,F,hx1,hE⟩:=q
    have nw:=fun b (hb:s1.heap.get? b=none)=>I1.newAt hex hb
    refine qV6 I1 hst hfr hex ho hb u hok F fun h3 J F3=>?_
    refine wpAny_handleBy_cons (codeAny_handlers_test ?_) (by intro q; cases q)
    have J2:=J.mark (.ref a) X.xe
    refine ld_glob (X:={ X with A:=X.A.mark (some (.ref a)),calm:=false,xe:=X.xe }) J2 hg hm ?_ hdx
    obtain ⟨oe,vs,T,oT,ts,hae,hcls,hrest⟩:=F3.ex
    have LT:PySem.W.Looks (model X.prog X.w) h3 (typeOf (.ref a)) cls:=by
      rw [<- hcls]
      exact (PySem.W.Looks.ld hae).andThen .now
    have KI:X.K.In h3:=J.kIn
    refine (PySem.W.exm_one KI LT hx1).here (s:={ s' with heap:=h3 }) ?_
    refine codeAny_handlers_suite_as ?_
    refine zHU J hst hfr F3 nw fun h4 J4 F4=>?_
    obtain ⟨oe4,vs4,T4,oT4,ts4,hae4,hcls4,hdi4,hd4,_⟩:=F4.ex
    have na:=nw a F.new
    have hl:X.env.locals ∈ frs X.stack:=by rw [hst]; unfold frs; rw [List.filterMap_cons,hfr]; exact List.mem_cons_self
    have aL:a ≠ X.env.locals:=fun z=>na.2.1 (by rw [z]; exact hl)
    have aF:a ∉ X.fs:=fun z=>na.2.1 (by rw [hst]; unfold frs; rw [List.filterMap_cons,hfr]; exact List.mem_cons_of_mem _ z)
    have Jp:Inv X (pins ++ [(a,oe4)]) σ1 H' { s' with heap:=h4 }:=J4.pins_of fun p hp=>by
      rcases List.mem_append.mp hp with z | z
      . exact J4.pin p (List.mem_append_right _ z)
      . have e:p=(a,oe4):=by simpa using z
        subst e
        exact ⟨hae4,F.un,aL,aF,fun v z=>by rw [hd4] at z; cases z⟩
    have J5:=Jp.mark (.ref a) X.xe
    refine store_ok (X:={ X with A:=X.A.mark (some (.ref a)),calm:=false,xe:=X.xe }) J5 hN hi (.inl hln) (v:=.ref a) rfl (fun s5 J6=>?_) (.inr hln)
    have il:i < σ1.length:=by rw [J4.len]; exact (List.getElem?_eq_some_iff.mp hi).1
    have jl:j < σ1.length:=by rw [J4.len]; exact (List.getElem?_eq_some_iff.mp hj).1
    have suite:∀ Err:Value -> Shared -> Prop,PSs { X with A:=X.A.mark (some (.ref a)),calm:=false,xe:=Err } [.Assign [.Name y py] (.Name n pn) p2] (tAsg (tVar i) (gName j)):=fun Err =>
      pss_one (ps_set (X:={ X with A:=X.A.mark (some (.ref a)),calm:=false,xe:=Err }) (i:=j) hN hj (.inl hly) (pe_var (X:={ X with A:=X.A.mark (some (.ref a)),calm:=false,xe:=Err }) hi (.inl hln) hdn hdc) hs2 (.inr hly))
    have J6':∀ Err:Value -> Shared -> Prop,Inv { X with A:=X.A.mark (some (.ref a)),calm:=false,xe:=Err } (pins ++ [(a,oe4)]) (σ1.set i (some (.ref a))) H' s5:=fun Err=>(J6.unmark I.ok.hd).mark _ Err
    refine wpAny_mono (suite _ _ s5 _ H' { nx:=fun σ2 H2=>σ2[j]?=some (some (.ref a)) /\ H2=H',rt:=fun _ _=>False } (J6' _) ⟨_,by rw [List.getElem?_set,if_pos rfl,if_pos il],by
      show ((σ1.set i (some (.ref a))).set j (some (.ref a)))[j]?=some (some (.ref a)) /\ H'=H'
      exact ⟨by rw [List.getElem?_set,if_pos rfl,if_pos (by rw [List.length_set]; exact jl)],rfl⟩⟩) (fun f s6 q=>?_) fun _ _ q=>q
    cases f with
    | ret v=>obtain ⟨_,_,_,_,_,q⟩:=q; exact q.elim
    | brk=>obtain ⟨_,_,_,q⟩:=q; exact q.elim
    | cont=>obtain ⟨_,_,_,q⟩:=q; exact q.elim
    | next =>
      obtain ⟨σ2,H2,J7,hw,rfl⟩:=q
      have J7:=J7.unmark I.ok.hd
      obtain ⟨m,hm',hloc⟩:=J7.loc
      refine wpAny_nameGoes_keeps hkn hm' (by rw [I.ok.kind]; rfl) fun h7 v hn7 hs7=>?_
      have J8:=J7.gone (t':=s6.toks + 1) hN hj hny hloc hn7 hs7 hw
      have e8:=(J8.pin (a,oe4) (List.mem_append_right _ (List.mem_append_right _ (by simp)))).1
      have J9:Inv X pins ((List.replicate X.N.length none).set j (some (.ref a))) H2 { s6 with heap:=h7,toks:=s6.toks + 1 }:=J8.pins_of fun p hp=>J8.pin p (List.mem_append_right _ (List.mem_append_left _ hp))
      refine ⟨_,_,J9.trackN (o:=excO a cls) F.un aL na.1 na.2.2.1 na.2.2.2 ?_,hE a F.un⟩
      exact ⟨⟨oe4,vs4,e8,hcls4,hdi4,hd4⟩,⟨oe4,e8⟩,fun g1 g2 ⟨o,vs,q1,q2⟩ k=>⟨o,vs,k o q1,q2⟩⟩
end
end L2
namespace L3
open PySem PySem.Spec PyProof.Rows L2
inductive Rs where
  | val (p:PV) | err (C:Addr)
def spE (K:PySem.W.Frag) (G:Gx) (pre:List PV -> Prop) (F:List PV -> Rs):Sp:=fun vs H Q E=>∃ as O,(∀ a,O a=true -> H a ≠ none) /\ AtL K G (mn H O) as vs /\ pre as /\ (∀ p,F as=.val p -> ∀ v H',Same H H' -> At K G (mn H' O) p v -> Q v H') /\ ∀ C,F as=.err C -> ∀ H',Same H H' -> E (.ref C) none H'
structure OkE (P:Program) (w:World) (K:PySem.W.Frag) (mg:Str -> Option Value) (base:Heap) (k:Nat) (x:Str) (ps:List Str) (sp:Sp):Prop where
  ex:∃ f fd,FnOk P w K mg base (CXe P w) k f fd ps sp /\ Binds K fd ps [] /\ PySem.W.keepIn K (.ref f)=true /\ mg x=some (.ref f)
abbrev erE (E:XK):ER:=fun C H=>E (.ref C) none H
section
variable {P:Program} {w:World} {K:PySem.W.Frag} {mg:Str -> Option Value} {base:Heap} {G:Gx}
theorem okE {x:Str} {st:Stmt} {N ps:List Str} {k:Nat} {pre:List PV -> Prop} {F:List PV -> Rs} (d:Def K mg x st ps) (S:FnScope N ps (defScope st)) (len:∀ as,pre as -> as.length=ps.length)
    (hbody:∀ (f:Addr) (cdv:Value) (A:Around) (outer:List Env) (s:Shared) (H:Hp) (E:XK),Room k (A.deeper (envOfC x (defScope st) s.heap.objs.size f cdv)) ->
      ∃ fs,PSs (cxOf (CXe P w) P w K mg base N x (defScope st) f cdv A outer s H E) (defBody st) (ts K G (erE E) fs) /\ ∀ as,pre as -> fs { nx:=fun _=>F as=.val .non,rt:=fun p=>F as=.val p,rl:=fun ns=>F as=.val (.ints ns),er:=fun C=>F as=.err C } (startR N as)):OkE P w K mg base (k + 1) x ps (spE K G pre F):=by
  obtain ⟨f,fd,Fu,b,m⟩:=d.ex
  refine ⟨f,fd,?_,b,Fu.kp,m⟩
  obtain ⟨oc,od,kV,doc,pm,an,cdv,ct,osl,rfl,lk,hcd⟩:=Fu.ex
  refine fn_of lk hcd S (fun vs H Q E h=>?_) fun A outer s H vs Q E hr h=>?_
  . obtain ⟨as,O,_,al,hp,_⟩:=h
    rw [<- al.length]; exact len as hp
  obtain ⟨as,O,hd,al,hp,q,qe⟩:=h
  obtain ⟨fs,b,c⟩:=hbody f cdv A outer s H E hr
  refine ⟨_,b,⟨H,O⟩,startR N as,_,⟨O,yH4 hd al⟩,c as hp,⟨fun σ' H' ρ' R' h=>?_,fun v H' p s' a' h=>q p h v H' s' a',fun a H' ns s' n e h=>?_,fun _ _ _ _ _ h=>h.elim,fun _ _ _ _ h=>h,fun _ _ _ _ h=>h,fun H' C s' h=>qe C h H' s'⟩⟩
  . obtain ⟨O',R'⟩:=R'
    exact q _ h .non H' R'.same rfl
  . refine q _ h _ H' s' ⟨a,rfl,.inl ?_⟩
    rw [yU5]
    . exact e
    . cases z:O a with
      | false=>rfl
      | true=>exact absurd n (hd a z)
end
section
variable {X:Cx} {G:Gx} {E:XK} {e:Expr} {es:List Expr} {pos p cpos np pos':Pos} {i j k:Nat} {x y:Str} {ps:List Str} {pre:List PV -> Prop} {C:En -> Prop} {gs:En -> List PV} {F:List PV -> Rs} {Cc:Addr}
theorem zYW {sp:Sp} {t:TA} (o:OkE X.prog X.w X.K X.mg X.base j x ps sp) (hx:Passes (CXe X.prog X.w) X E) (hr:Room k X.A) (ha:PA X (e :: es) t) (hj:j <= k:=by decide) (hg:Gl X x:=by rfl) (hdb:(x == ("__debug__":Str))=false:=by decide)
    (he:starEach (e :: es) X.env=(false,eval e X.env) :: starEach es X.env:=by rfl) (hpl:(backTo pos (starEach es X.env)).any (·.1)=false:=by rfl):PE X (.Call (.Name x p) (e :: es) [] pos) (tCall sp [] E t):=by
  obtain ⟨f,fd,F,b,kp,m⟩:=o.ex
  exact pe_call (F.mono hj) hr hg m kp b .nil hx ha hdb he hpl
theorem passE0:Passes (CXe X.prog X.w) X E0:=fun _ _ _ _ _ _ _ h=>by obtain ⟨_,_,_,_,_,_,_,_,_,q⟩:=h; exact q.elim
def Rs.get:Rs -> PV
  | .val p=>p
  | .err _=>.non
def Rs.isV:Rs -> Prop
  | .val _=>True
  | .err _=>False
theorem zZV (hn:NewTo X E) (hc:X.calm=true) (q:ExcC X.K Cc) (hg:Gl X x) (hm:X.mg x=some (.ref Cc)) (ha:PA X (e :: es) (tXs X.K G C gs)) (hlen:∀ ρ,(gs ρ).length=(e :: es).length:=by intro _; rfl) (hz:(e :: es).length <= 1000:=by decide)
    (hdb:(x == ("__debug__":Str))=false:=by decide) (he:starEach (e :: es) X.env=(false,eval e X.env) :: starEach es X.env:=by rfl) (hpl:(backTo cpos (starEach (e :: es) X.env)).any (·.1)=false:=by rfl) :
    PS X (.Raise (some (.Call (.Name x np) (e :: es) [] cpos)) none pos) (ts X.K G (erE E) fun P ρ=>C ρ /\ P.er Cc) :=
  toS (qK0 hn hc q hg hm ha hz hdb he hpl fun σ H Q ⟨B,ρ,O,R,c,q⟩=>⟨B,ρ,O,R,c,fun vs H1 s1 a1=>⟨by rw [<- a1.length]; exact hlen ρ,q vs H1 s1 a1⟩⟩) fun B σ H ρ O P D R c w=>⟨B,ρ,O,R,c.1,fun _ H1 s1 _=>w.er H1 Cc (R.same.trans s1) c.2⟩
end
end L3
namespace L2
open PySem PySem.Spec PyProof.Rows
theorem qY0 {prog:Program} {w:World} {A:Around} {E:Value -> Shared -> Prop} {s:Shared} {K:PySem.W.Frag} {x C:Addr} {o:Obj} {Q:Option Value -> Shared -> Prop} (X:K.In s.heap) (I:PySem.W.InstAt s.heap x o C none)
    (hga:PySem.W.findIn K (.ref C) "__getattribute__"=some (some (.builtin "BaseException.__getattribute__"))) (hk:PySem.W.findIn K (.ref C) "__getattr__"=some none) (hb:PySem.W.mroIn K C (.type "BaseException")=some true)
    (hf:PySem.W.findObj K C none "__class__"=some (.bind (.builtin "getset_descriptor.__get__") (.builtin "object.__class__"))) (hm:PySem.W.mroIn K C (.type "object")=some true)
    (k:Q (some (.ref C)) { s with toks:=s.toks + 1 }):wpAny (model prog w) A (getAttr? (.ref x) "__class__") Q E s:=by
  obtain ⟨hh,g,d,t,os⟩:=s
  have L0:=I.type (M:=model prog w)
  have L1:=PySem.W.looks_findIn (M:=model prog w) X hga
  have Lk:=PySem.W.looks_findIn (M:=model prog w) X hk
  have Lb:=PySem.W.looks_mroIn (M:=model prog w) X hb
  have Lf:=PySem.W.looks_find (M:=model prog w) X I hf
  have bnd:=(PySem.F.attr_ValueError.ga).bind (.ref x)
  unfold getAttr? getAttrBy? getAttrBy
  refine wpAny_bind (wpAny_mkText (wpAny_bind (wpAny_attempt (wpAny_holding (wpAny_bind (L0.at (wpAny_bind (L1.at ?_))))))))
  show wpAny _ _ (getAttrByItsOwn _ _ _ _ _ _) _ _ _
  unfold getAttrByItsOwn hookBefore
  rw [if_pos (show onTheHeap (.ref C)=true from rfl)]
  refine wpAny_bind (Lk.at ?_)
  refine wpAny_bind (wpAny_attempt (wpAny_holding ?_))
  show wpAny _ _ (boundAndCalled _ _ _) _ _ _
  unfold boundAndCalled
  rw [bnd]
  refine wpAny_bind (wpAny_pure ?_)
  refine wpAny_call (codeAny_call_builtin PySem.F.attr_ValueError.ga.plain PySem.F.entry_bexc_ga ?_)
  have hkk:builtinKind "BaseException.__getattribute__"=some .slot:=by decide +kernel
  have hsplit:splitId "BaseException.__getattribute__"=some ("BaseException","__getattribute__"):=by decide +kernel
  have haa:=PySem.F.args_bexc_ga (.ref x) (.str "__class__" t)
  simp only [checkBuiltinCall,hkk,hsplit]
  have LI:PySem.W.Looks (model prog w) hh (isInstance (.ref x) (.type "BaseException")) true:=L0.andThen Lb
  refine wpAny_bind (LI.at ?_)
  rw [if_neg (by decide)]
  refine wpAny_of_eq (a:=()) haa ?_
  show wpAny _ _ (Builtin.«object.__getattribute__» ⟨[.ref x,.str "__class__" t],[]⟩) _ _ _
  unfold Builtin.«object.__getattribute__»
  refine wpAny_bind (wpAny_of_eq (a:=(.ref x,[.str "__class__" t])) rfl ?_)
  refine wpAny_bind (wpAny_pure (wpAny_bind (L0.at (wpAny_bind (Lf.at ?_)))))
  refine wpAny_bind (wpAny_holding (wpAny_call ?_))
  refine PySem.W.class_get (s:=⟨hh,g,d,t + 1,os⟩) (ox:=o) (od:=none) X I hm ?_
  exact wpAny_pure (PySem.W.handed_on rfl (wpAny_pure k))
structure ErrK (K:PySem.W.Frag) (C:Addr):Prop where
  hg:PySem.W.findIn K (.ref C) "__getattribute__"=some (some (.builtin "BaseException.__getattribute__"))
  hk:PySem.W.findIn K (.ref C) "__getattr__"=some none
  hb:PySem.W.mroIn K C (.type "BaseException")=some true
  hd:PySem.W.hasDictIn K C=true
  ha:PySem.W.findIn K (.ref C) "__class__"=some (some (.builtin "object.__class__"))
  hn:PySem.W.specialIn K (.builtin "object.__class__") "__get__"=some (some (.builtin "getset_descriptor.__get__"))
  htk:PySem.W.takesIn K (.builtin "object.__class__")=some true
  hm:PySem.W.mroIn K C (.type "object")=some true
abbrev excP (a:Addr) (cls:Value):Heap -> Prop:=fun h=>∃ o vs,h.get? a=some o /\ o.cls=cls /\ o.dict=none /\ o.data=.fields vs
theorem ErrK.lk {K:PySem.W.Frag} {C:Addr} (F:ErrK K C):∃ c d cd sl,K.lookup C=some ⟨c,d,.cls cd,sl⟩:=by
  obtain ⟨cd,hc,_⟩:=PySem.W.any_some F.hd
  unfold PySem.W.clsIn at hc
  split at hc
  . rename_i c' d' cd' sl' ho
    exact ⟨c',d',cd',sl',ho⟩
  . cases hc
theorem qV4 {K:PySem.W.Frag} {x C:Addr} (F:ErrK K C):PySem.W.KitX K (.ref x) (.ref C) (excP x (.ref C)) where
  ty:=fun _ _ _ ⟨_,_,e,hc,_⟩=>by
    rw [<- hc]
    exact (PySem.W.Looks.ld e).andThen .now
  it:=fun _ _ X _=>by
    obtain ⟨c,d,cd,sl,ho⟩:=F.lk
    intro A Q E s k q
    unfold isType loadHead
    exact wpAny_bind (wpAny_loadPart (k _ _ (X _ _ ho)) (wpAny_pure q))
  ne:=fun h tp dd its n sl X htp=>by
    obtain ⟨c,d,cd,sl',ho⟩:=F.lk
    refine Bool.eq_false_iff.mpr fun q=>?_
    obtain rfl:C=tp:=Value.ref.inj (beq_iff_eq.mp q)
    have z:=(X _ _ ho).symm.trans htp
    cases z
  ca:=fun {_ _ _ _ _ s} X ⟨o,vs,e,hc,hdi,hd⟩ k=>by
    have I:PySem.W.InstAt s.heap x o C none:=⟨e,hc,by unfold PySem.W.notCls; rw [hd],by rw [hdi]; exact tJ⟩
    have hf:PySem.W.findObj K C none "__class__"=some (.bind (.builtin "getset_descriptor.__get__") (.builtin "object.__class__")):=by
      obtain ⟨cd,hc',_⟩:=PySem.W.any_some F.hd
      unfold PySem.W.findObj
      rw [hc',Option.bind_some,F.ha,Option.bind_some]
      simp [F.hn,F.htk]
    exact qY0 X I F.hg F.hk F.hb hf F.hm k
def rIsx (K:PySem.W.Frag):List V -> Hp -> VK -> Prop:=fun xs H Q=>(∃ x c t cv b,xs=[x,c] /\ clsV c=some cv /\ TyOf K H x t /\ PySem.W.kitOne K t cv=some b /\ Q (.bl b) H) \/
  ∃ a c C cv b,xs=[.ref a,c] /\ clsV c=some cv /\ H a=some (excO a (.ref C)) /\ ErrK K C /\ PySem.W.kitOne K (.ref C) cv=some b /\ Q (.bl b) H
theorem qVY {X:Cx}:CallR X (.builtin "isinstance") (rIsx X.K):=by
  intro pins s σ H xs us Q I r h
  rcases h with h | ⟨a,c,C,cv,b,rfl,hc,ha,F,e,q⟩
  . exact zWK pins s σ H xs us Q I r h
  . obtain ⟨u,w',rfl,r1,r2⟩:=vals2 r
    obtain rfl:=zKZ hc r2
    obtain rfl:u=.ref a:=r1
    exact PySem.W.kia_one (qV4 F) I.kIn (I.hok a _ ha).1 e (fun z=>nomatch z) fun tk=>⟨.bl b,H,I.tok tk,rfl,q⟩
end L2
namespace L3
open PySem PySem.Spec PyProof.Rows L2
structure GErr (G:Gx):Prop where
  into:∀ (H:Hp) (a C:Addr),H a=some (excO a (.ref C)) -> G.ob 1 H a (C:Nat)
  get:∀ (H:Hp) (a:Addr) (z:Int),G.ob 1 H a z -> ∃ C:Addr,z=(C:Nat) /\ H a=some (excO a (.ref C))
def instOkX (K:PySem.W.Frag) (p c:PV):Prop:=instOk K p c \/ ∃ C cv b,p=.ob 1 ((C:Nat):Int) /\ ErrK K C /\ clsP c=some cv /\ PySem.W.kitOne K (.ref C) cv=some b
def instPX (K:PySem.W.Frag):PV -> PV -> Bool
  | .ob _ z,c=>match clsP c with
    | some cv=>PySem.W.kitOne K (.ref z.toNat) cv == some true
    | none=>false
  | p,c=>instP K p c
theorem yZY {K:PySem.W.Frag} {c:PV} {k C:Nat} {cv:Value} {b:Bool} (h2:clsP c=some cv) (h:PySem.W.kitOne K (.ref C) cv=some b):instPX K (.ob k ((C:Nat):Int)) c=b:=by
  show (match clsP c with | some cv=>PySem.W.kitOne K (.ref ((C:Nat):Int).toNat) cv == some true | none=>false)=b
  rw [h2]
  show (PySem.W.kitOne K (.ref ((C:Nat):Int).toNat) cv == some true)=b
  rw [Int.toNat_natCast,h]
  cases b <;> rfl
theorem qX9 {K:PySem.W.Frag} {p c:PV} {t:Value} (h1:tyP p=some t):instPX K p c=instP K p c:=by
  cases p <;> first | rfl | cases h1
section
variable {X:Cx} {G:Gx} {a c e:Expr} {es:List Expr} {pos p:Pos} {Ca Cc C:En -> Prop} {ga gc:En -> PV}
theorem yKW (hG:GErr G) (hm:X.mg "isinstance"=none) (ha:PE X a (tX X.K G Ca ga)) (hc:PE X c (tX X.K G Cc gc)) (hg:Gl X "isinstance":=by rfl) (he:starEach [a,c] X.env=(false,eval a X.env) :: starEach [c] X.env:=by rfl) (he2:starEach [c] X.env=[(false,eval c X.env)]:=by rfl)
    (hpl:(backTo pos (starEach [c] X.env)).any (·.1)=false:=by rfl) :
    PE X (.Call (.Name "isinstance" p) [a,c] [] pos) (tXB X.K G (fun ρ=>Ca ρ /\ Cc ρ /\ instOkX X.K (ga ρ) (gc ρ)) fun ρ=>instPX X.K (ga ρ) (gc ρ)=true) :=
  toX (pe_callB qVY hg hm zYU (pa_cons ha (pa_cons hc pa_nil he2) he) (by decide) (by decide) he hpl) fun B σ H ρ O Q R cc q=>⟨B,ρ,O,R,cc.1,fun v H1 s1 a1=>⟨B,ρ,O,R.grow s1,cc.2.1,fun u H2 s2 a2=>by
    rcases cc.2.2 with ⟨t,cv,b,h1,h2,h3⟩ | ⟨C,cv,b,h1,F,h2,h3⟩
    . refine .inl ⟨v,u,t,cv,b,rfl,At.cls a2 h2,TyOf.up (yZV.trans s2) (a1.ty h1),h3,q _ H2 (s1.trans s2) ?_⟩
      show V.bl b=V.bl (decide (instPX X.K (ga ρ) (gc ρ)=true))
      rw [qX9 h1,qV0 h1 h2 h3,Bool.decide_eq_true]
    . have a1':=At.mono (yY9 s2) _ _ a1
      rw [h1] at a1'
      obtain ⟨ad,rfl,ob⟩:=a1'
      obtain ⟨C',ez,hx⟩:=hG.get _ _ _ ob
      obtain rfl:C=C':=Int.ofNat.inj ez
      refine .inr ⟨ad,u,C,cv,b,rfl,At.cls a2 h2,yZV _ _ hx,F,h3,q _ H2 (s1.trans s2) ?_⟩
      show V.bl b=V.bl (decide (instPX X.K (ga ρ) (gc ρ)=true))
      rw [h1,yZY h2 h3,Bool.decide_eq_true]⟩⟩
end
section
variable {X:Cx} {G:Gx} {Er:ER} {e:Expr} {es:List Expr} {C:En -> Prop} {gs:En -> List PV} {pre:List PV -> Prop} {F:List PV -> Rs} {f x n y:Str} {Cc:Addr} {i j k l:Nat} {ps:List Str} {px py pn hp p1 p2 pos p cpos:Pos}
abbrev onlyE (N:Nat) (j:Nat) (C:Addr):En:=(List.replicate N Sl.un).set j (.fr (.ob 1 ((C:Nat):Int)))
theorem qXH {B:Bs} {σ:L2.St} {H H':Hp} {ρ:En} {O:Addr -> Bool} {a:Addr} {N:Nat} (hG:GErr G) {K:PySem.W.Frag} (R:Rep K G B σ H ρ O) (s:Same H H') (ha:H' a=none):Rep K G B ((List.replicate N none).set j (some (.ref a))) (upd H' a (excO a (.ref Cc))) (onlyE N j Cc) O:=by
  have R1:=(R.grow s).grow (same_new ha (excO a (.ref Cc)))
  have oa:O a=false:=by
    cases z:O a with
    | false=>rfl
    | true=>exact absurd ha ((R.grow s).dom a z)
  have un:∀ (m:Nat) (q:Sl),(List.replicate N Sl.un)[m]?=some q -> q=.un:=fun m q e=>by
    rw [List.getElem?_replicate] at e
    split at e
    . cases e; rfl
    . cases e
  refine ⟨R1.same,R1.cd,R1.hid,R1.dom,R1.vis,fun m q e=>?_,fun m q e=>?_,fun m m' q q' b e=>?_,by simp,fun m xs ys e=>?_⟩
  . rcases yZ3 e with ⟨rfl,e,l⟩ | ⟨_,e⟩
    . cases e
      rw [List.length_replicate] at l
      refine ⟨.ref a,zY1 (by rw [List.length_replicate]; exact l),a,rfl,hG.into _ _ _ ?_⟩
      rw [yU5 oa]; exact upd_same
    . cases un m _ e
  . rcases yZ3 e with ⟨_,e,_⟩ | ⟨_,e⟩
    . cases e
    . cases un m _ e
  . rcases yZ3 e with ⟨_,e,_⟩ | ⟨_,e⟩
    . cases e
    . cases un m _ e
  . rcases yZ3 e with ⟨_,e,_⟩ | ⟨_,e⟩
    . cases e
    . cases un m _ e
theorem jZ9 (hG:GErr G) (o:OkE X.prog X.w X.K X.mg X.base l f ps (spE X.K G pre F)) (hr:Room k X.A) (hc:X.calm=true) (hst:X.stack=X.env :: X.outer) (hfr:X.env.frame=some X.env.locals) (hex:X.ex=[]) (hg:Gl X x) (hm:X.mg x=some (.ref Cc)) (hN:X.N.Nodup) (hi:X.N[i]?=some n) (hj:X.N[j]?=some y) (hln:X.env.scope.names.lookup n=some .local) (hly:X.env.scope.names.lookup y=some .local)
    (hkn:X.env.kindOf n=some .local) (hny:y ≠ n) (hij:i ≠ j) (ha:∀ (pn:List (Addr × Obj)) (E':Value -> Shared -> Prop),PA { X with pn:=pn,xe:=E' } (e :: es) (tXs X.K G C gs)) (hlk:l <= k:=by decide) (hgf:Gl X f:=by rfl) (hdf:(f == ("__debug__":Str))=false:=by decide)
    (he:starEach (e :: es) X.env=(false,eval e X.env) :: starEach es X.env:=by rfl) (hpl:(backTo cpos (starEach es X.env)).any (·.1)=false:=by rfl)
    (hs:swapsWith (.Call (.Name f p) (e :: es) [] cpos) none p1.line X.env=pure false:=by rfl) (hs2:swapsWith (.Name n pn) (some (.Name y py)) p2.line X.env=pure false:=by rfl) (hdx:(x == ("__debug__":Str))=false:=by decide) (hdn:(n == ("__debug__":Str))=false:=by decide) (hdc:(n == ("__classdict__":Str))=false:=by decide) :
    PS X (.Try [.Expr (.Call (.Name f p) (e :: es) [] cpos) p1] [.ExceptHandler (some (.Name x px)) (some n) [.Assign [.Name y py] (.Name n pn) p2] hp] [] [] pos)
      (ts X.K G Er fun P ρ=>C ρ /\ pre (gs ρ) /\ (∀ p,F (gs ρ)=.val p -> P.nx ρ) /\ ∀ c,F (gs ρ)=.err c -> PySem.W.exmOne X.K (.ref c) (.ref Cc)=some true /\ P.nx (onlyE X.N.length j c)) :=
  toS (jJK (te:=fun Ec=>tCall (spE X.K G pre F) [] Ec (tXs X.K G C gs)) hc hst hfr hex hg hm hN hi hj hln hly hkn hny hij (fun pn E' Ec hx=>zYW (X:={ X with pn:=pn,xe:=E' }) o hx hr (ha pn E') hlk hgf hdf he hpl) hs hs2 hdx hdn hdc) fun B σ H ρ O P D R c w=>⟨B,ρ,O,R,c.1,fun vs H1 s1 a1=>by
    dsimp only
    rw [List.append_nil]
    refine ⟨gs ρ,O,(R.grow s1).dom,a1,c.2.1,fun p hp v H2 s2 _=>w.nx σ H2 ρ ⟨O,(R.grow s1).grow s2⟩ (c.2.2.1 p hp),fun c' hc' H2 s2=>⟨(c.2.2.2 c' hc').1,fun a ha=>w.nx _ _ _ ⟨O,qXH hG R (s1.trans s2) ha⟩ (c.2.2.2 c' hc').2⟩⟩⟩
end
end L3
namespace L2
open PySem PySem.Spec PyProof.Rows
end L2
namespace L3
open PySem PySem.Spec PyProof.Rows L2
mutual
def dat:PV -> PyData
  | .int n=>.int n
  | .bl b=>.bool b
  | .non=>.none
  | .str s=>.str s
  | .ints ns=>.list (ns.map PyData.int)
  | .lst xs=>.list (dats xs)
  | .tup xs=>.tuple (dats xs)
  | _=>.none
def dats:List PV -> List PyData
  | []=>[]
  | p :: ps=>dat p :: dats ps
end
mutual
def isDat:PV -> Prop
  | .int _=>True
  | .bl _=>True
  | .non=>True
  | .str _=>True
  | .ints _=>True
  | .lst xs=>areDat xs
  | .tup xs=>areDat xs
  | _=>False
def areDat:List PV -> Prop
  | []=>True
  | p :: ps=>isDat p /\ areDat ps
end
section
variable {X:Cx} {pins:List (Addr × Obj)} {σ:L2.St} {H:Hp} {s:Shared} {G:Gx}
mutual
theorem zYX (I:Inv X pins σ H s):∀ (p:PV) (v:V) (u:Value),At X.K G H p v -> isDat p -> RelV v u -> ∃ as,Reads s.heap u (dat p) as
  | .int n,v,u,h,_,r=>by
    have h:v=.int n:=h
    subst h
    obtain ⟨t,rfl⟩:=r
    exact ⟨_,.int n t⟩
  | .bl b,v,u,h,_,r=>by
    have h:v=.bl b:=h
    subst h
    obtain rfl:u=.bool b:=r
    exact ⟨_,.bool b⟩
  | .non,v,u,h,_,r=>by
    have h:v=.non:=h
    subst h
    obtain rfl:u=.none:=r
    exact ⟨_,.none⟩
  | .str x,v,u,h,_,r=>by
    have h:v=.str x:=h
    subst h
    obtain ⟨t,rfl⟩:=r
    exact ⟨_,.str x t⟩
  | .ints ns,v,u,h,_,r=>by
    obtain ⟨a,rfl,hr⟩:=h
    obtain rfl:u=.ref a:=r
    obtain ⟨_,its,n,rv,_,e⟩:=Inv.lstR I hr
    exact ⟨_,reads_newData ⟨_,e,rfl,_,rfl⟩ (PySem.W.ke_carried (yW7 rv))⟩
  | .lst xs,v,u,h,d,r=>by
    obtain ⟨a,vs,rfl,hr,al⟩:=h
    obtain rfl:u=.ref a:=r
    obtain ⟨_,its,n,rv,_,e⟩:=Inv.lstR I hr
    obtain ⟨as,q⟩:=yU4 I xs vs its al d rv
    exact ⟨_,.list e rfl rfl q⟩
  | .tup xs,v,u,h,d,r=>by
    obtain ⟨a,vs,rfl,hr,al⟩:=h
    obtain rfl:u=.ref a:=r
    obtain ⟨_,its,rv,⟨o,ho,hc,m,hd⟩⟩:=I.hok a _ hr
    obtain ⟨as,q⟩:=yU4 I xs vs its al d rv
    exact ⟨_,.tuple ho hc hd q⟩
  | .scr _,_,_,_,d,_=>d.elim
  | .ob _ _,_,_,_,d,_=>d.elim
  | .ty _,_,_,_,d,_=>d.elim
  | .cls _,_,_,_,d,_=>d.elim
theorem yU4 (I:Inv X pins σ H s):∀ (ps:List PV) (vs:List V) (us:List Value),AtL X.K G H ps vs -> areDat ps -> Vals vs us -> ∃ as,ReadsAll s.heap us (dats ps) as
  | [],vs,us,h,_,r=>by
    have h:vs=[]:=h
    subst h
    cases r
    exact ⟨_,.nil⟩
  | p :: ps,vs,us,h,d,r=>by
    obtain ⟨v,t,rfl,h1,h2⟩:=h
    cases r with
    | cons r1 r2 =>
      obtain ⟨as,q⟩:=zYX I p v _ h1 d.1 r1
      obtain ⟨bs,q2⟩:=yU4 I ps t _ h2 d.2 r2
      exact ⟨_,.cons q q2⟩
end
end
structure DatOk (p q:PV):Prop where
  a:isDat p
  b:isDat q
  sa:SeqAt.shaped (dat p)=true
  sb:SeqAt.shaped (dat q)=true
  mix:SeqAt.noMix (dat p) (dat q)=true
def eqD (p q:PV):Prop:=PySem.Spec.same (dat p) (dat q)=true
instance (p q:PV):Decidable (eqD p q):=inferInstanceAs (Decidable (_=true))
section
variable {X:Cx} {G:Gx} {Er:ER} {a b:Expr} {pos:Pos} {Ca Cb:En -> Prop} {ga gb:En -> PV}
def rEqD (K:PySem.W.Frag) (G:Gx) (f:PV -> PV -> Bool):R2:=fun x y H Q=>∃ p q,At K G H p x /\ At K G H q y /\ DatOk p q /\ Q (.bl (f p q)) H
theorem jY2 (hu:X.A.units + 64 < cLine):OpR X (compareOp .Eq) (rEqD X.K G fun p q=>decide (eqD p q)):=by
  intro pins s σ H x y v u Q I rx ry h
  obtain ⟨p,q,ap,aq,d,k⟩:=h
  obtain ⟨as,r1⟩:=zYX I p x v ap d.a rx
  obtain ⟨bs,r2⟩:=zYX I q y u aq d.b ry
  refine eq_dataH_same r1 r2 d.sa d.sb hu d.mix ⟨.bl _,H,I,rfl,?_⟩
  have e:decide (eqD p q)=PySem.Spec.same (dat p) (dat q):=by unfold eqD; exact Bool.decide_eq_true
  rw [<- e]
  exact k
theorem jVZ {r:R2} {σ:L2.St} {H:Hp} {B:Bs} {ρ:En} {O:Addr -> Bool} {Q:VK} (R:Rep X.K G B σ H ρ O) (ca:Ca ρ) (cb:Cb ρ) (q:∀ v u H1 H2,Same H H1 -> Same H1 H2 -> At X.K G H2 (ga ρ) v -> At X.K G H2 (gb ρ) u -> r v u H2 Q) :
    tOp r (tXr X.K G Ca ga) (tXr X.K G Cb gb) σ H Q :=
  ⟨B,ρ,O,R,ca,fun v H1 s1 a1=>⟨B,ρ,O,R.grow s1,cb,fun u H2 s2 a2=>q v u H1 H2 s1 s2 (At.mono s2 _ _ a1) a2⟩⟩
theorem jXY (hu:X.A.units + 64 < cLine) (ha:PE X a (tXr X.K G Ca ga)) (hb:PE X b (tXr X.K G Cb gb)):PE X (.Compare a [.Eq] [b] pos) (tXB X.K G (fun ρ=>Ca ρ /\ Cb ρ /\ DatOk (ga ρ) (gb ρ)) fun ρ=>eqD (ga ρ) (gb ρ)) :=
  toX (pe_cmpR (jY2 (G:=G) hu) ha hb (nomark _)) fun _ _ _ _ _ _ R c q=>jVZ R c.1 c.2.1 fun v u _ H2 s1 s2 a1 a2=>⟨_,_,a1,a2,c.2.2,q _ H2 (s1.trans s2) rfl⟩
end
def tR (K:PySem.W.Frag) (G:Gx) (C:En -> Prop) (F:En -> Rs) (E:XK):TE:=fun σ H Q=>∃ B ρ O,Rep K G B σ H ρ O /\ C ρ /\ (∀ p,F ρ=.val p -> ∀ v H',Same H H' -> At K G (mn H' O) p v -> Q v H') /\ ∀ c,F ρ=.err c -> ∀ H',Same H H' -> E (.ref c) none H'
abbrev PR (X:Cx) (G:Gx) (e:Expr) (C:En -> Prop) (F:En -> Rs):Prop:=∀ E,Passes (CXe X.prog X.w) X E -> PE X e (tR X.K G C F E)
section
variable {X:Cx} {G:Gx} {Er:ER} {E:XK} {e:Expr} {es:List Expr} {pos p pos':Pos} {i j k l:Nat} {x y n:Str} {ps:List Str} {pre:List PV -> Prop} {C:En -> Prop} {gs:En -> List PV} {g:En -> PV} {F:List PV -> Rs} {FE:En -> Rs} {Cc Cl:Addr} {px py pn hp p1 p2:Pos}
theorem jZW (o:OkE X.prog X.w X.K X.mg X.base j x ps (spE X.K G pre F)) (hr:Room k X.A) (ha:PA X (e :: es) (tXs X.K G C gs)) (hj:j <= k:=by decide) (hg:Gl X x:=by rfl) (hdb:(x == ("__debug__":Str))=false:=by decide)
    (he:starEach (e :: es) X.env=(false,eval e X.env) :: starEach es X.env:=by rfl) (hpl:(backTo pos (starEach es X.env)).any (·.1)=false:=by rfl):PR X G (.Call (.Name x p) (e :: es) [] pos) (fun ρ=>C ρ /\ pre (gs ρ)) fun ρ=>F (gs ρ) :=
  fun E hx pins s σ H Q I ⟨B,ρ,O,R,c,q,qe⟩=>zYW (E:=E) o hx hr ha hj hg hdb he hpl pins s σ H Q I ⟨B,ρ,O,R,c.1,fun vs H1 s1 a1=>by
    dsimp only
    rw [List.append_nil]
    exact ⟨gs ρ,O,(R.grow s1).dom,a1,c.2,fun p hp v H2 s2 a2=>q p hp v H2 (s1.trans s2) a2,fun cc hcc H2 s2=>qe cc hcc H2 (s1.trans s2)⟩⟩
theorem xR_V (h:PR X G e C FE):PE X e (tX X.K G (fun ρ=>C ρ /\ (FE ρ).isV) fun ρ=>(FE ρ).get) :=
  fun pins s σ H Q I ⟨B,ρ,O,R,c,q⟩=>h E0 passE0 pins s σ H Q I ⟨B,ρ,O,R,c.1,fun p hp v H' s a=>q v H' s (by dsimp only; rw [hp]; exact a),fun cc hcc=>by
    have z:=c.2
    rw [hcc] at z
    exact z.elim⟩
structure KSz (K:PySem.W.Frag) (G:Gx):Prop where
  sz:∀ (H:Hp) (a:Addr) (z:Int),G.ob 0 H a z -> ∃ C dx fs,H a=some (.ins C dx fs) /\ Cls K C /\ NoAttr K C "size" /\ fs.lookup ("size":Str)=some (.int z)
def pvZ:PV -> Int
  | .ob _ z=>z
  | _=>0
theorem jX1 (hK:KSz X.K G) (he:PE X e (tX X.K G C g)) (hb:attributeBase e "size" X.env (eval e X.env)=eval e X.env:=by rfl):PE X (.Attribute e "size" pos) (tXI X.K G (fun ρ=>C ρ /\ g ρ=.ob 0 (pvZ (g ρ))) fun ρ=>pvZ (g ρ)) :=
  toX (pe_fld he hb) fun B σ H ρ O Q R c q=>⟨B,ρ,O,R,c.1,fun v H1 s1 a1=>by
    rw [c.2] at a1
    obtain ⟨a,rfl,ob⟩:=a1
    obtain ⟨Ck,dx,fs,e1,e2,e3,e4⟩:=hK.sz _ _ _ ob
    exact ⟨a,Ck,dx,fs,_,rfl,yZV _ _ e1,e2,e3,e4,q _ H1 s1 rfl⟩⟩
def isNonP:PV -> Bool
  | .non=>true
  | _=>false
end
def GkE (KA:Hp -> Addr -> Int -> Prop) (mono:∀ {H H':Hp} {a:Addr} {z:Int},KA H a z -> Same H H' -> KA H' a z):Gx :=
  ⟨fun k H a z=>(k=0 /\ KA H a z) \/ (k=1 /\ ∃ C:Addr,z=((C:Nat):Int) /\ H a=some (excO a (.ref C))),fun _ _ _ _ _ s h=>h.elim (fun z=>.inl ⟨z.1,mono z.2 s⟩) fun z=>.inr ⟨z.1,let ⟨C,e,q⟩:=z.2; ⟨C,e,s _ _ q⟩⟩⟩
theorem yXH {KA:Hp -> Addr -> Int -> Prop} {mono:∀ {H H':Hp} {a:Addr} {z:Int},KA H a z -> Same H H' -> KA H' a z}:GErr (GkE KA mono):=by
  refine ⟨fun H a C h=>.inr ⟨rfl,C,rfl,h⟩,fun H a z h=>?_⟩
  rcases h with ⟨h,_⟩ | ⟨_,h⟩
  . exact absurd h (by decide)
  . exact h
end L3
namespace L2
open PySem PySem.Spec PyProof.Rows
def spKME (KA:Hp -> Addr -> Int -> Prop) (a:Addr) (z:Int) (n:Nat) (pre:Int -> List Int -> Prop) (F:Int -> List Int -> Int ⊕ Addr):Sp:=fun vs H Q E=>∃ ns:List Int,ns.length=n /\ vs=.ref a :: ns.map V.int /\ KA H a z /\ pre z ns /\ (∀ c,F z ns=.inl c -> ∀ H',Same H H' -> Q (.int c) H') /\ ∀ e,F z ns=.inr e -> ∀ H',Same H H' -> E (.ref e) none H'
structure KME (P:Program) (w:World) (K:PySem.W.Frag) (mg:Str -> Option Value) (base:Heap) (k:Nat) (KA:Hp -> Addr -> Int -> Prop) (m:Str) (n:Nat) (pre:Int -> List Int -> Prop) (F:Int -> List Int -> Int ⊕ Addr):Prop where
  ex:∀ H a z,KA H a z -> ∃ C dx fs ps,H a=some (.ins C dx fs) /\ fs.lookup m=none /\ OkM P w K mg base (CXe P w) k C m ps (spKME KA a z n pre F)
end L2
namespace L3
open PySem PySem.Spec PyProof.Rows L2
def toRs:Int ⊕ Addr -> Rs
  | .inl c=>.val (.int c)
  | .inr e=>.err e
section
variable {X:Cx} {G:Gx} {a b c e:Expr} {es:List Expr} {pos p px apos:Pos} {C Ca Cb Cc:En -> Prop} {ga gc:En -> PV} {gs:En -> List PV} {i j k n:Nat} {x m:Str}
theorem zW7 {KA:Hp -> Addr -> Int -> Prop} {preK:Int -> List Int -> Prop} {F:Int -> List Int -> Int ⊕ Addr} {pl:Sem Bool} (i:Nat) (M:KME X.prog X.w X.K X.mg X.base j KA m n preK F) (hr:Room k X.A) (ha:PA X (e :: es) (tXs X.K G C gs)) (hn:∀ ρ,(gs ρ).length=n:=by intro _; rfl) (hG:∀ H a z,G.ob 0 H a z -> KA H a z:=by first | exact fun _ _ _ h=>h.2 | exact fun _ _ _ h=>h.elim (fun z=>z.2) fun z=>absurd z.1 (by decide)) (hGm:∀ {H H':Hp} {a:Addr} {z:Int},KA H a z -> Same H H' -> KA H' a z:=by first | exact fun h s=>KAt.same h s | exact fun h s=>h.same s) (hj:j <= k:=by decide)
    (hN:X.N[i]?=some x:=by rfl) (hv:Vis X.env.scope x:=by first | exact Or.inl rfl | exact Or.inr (Or.inl rfl) | exact Or.inr (Or.inr rfl)) (hd:(x == ("__debug__":Str))=false:=by decide) (hcd:(x == ("__classdict__":Str))=false:=by decide)
    (hst:starEach (e :: es) X.env=(false,eval e X.env) :: starEach es X.env:=by rfl) (hpl:(backTo pos (starEach es X.env)).any (·.1)=false:=by rfl)
    (ht:eval (.Call (.Attribute (.Name x px) m apos) (e :: es) [] pos) X.env=(do
      let ov <- eval (.Name x px) X.env
      standAt apos.atName
      let (f,first) <- holding [ov] (getMethod ov m pl)
      callWith pos f first (backTo pos (starEach (e :: es) X.env)) (backToKw pos (keywordEach [] X.env))):=by rfl) :
    PR X G (.Call (.Attribute (.Name x px) m apos) (e :: es) [] pos) (fun ρ=>isK ρ i /\ C ρ /\ areI (gs ρ) /\ preK (getZ ρ i) (allI (gs ρ))) fun ρ=>toRs (F (getZ ρ i) (allI (gs ρ))):=by
  intro E hx pins s σ H Q I h
  obtain ⟨B,ρ,O,R,⟨c0,c1,c2,c3⟩,q,qe⟩:=h
  obtain ⟨v,e1,a,rfl,ka⟩:=R.fr i _ c0
  have ka1:KA H a (getZ ρ i):=hGm (hG _ _ _ ka) yZV
  obtain ⟨Cl,dx,fs,ps,f1,f2,M'⟩:=M.ex H a _ ka1
  obtain ⟨f,fd,FF,bb,mm,cc⟩:=M'.ex
  refine pe_meth (pe_var hN hv hd hcd) cc mm (FF.mono hj) hr bb .nil hx ha hst hpl ht pins s σ H Q I ⟨_,e1,a,dx,fs,rfl,f1,f2,B,ρ,O,R,c1,fun vs H1 s1 a1=>?_⟩
  have ev:=a1.ints c2
  have el:(allI (gs ρ)).length=n:=by rw [<- hn ρ,a1.length,ev,List.length_map]
  exact ⟨allI (gs ρ),el,by rw [List.append_nil,ev],hGm ka1 s1,c3,fun c hc H' s'=>q (.int c) (by dsimp only; rw [hc]; rfl) _ H' (s1.trans s') rfl,fun er her H' s'=>qe er (by dsimp only; rw [her]; rfl) H' (s1.trans s')⟩
end
end L3
namespace L2
open PySem PySem.Spec PyProof.Rows
theorem jJQ {K:PySem.W.Frag} {a b:Addr} {xs ys:List V} {g:TG} {tb:TS} {D:Ends} {σ:St} {H:Hp} (Pv:Nat -> St -> Hp -> Prop) (h0:Pv 0 σ H) (hl:∀ i σ H,Pv i σ H -> SqL K H a xs /\ SqL K H b ys)
    (hs:∀ i x y σ H T,xs[i]?=some x -> ys[i]?=some y -> Pv i σ H -> H T=none -> g (.ref T) σ (upd H T (.tup [x,y])) fun σ2 H2=>tb { D with nx:=Pv (i + 1),ct:=Pv (i + 1),bk:=D.nx } σ2 H2) (hd:∀ σ H,Pv (min xs.length ys.length) σ H -> D.nx σ H) :
    ∃ W:Nat -> Nat -> St -> Hp -> Prop,(∃ m,W 0 m σ H) /\ ∀ i m σ H,W i m σ H ->
      ((Itz K a b).stop i H /\ D.nx σ H) \/ ((Itz K a b).go i H /\ ∃ N:St -> Hp -> Prop,(∀ σ' H',N σ' H' -> ∃ m',m' < m /\ W (i + 1) m' σ' H') /\ ∀ x H',(Itz K a b).yld i H x H' -> g x σ H' fun σ2 H2=>tb { D with nx:=N,ct:=N,bk:=D.nx } σ2 H2):=by
  refine ⟨fun i m σ H=>m=min xs.length ys.length - i /\ i <= min xs.length ys.length /\ Pv i σ H,⟨min xs.length ys.length,by simp,Nat.zero_le _,h0⟩,?_⟩
  rintro i m σ H ⟨rfl,hi,p⟩
  obtain ⟨q1,q2⟩:=hl i σ H p
  by_cases hlt:i < min xs.length ys.length
  . have l1:i < xs.length:=by omega
    have l2:i < ys.length:=by omega
    refine .inr ⟨⟨xs,ys,xs[i],ys[i],q1,q2,by simp [l1],by simp [l2]⟩,Pv (i + 1),fun σ' H' p'=>⟨min xs.length ys.length - (i + 1),by omega,rfl,hlt,p'⟩,fun x H' y=>?_⟩
    obtain ⟨T,x1,y1,rfl,hT,rfl,hx,hy⟩:=y
    exact hs i x1 y1 σ H T (hx xs q1) (hy ys q2) p hT
  . have e:i=min xs.length ys.length:=by omega
    subst e
    exact .inl ⟨⟨xs,ys,q1,q2,by omega⟩,hd σ H p⟩
end L2
namespace L3
open PySem PySem.Spec PyProof.Rows L2
end L3
namespace L2
open PySem PySem.Spec PyProof.Rows
end L2
namespace L3
open PySem PySem.Spec PyProof.Rows L2
section
variable {X:Cx} {G:Gx} {a b c e:Expr} {p pos:Pos} {C Ca Cb Cc:En -> Prop} {ga gb g:En -> PV} {gl:En -> List Int}
theorem jV0 (he:PE X e (tXL X.K G C gl)) (ht:∀ whole,isTrue e X.env whole=(do let v <- whole; standAt e.pos; holding [v] (truthy v)):=by intro _; rfl):PT X e (tXT X.K G C fun ρ=>¬ gl ρ=[]) :=
  fun pins s σ H Q I ⟨B,ρ,O,R,c,q⟩=>pt_truth he ht pins s σ H Q I ⟨B,ρ,O,R,c,fun v H1 s1 a1=>by
    obtain ⟨l,rfl,hq⟩:=a1
    refine ⟨_,.inl ⟨_,.inl (yQZ yZV hq),rfl⟩,?_⟩
    have z:=q H1 s1
    have e:(!((gl ρ).map V.int).isEmpty)=decide (¬ gl ρ=[]):=by cases gl ρ <;> simp
    rw [e]; exact z⟩
theorem jZ8 {pt:En -> Prop} [∀ ρ,Decidable (pt ρ)] (hc:PT X c (tXT X.K G Cc pt)) (ha:PE X a (tX X.K G Ca ga)) (hb:PE X b (tX X.K G Cb gb)):PE X (.IfExp c a b pos) (tX X.K G (fun ρ=>Cc ρ /\ (pt ρ -> Ca ρ) /\ (¬ pt ρ -> Cb ρ)) fun ρ=>if pt ρ then ga ρ else gb ρ) :=
  toX (pe_ifExp hc ha hb) fun B σ H ρ O Q R c q=>⟨B,ρ,O,R,c.1,fun H1 s1=>by
    by_cases d:pt ρ
    . rw [decide_eq_true d]
      refine iteT ⟨B,ρ,O,R.grow s1,c.2.1 d,fun v H2 s2 a2=>q v H2 (s1.trans s2) ?_⟩
      show At X.K G (mn H2 O) (if pt ρ then ga ρ else gb ρ) v
      rw [if_pos d]; exact a2
    . rw [decide_eq_false d]
      refine iteF ⟨B,ρ,O,R.grow s1,c.2.2 d,fun v H2 s2 a2=>q v H2 (s1.trans s2) ?_⟩
      show At X.K G (mn H2 O) (if pt ρ then ga ρ else gb ρ) v
      rw [if_neg d]; exact a2⟩
end
end L3
namespace L2
open PySem PySem.Spec PyProof.Rows
end L2
namespace L3
open PySem PySem.Spec PyProof.Rows L2
end L3
namespace L2
open PySem PySem.Spec PyProof.Rows
end L2
namespace L3
open PySem PySem.Spec PyProof.Rows L2
section
variable {X:Cx} {G:Gx} {Er:ER} {f:FS} {a b c e:Expr} {pos p:Pos} {C Ca Cb Cc Cs:En -> Prop} {ga gb gs:En -> Str} {gi gj gk:En -> Int} {g:En -> PV} {i k:Nat} {x:Str}
def fstP:PV -> PV
  | .tup [a,_]=>a
  | _=>.non
def sndP:PV -> PV
  | .tup [_,b]=>b
  | _=>.non
def isPair (q:PV):Prop:=q=.tup [fstP q,sndP q]
end
section
variable {K:PySem.W.Frag} {G:Gx} {σ:L2.St} {H:Hp} {Q:VK} {Cs Cb:En -> Prop} {gp:En -> PV} {cap:List (Option Nat)}
theorem jVV {ga gb:En -> Int} {Ca C2:En -> Prop} (h:tXp K G (fun ρ=>(Ca ρ /\ C2 ρ) /\ (-(2 ^ 62) <= ga ρ /\ ga ρ < 2 ^ 62 /\ -(2 ^ 62) <= gb ρ /\ gb ρ < 2 ^ 62) /\ (gb ρ - ga ρ).toNat <= 1000 /\ ∀ k:Nat,k < (gb ρ - ga ρ).toNat -> Cb ((capR (none :: cap) ρ).set 0 (.fr (.int (ga ρ + k))))) (fun ρ=>(List.range (gb ρ - ga ρ).toNat).map fun (k:Nat)=>gp ((capR (none :: cap) ρ).set 0 (.fr (.int (ga ρ + k))))) σ H Q) :
    tLC (none :: cap) (iRng2 (tCons (tXI K G Ca ga) (tCons (tXI K G C2 gb) tNil))) (gName 0) noTest (tX K G Cb gp) σ H Q:=by
  obtain ⟨B,ρ,O,R,⟨⟨c1,c2⟩,l,c4,c5⟩,q⟩:=h
  refine ⟨B,ρ,O,R,c1,fun v H1 s1 a1=>⟨B,ρ,O,R.grow s1,c2,fun u H2 s2 a2=>?_⟩⟩
  have a1:v=.int (ga ρ):=a1
  have a2:u=.int (gb ρ):=a2
  subst a1 a2
  have hz:(List.range (gb ρ - ga ρ).toNat).length=(gb ρ - ga ρ).toNat:=List.length_range
  refine ⟨ga ρ,gb ρ,rfl,l,fun D hD=>?_⟩
  refine yWH (List.range (gb ρ - ga ρ).toNat) (fun _ v=>(capS (none :: cap) σ).set 0 (some v)) (fun (k:Nat)=>(capR (none :: cap) ρ).set 0 (.fr (.int (ga ρ + k)))) (fun (k:Nat)=>.int (ga ρ + k)) ((R.grow s1).grow s2) hD (by rw [hz]; exact c4) (fun i H hi s=>by rw [hz] at hi; exact hi) ?_ (fun H s=>by rw [hz]; exact Nat.le_refl _) (fun k H _ s R'=>R'.set (p:=.int _) rfl) ?_ ?_ ?_
  . rintro i k x H H' en s ⟨rfl,rfl⟩
    have hlt:i < (gb ρ - ga ρ).toNat:=by
      have:=(List.getElem?_eq_some_iff.mp en).1
      rw [hz] at this
      exact this
    rw [List.getElem?_range hlt] at en
    cases en
    exact ⟨Same.refl _,fun kk hk=>hk⟩
  . intro k
    show ExtS (none :: capS cap σ) (some (.int _) :: capS cap σ)
    exact yX1 _
  . intro k hk
    exact c5 k (List.mem_range.mp hk)
  . intro H' ys s hd al
    exact q D ys H' ((s1.trans s2).trans s) ((s1.trans s2).free hD) hd al
end
section
variable {X:Cx} {G:Gx} {Er:ER} {N':List Str} {sc:Scope} {cl:List (Str × Addr)} {cap:List (Option Nat)} {el tg src:Expr} {at' spos px:Pos} {Cs Cb Ca C2 Cc:En -> Prop} {gs:En -> List Int} {ga gb gc gi:En -> Int} {gp:En -> PV} {i:Nat} {x:Str} {a b c:Expr}
theorem qU5 {t:TE} {st:Stmt} {C:En -> Prop} {g:En -> List PV} (h:PS X st (tAsg t (gName i))) (k:∀ σ H Q,tXp X.K G C g σ H Q -> t σ H Q):PS X st (ts X.K G Er fun P ρ=>C ρ /\ ∀ ns,ns=g ρ -> P.nx (ρ.set i (.fr (.lst ns)))) :=
  toS h fun B σ H ρ O P D R c w=>k σ H _ ⟨B,ρ,O,R,c.1,fun a vs H1 s1 n1 e1 al=>w.nx _ H1 _ ⟨O,(R.grow s1).set (p:=.lst _) ⟨a,vs,rfl,.inl (by
    rw [yU5]
    . exact e1
    . cases z:O a with
      | false=>rfl
      | true=>exact absurd n1 (R.dom a z)),by
    refine AtL.mono ?_ _ _ al
    exact zZW yWW⟩⟩ (c.2 _ rfl)⟩
end
def isGo (q:PV):Prop:=∃ g o,q=.tup [.ints g,.int o]
end L3
namespace L2
open PySem PySem.Spec PyProof.Rows
theorem jYZ:bootBuiltins "any"=some (.builtin "any"):=by decide +kernel
theorem qJ6:∀ {bs:List Bool} {its:List Value},Vals (bs.map V.bl) its -> its=bs.map Value.bool
  | [],_,h=>by cases h; rfl
  | b :: r,_,h=>by
    cases h with
    | cons h1 h2 =>
      have e:_=Value.bool b:=h1
      rw [qJ6 h2,e]
      rfl
theorem qJ4 {X:Cx} (hc:X.calm=true):CallR X (.builtin "any") (fun xs H Q=>∃ (a:Addr) (bs:List Bool),xs=[.ref a] /\ Rd H a (.lst (bs.map V.bl)) /\ Q (.bl (bs.any id)) H):=by
  intro pins s σ H xs us Q I rv h
  obtain ⟨a,bs,rfl,ha,q⟩:=h
  obtain ⟨u,rfl,ru⟩:=vals1 rv
  cases ru
  obtain ⟨_,its,n,r,_,e⟩:=L3.Inv.lstR I ha
  have eb:=qJ6 r
  subst eb
  have hL:s.heap.IsList a (bs.map Value.bool).toArray:=⟨_,e,rfl,_,rfl⟩
  have hne:a ≠ s.heap.objs.size:=Nat.ne_of_lt (Heap.lt_size e)
  refine call_any_walk (wpAny_pyIter_list hL ?_)
  refine ⟨_,[s.heap.objs.size,a],[s.heap.objs.size],_,_,_,fun i=>bs.getD i false,rfl,Walks.list (A:=X.A.in1) (I.ok.hd hc) _ a hne (bs.map Value.bool).toArray,⟨⟨_,Heap.get?_push_size _ rfl,rfl,rfl⟩,hL.push _⟩,fun i v s Q E hv hq=>?_,fun h' tk hk=>?_⟩
  . have hv:(bs.map Value.bool).toArray[i]?=some v:=hv
    rw [List.getElem?_toArray,List.getElem?_map] at hv
    cases eb:bs[i]? with
    | none=>rw [eb] at hv; cases hv
    | some b =>
      rw [eb] at hv
      have hv:Value.bool b=v:=Option.some.inj hv
      subst hv
      have eg:bs.getD i false=b:=by rw [gQ,eb]; rfl
      refine wpAny_truthy_bool ?_
      have hq:Q (bs.getD i false) s:=hq
      rw [eg] at hq
      exact hq
  . have en:(List.range (bs.map Value.bool).toArray.size).any (fun i=>bs.getD i false)=bs.any id:=by
      rw [List.size_toArray,List.length_map,Bool.eq_iff_iff,List.any_eq_true,List.any_eq_true]
      constructor
      . rintro ⟨i,hi,hb⟩
        have hi:=List.mem_range.mp hi
        refine ⟨bs[i],List.getElem_mem hi,?_⟩
        rw [gQ,List.getElem?_eq_getElem hi] at hb
        exact hb
      . rintro ⟨b,hb,hx⟩
        obtain ⟨i,hi,rfl⟩:=List.mem_iff_getElem.mp hb
        refine ⟨i,List.mem_range.mpr hi,?_⟩
        rw [gQ,List.getElem?_eq_getElem hi]
        exact hx
    rw [en]
    refine ⟨.bl _,H,I.kept (t':=tk) fun b o eo=>hk b o (fun hm=>?_) (Heap.get?_push_of_some _ eo),rfl,q⟩
    have:b=s.heap.objs.size:=List.mem_singleton.mp hm
    exact absurd (Heap.lt_size eo) (by rw [this]; exact Nat.lt_irrefl _)
end L2
namespace L3
open PySem PySem.Spec PyProof.Rows L2
section
variable {X:Cx} {G:Gx} {Er:ER} {a b c e:Expr} {pos p:Pos} {C Ca:En -> Prop} {gl:En -> List Int} {g:En -> PV} {gp:En -> List PV} {i:Nat} {x:Str} {px pa pc:Pos}
def isTB:PV -> Bool
  | .bl b=>b
  | _=>false
theorem qZX {K:PySem.W.Frag} {H:Hp}:∀ {ps:List PV} {vs:List V},AtL K G H ps vs -> (∀ q ∈ ps,∃ b,q=.bl b) -> vs=(ps.map isTB).map V.bl
  | [],_,h,_=>h
  | q :: r,_,h,k=>by
    obtain ⟨v,t,rfl,e,z⟩:=h
    obtain ⟨b,rfl⟩:=k q List.mem_cons_self
    have e:v=.bl b:=e
    rw [e,qZX z fun q hq=>k q (List.mem_cons_of_mem _ hq)]
    rfl
theorem jXZ (hcm:X.calm=true) (hm:X.mg "any"=none) (ha:PE X a (tX X.K G Ca fun ρ=>.lst (gp ρ))) (hg:Gl X "any":=by rfl) (he:starEach [a] X.env=[(false,eval a X.env)]:=by rfl):PE X (.Call (.Name "any" p) [a] [] pos) (tXB X.K G (fun ρ=>Ca ρ /\ ∀ q ∈ gp ρ,∃ b,q=.bl b) fun ρ=>((gp ρ).map isTB).any id=true) :=
  toX (pe_callB (qJ4 hcm) hg hm jYZ (pa_cons ha pa_nil he) (by decide) (by decide) he rfl) fun B σ H ρ O Q R c q=>⟨B,ρ,O,R,c.1,fun v H1 s1 a1=>by
    obtain ⟨l,vs,rfl,r1,al⟩:=a1
    have ev:=qZX al c.2
    subst ev
    exact ⟨l,_,rfl,yQZ yZV r1,q _ H1 s1 (by show V.bl _=V.bl (decide _); rw [Bool.decide_eq_true])⟩⟩
def isOP (ρ:En) (i:Nat):Prop:=ρ[i]?=some (.ow (.lst (pvP (getP ρ i))))
theorem zU8 (i:Nat) {x:Str} (he:PE X e (tX X.K G C g)) (hN:X.N[i]?=some x:=by rfl) (hv:Vis X.env.scope x:=by first | exact Or.inl rfl | exact Or.inr (Or.inl rfl) | exact Or.inr (Or.inr rfl))
    (hd:(x == ("__debug__":Str))=false:=by decide) (hcd:(x == ("__classdict__":Str))=false:=by decide)
    (hbase:attributeBase (.Name x px) "append" X.env (eval (.Name x px) X.env)=eval (.Name x px) X.env:=by rfl)
    (hfew:((backTo pc (starEach (e :: []) X.env)).all (fun x=>!x.1) && (backToKw pc (keywordEach [] X.env)).all (fun x=>x.1.isSome)
      && decide ((e :: []).length + ([]:List Keyword).length + (if ([]:List Keyword).isEmpty then 0 else 1) < 30))=true:=by rfl)
    (hline:(pa.endLine == pc.line)=true:=by rfl) (hs:starEach (e :: []) X.env=(false,eval e X.env) :: starEach [] X.env:=by rfl) (hplain:(backTo pc (starEach [] X.env)).any (·.1)=false:=by rfl)
    (hsw:swapsWith (.Call (.Attribute (.Name x px) "append" pa) [e] [] pc) none pos.line X.env=pure false:=by rfl) :
    PS X (.Expr (.Call (.Attribute (.Name x px) "append" pa) [e] [] pc) pos) (ts X.K G Er fun P ρ=>isOP ρ i /\ C ρ /\ (pvP (getP ρ i)).length < sizeLine /\ P.nx (ρ.set i (.ow (.lst (pvP (getP ρ i) ++ [g ρ]))))) :=
  toS (ps_expr (pe_bm PySem.F.plainAttrs_list PySem.F.slot_list_append PySem.F.type_list_append mt_append (pe_var hN hv hd hcd) (pa_cons he pa_nil hs) hbase hfew hline hs hplain) hsw) fun B σ H ρ O P D R c w=>by
    obtain ⟨c0,c1,c2,c3⟩:=c
    obtain ⟨a,vs,e1,e2,e3,e4,e5⟩:=R.ow i _ c0
    have e5:AtL X.K G (mn H O) (pvP (getP ρ i)) vs:=e5
    have el:=e5.length
    refine ⟨_,e1,.inl ⟨rfl,_,SqL.of e4⟩,B,ρ,O,R,c1,fun v H1 s1 a1=>?_⟩
    refine ⟨a,_,_,rfl,rfl,s1 _ _ e4,by rw [<- el]; exact c2,w.nx σ _ _ ⟨O,(R.grow s1).change c0 e1 (p':=.lst (pvP (getP ρ i) ++ [g ρ])) ?_⟩ c3⟩
    show AtL X.K G (mn H1 O) (pvP (getP ρ i) ++ [g ρ]) _
    exact AtL.snoc (AtL.mono (yY9 s1) _ _ e5) a1
end
section
variable {K:PySem.W.Frag} {G:Gx} {σ:L2.St} {H:Hp} {Q:VK} {Cs Cb:En -> Prop} {gp:En -> PV} {cap:List (Option Nat)}
theorem lc_V {gl:En -> List PV} (h:tXp K G (fun ρ=>Cs ρ /\ (gl ρ).length <= 1000 /\ ∀ q ∈ gl ρ,Cb ((capR (none :: cap) ρ).set 0 (.fr q))) (fun ρ=>(gl ρ).map fun q=>gp ((capR (none :: cap) ρ).set 0 (.fr q))) σ H Q) :
    tLC (none :: cap) (iList K (tX K G Cs fun ρ=>.lst (gl ρ))) (gName 0) noTest (tX K G Cb gp) σ H Q:=by
  obtain ⟨B,ρ,O,R,⟨c1,c2,c4⟩,q⟩:=h
  refine ⟨B,ρ,O,R,c1,fun v H1 s1 a1=>?_⟩
  obtain ⟨a,vs,rfl,hq,hal⟩:=a1
  have hq1:SqL K H1 a vs:=.inl (yQZ yZV hq)
  have el:=hal.length
  have R1:=R.grow s1
  refine ⟨a,rfl,⟨_,hq1⟩,fun D hD=>?_⟩
  have one:∀ i n,(gl ρ)[i]?=some n -> At K G (mn H1 O) n (vs.getD i .non):=fun i n en=>by
    have hi:i < vs.length:=by rw [<- el]; exact (List.getElem?_eq_some_iff.mp en).1
    obtain ⟨n',en',an⟩:=hal.get (List.getElem?_eq_getElem hi)
    rw [en] at en'
    cases en'
    rw [gQ,List.getElem?_eq_getElem hi]
    exact an
  obtain ⟨items,hit⟩:∃ items:List (Nat × PV),items=(gl ρ).zipIdx.map fun z=>(z.2,z.1):=⟨_,rfl⟩
  have hlen:items.length=(gl ρ).length:=by rw [hit,List.length_map,List.length_zipIdx]
  have hat:∀ (i:Nat) (it:Nat × PV),items[i]?=some it -> it.1=i /\ (gl ρ)[i]?=some it.2:=fun i it e=>by
    rw [hit,List.getElem?_map,List.getElem?_zipIdx] at e
    cases eg:(gl ρ)[i]? with
    | none=>rw [eg] at e; cases e
    | some n =>
      rw [eg] at e
      have e:=Option.some.inj e
      subst e
      exact ⟨Nat.zero_add i,rfl⟩
  have hmem:∀ it ∈ items,(gl ρ)[it.1]?=some it.2:=fun it hm=>by
    obtain ⟨i,e⟩:=List.mem_iff_getElem?.mp hm
    obtain ⟨h1,h2⟩:=hat i it e
    rw [h1]
    exact h2
  have hmap:items.map (fun it=>gp ((capR (none :: cap) ρ).set 0 (.fr it.2)))=(gl ρ).map fun q=>gp ((capR (none :: cap) ρ).set 0 (.fr q)):=by
    refine List.ext_getElem? fun i=>?_
    rw [List.getElem?_map,List.getElem?_map]
    by_cases c:i < (gl ρ).length
    . have c':i < items.length:=by omega
      obtain ⟨h1,h2⟩:=hat i items[i] (List.getElem?_eq_getElem c')
      rw [List.getElem?_eq_getElem c',h2]
      rfl
    . rw [List.getElem?_eq_none (show items.length <= i by omega),List.getElem?_eq_none (show (gl ρ).length <= i by omega)]
      rfl
  refine yWH items (fun _ v=>(capS (none :: cap) σ).set 0 (some v)) (fun it=>(capR (none :: cap) ρ).set 0 (.fr it.2)) (fun it=>vs.getD it.1 .non) R1 hD (by rw [hlen]; exact c2)
    (fun i H hi s=>⟨vs,vs[i]'(by rw [<- el,<- hlen]; exact hi),s.seq hq1,by rw [List.getElem?_eq_getElem]⟩) ?_ (fun H s=>⟨_,s.seq hq1,by rw [hlen,el]; exact Nat.le_refl _⟩) (fun it H hm s R'=>?_) ?_ ?_ ?_
  . rintro i it x H H' en s ⟨rfl,hx⟩
    obtain ⟨h1,h2⟩:=hat i it en
    have e3:=hx _ (s.seq hq1)
    refine ⟨Same.refl _,fun kk hk=>?_⟩
    rw [h1,gQ,e3] at hk
    exact hk
  . exact R'.set (At.mono (yVQ (O:=O) s hD) _ _ (one _ _ (hmem it hm)))
  . intro it
    show ExtS (none :: capS cap σ) (some _ :: capS cap σ)
    exact yX1 _
  . intro it hm
    exact c4 it.2 (List.mem_of_getElem? (hmem it hm))
  . intro H' ys s hd al
    refine q D ys H' (s1.trans s) (s1.free hD) hd ?_
    have al:AtL K G (mn H' (hide D O)) (items.map (fun it=>gp ((capR (none :: cap) ρ).set 0 (.fr it.2)))) ys:=al
    rw [hmap] at al
    exact al
end
section
variable {X:Cx} {G:Gx} {Er:ER} {N':List Str} {sc:Scope} {cl:List (Str × Addr)} {cap:List (Option Nat)} {el tg src:Expr} {at' spos px:Pos} {Cs Cb:En -> Prop} {gn gi:En -> Int} {gp:En -> PV} {gl:En -> List PV} {i:Nat} {x:Str}
theorem qJW (L:LcOk X N' sc cl (none :: cap)) (hc:X.calm=true) (hi:PE X src (tX X.K G Cs fun ρ=>.lst (gl ρ))) (hg:∀ s H fp,PG (cxComp X N' sc cl s H fp) tg (gName 0)) (he:∀ s H fp,PE (cxComp X N' sc cl s H fp) el (tX X.K G Cb gp)) (hs:∀ x,foldedSetIterable src X.env x=pure x:=by intro _; rfl) :
    PE X (.ListComp el [⟨tg,src,[],0⟩] sc at') (tXp X.K G (fun ρ=>Cs ρ /\ (gl ρ).length <= 1000 /\ ∀ q ∈ gl ρ,Cb ((capR (none :: cap) ρ).set 0 (.fr q))) fun ρ=>(gl ρ).map fun q=>gp ((capR (none :: cap) ρ).set 0 (.fr q))) :=
  fun pins s σ H Q I h=>zV3 L hc (pi_list hi) hg (fun _ _ _=>yX0) he hs pins s σ H Q I (lc_V h)
theorem qU2 (L:LcOk X N' sc cl (none :: cap)) (hc:X.calm=true) (hi:PE X src (tX X.K G Cs fun ρ=>.lst (gl ρ))) (hg:∀ s H fp,PG (cxComp X N' sc cl s H fp) tg (gName 0)) (he:∀ s H fp,PE (cxComp X N' sc cl s H fp) el (tXI X.K G Cb gi)) (hs:∀ x,foldedSetIterable src X.env x=pure x:=by intro _; rfl) :
    PE X (.ListComp el [⟨tg,src,[],0⟩] sc at') (tXl X.K G (fun ρ=>Cs ρ /\ (gl ρ).length <= 1000 /\ ∀ q ∈ gl ρ,Cb ((capR (none :: cap) ρ).set 0 (.fr q))) fun ρ=>(gl ρ).map fun q=>gi ((capR (none :: cap) ρ).set 0 (.fr q))) :=
  fun pins s σ H Q I h=>zV3 L hc (pi_list hi) hg (fun _ _ _=>yX0) he hs pins s σ H Q I (lc_V (zY5 h))
theorem qKZ {p pos':Pos} (L:LcOk X N' sc cl (none :: cap)) (hc:X.calm=true) (hgl:Gl X "range") (hm:X.mg "range"=none) (hi:PE X src (tXI X.K G Cs gn)) (hg:∀ s H fp,PG (cxComp X N' sc cl s H fp) tg (gName 0)) (he:∀ s H fp,PE (cxComp X N' sc cl s H fp) el (tX X.K G Cb gp))
    (hst:starEach [src] X.env=[(false,eval src X.env)]:=by rfl) (hs:∀ x,foldedSetIterable (.Call (.Name "range" p) [src] [] pos') X.env x=pure x:=by intro _; rfl) :
    PE X (.ListComp el [⟨tg,.Call (.Name "range" p) [src] [] pos',[],0⟩] sc at') (tXp X.K G (fun ρ=>Cs ρ /\ (0 <= gn ρ /\ gn ρ <= 1000) /\ ∀ k:Nat,k < (gn ρ).toNat -> Cb ((capR (none :: cap) ρ).set 0 (.fr (.int k)))) fun ρ=>(List.range (gn ρ).toNat).map fun (k:Nat)=>gp ((capR (none :: cap) ρ).set 0 (.fr (.int k)))) :=
  fun pins s σ H Q I h=>zV3 L hc (pi_range1 hgl hm (pa_cons hi pa_nil hst) hst) hg (fun _ _ _=>yX0) he hs pins s σ H Q I (lc_R h)
end
section
variable {K:PySem.W.Frag} {G:Gx} {H:Hp}
theorem qJJ:∀ {ps:List PV} {vs:List V} {k:Nat} {q:PV} {v:V},AtL K G H ps vs -> At K G H q v -> AtL K G H (ps.set k q) (vs.set k v)
  | [],_,k,_,_,h,_=>by
    have h:_=[]:=h
    rw [h]
    rfl
  | p :: r,_,0,q,v,h,a=>by
    obtain ⟨u,t,rfl,e,z⟩:=h
    exact ⟨v,t,rfl,a,z⟩
  | p :: r,_,k + 1,q,v,h,a=>by
    obtain ⟨u,t,rfl,e,z⟩:=h
    exact ⟨u,t.set k v,rfl,e,qJJ z a⟩
theorem zKH:∀ {ps:List PV} {vs:List V},AtL K G H ps vs -> ∀ k:Nat,AtL K G H (ps.drop k) (vs.drop k)
  | _,_,h,0=>h
  | [],_,h,k + 1=>by
    have h:_=[]:=h
    rw [h]
    rfl
  | p :: r,_,h,k + 1=>by
    obtain ⟨u,t,rfl,e,z⟩:=h
    exact zKH z k
theorem zUX:∀ {ps:List PV} {vs:List V},AtL K G H ps vs -> ∀ k:Nat,AtL K G H (ps.take k) (vs.take k)
  | _,_,_,0=>rfl
  | [],_,h,k + 1=>by
    have h:_=[]:=h
    rw [h]
    rfl
  | p :: r,_,h,k + 1=>by
    obtain ⟨u,t,rfl,e,z⟩:=h
    exact ⟨u,t.take k,rfl,e,zUX z k⟩
end
section
variable {X:Cx} {G:Gx} {Er:ER} {a b e:Expr} {pos p px:Pos} {C Ca Cb:En -> Prop} {gb:En -> Int} {g:En -> PV} {gp:En -> List PV} {i:Nat} {x:Str}
theorem qQ6 (i:Nat) {x:Str} {ps:Pos} (hk:PE X b (tXI X.K G Cb gb)) (he:PE X e (tX X.K G C g)) (hN:X.N[i]?=some x:=by rfl) (hv:Vis X.env.scope x:=by first | exact Or.inl rfl | exact Or.inr (Or.inl rfl) | exact Or.inr (Or.inr rfl))
    (hd:(x == ("__debug__":Str))=false:=by decide) (hcd:(x == ("__classdict__":Str))=false:=by decide)
    (ha:∀ v,assign (.Subscript (.Name x px) b ps) X.env v=(do
      let ov <- holding [v] (eval (.Name x px) X.env)
      let iv <- holding [v,ov] (eval b X.env)
      standAt ps
      holding [v,ov,iv] (setItem ov iv v)
      release [v,ov,iv] []):=by intro _; rfl)
    (hs:swapsWithSole [.Subscript (.Name x px) b ps] e pos.line X.env=pure false:=by rfl) (hw:swappedStores [.Subscript (.Name x px) b ps] e X.env=pure none:=by rfl)
    (h1:(assignEach [.Subscript (.Name x px) b ps] X.env).map (·.2)=[assign (.Subscript (.Name x px) b ps) X.env]:=by rfl) :
    PS X (.Assign [.Subscript (.Name x px) b ps] e pos) (ts X.K G Er fun P ρ=>C ρ /\ isOP ρ i /\ Cb ρ /\ (-((pvP (getP ρ i)).length:Int) <= gb ρ /\ gb ρ < ((pvP (getP ρ i)).length:Int)) /\ P.nx (ρ.set i (.ow (.lst ((pvP (getP ρ i)).set (ixO (pvP (getP ρ i)).length (gb ρ)) (g ρ)))))) :=
  toS (ps_asg he (pg_sub (pe_var hN hv hd hcd) hk set_list ha) hs hw h1) fun B σ H ρ O P D R c w=>by
    obtain ⟨c1,c0,c2,cb,c3⟩:=c
    refine ⟨B,ρ,O,R,c1,fun v H1 s1 a1=>?_⟩
    have R1:=R.grow s1
    obtain ⟨l,vs,e1,e2,e3,e4,e5⟩:=R1.ow i _ c0
    have e5:AtL X.K G (mn H1 O) (pvP (getP ρ i)) vs:=e5
    have el:=e5.length
    refine ⟨_,e1,B,ρ,O,R1,c2,fun u H2 s2 a2=>?_⟩
    have a2:u=.int (gb ρ):=a2
    subst a2
    refine ⟨l,_,_,_,rfl,rfl,s2 _ _ e4,by rw [<- el]; exact zU9 cb.1 cb.2,w.nx σ _ _ ⟨O,(R1.grow s2).change c0 e1 (p':=.lst _) ?_⟩ c3⟩
    show AtL X.K G (mn H2 O) ((pvP (getP ρ i)).set _ (g ρ)) (vs.set _ v)
    rw [el]
    exact qJJ (AtL.mono (yY9 s2) _ _ e5) (At.mono (yY9 s2) _ _ a1)
def cutP (xs:List PV) (lo hi:Option Int):List PV:=(xs.drop (HT.sIx xs.length 0 lo)).take (HT.sIx xs.length xs.length hi - HT.sIx xs.length 0 lo)
theorem yU6 {lo hi:Option Expr} {p2:Pos} {Cl Ch:En -> Prop} {gl gh:En -> Option Int} (ha:PE X a (tX X.K G C fun ρ=>.lst (gp ρ))) (hl:PO X lo (tXo X.K G Cl gl)) (hh:PO X hi (tXo X.K G Ch gh)) :
    PE X (.Subscript a (.Slice lo hi none p2) pos) (tXp X.K G (fun ρ=>C ρ /\ Cl ρ /\ Ch ρ) fun ρ=>cutP (gp ρ) (gl ρ) (gh ρ)) :=
  fun pins s σ H Q I ⟨B,ρ,O,R,c,q⟩=>pe_slice sl_list ha hl hh pins s σ H Q I ⟨B,ρ,O,R,c.1,fun v H1 s1 a1=>⟨B,ρ,O,R.grow s1,c.2.1,fun H2 s2=>⟨B,ρ,O,(R.grow s1).grow s2,c.2.2,fun H3 s3=>by
    obtain ⟨l,vs,rfl,r,al⟩:=a1
    have al3:=AtL.mono (yY9 (s2.trans s3)) _ _ al
    have ell:=al.length
    refine ⟨l,_,rfl,(s2.trans s3).seq (.inl (yQZ yZV r)),fun y hy=>q y _ _ (((s1.trans s2).trans s3).trans (same_new hy _)) (((s1.trans s2).trans s3).free hy) upd_same (AtL.mono (yVQ (same_new hy _) hy) _ _ ?_)⟩
    show AtL X.K G (mn H3 O) (cutP (gp ρ) (gl ρ) (gh ρ)) (cutV vs (gl ρ) (gh ρ))
    unfold cutP cutV
    rw [ell]
    exact zUX (zKH al3 _) _⟩⟩⟩
end
def spNewR (C:Addr):Sp:=fun vs H Q _=>∃ (x dx:Addr) (p:Int),vs=[.ref x,.int p] /\ FM.IsP p /\ H x=some (.ins C dx []) /\ Q .non (upd H x (.ins C dx [("size",.int p)]))
def KR (cR:Addr) (H:Hp) (a:Addr) (z:Int):Prop:=0 < z /\ ∃ dx fs,H a=some (.ins cR dx fs) /\ fs.lookup ("size":Str)=some (.int z) /\ ∀ m ∈ kMeths,fs.lookup m=none
theorem KR.same {cR:Addr} {H H':Hp} {a:Addr} {z:Int} (k:KR cR H a z) (s:Same H H'):KR cR H' a z:=by
  obtain ⟨e0,dx,fs,e,r⟩:=k
  exact ⟨e0,dx,fs,s _ _ e,r⟩
section
variable {X:Cx} {G:Gx} {pos p:Pos} {j k:Nat} {x y:Str} {C:Addr} {e:Expr} {Ca:En -> Prop} {ga:En -> Int}
theorem xk_R (o:OkI X.prog X.w X.K X.mg X.base CX0 j x C ["self",y] (spNewR C)) (hr:Room k X.A) (hG:∀ (H:Hp) (a dx:Addr) (p:Int),FM.IsP p -> H a=some (.ins C dx [("size",.int p)]) -> G.ob 0 H a p) (ha:PE X e (tXI X.K G Ca ga)) (hj:j + 1 <= k:=by decide) (hg:Gl X x:=by rfl) (hdb:(x == ("__debug__":Str))=false:=by decide)
    (he:starEach [e] X.env=[(false,eval e X.env)]:=by rfl) (hpl:(backTo pos (starEach [] X.env)).any (·.1)=false:=by rfl):PE X (.Call (.Name x p) [e] [] pos) (tX X.K G (fun ρ=>Ca ρ /\ FM.IsP (ga ρ)) fun ρ=>.ob 0 (ga ρ)) :=
  toX (qVZ o hr pass0 (pa_cons ha pa_nil he) hj hg hdb he hpl) fun B σ H ρ O Q R c q=>⟨B,ρ,O,R,c.1,fun v H1 s1 a1=>fun y dx hy hd hne=>by
    have a1:v=.int (ga ρ):=a1
    subst a1
    refine ⟨y,dx,ga ρ,rfl,c.2,upd_same,rfl,q (.ref y) _ (s1.trans (jZ7 hy hd)) ⟨y,rfl,hG _ _ dx _ c.2 ?_⟩⟩
    rw [jJ3 (R.grow s1).dom hy]
    exact upd_same⟩
end
def tabP (t:List (List Int)):PV:=.lst (t.map PV.ints)
theorem yHK:∀ t:List (List Int),areDat (t.map PV.ints)
  | []=>tJ
  | _ :: r=>⟨tJ,yHK r⟩
theorem zJX:∀ t:List (List Int),PyData.canLayAll0 (dats (t.map PV.ints))=true /\ PyData.depthAll (dats (t.map PV.ints)) <= 1
  | []=>⟨rfl,by decide⟩
  | g :: r=>by
    obtain ⟨h1,h2⟩:=zJX r
    refine ⟨?_,?_⟩
    . simp [dat,dats,PyData.canLay0,PyData.canLayAll0,PySem.W.ke_canLayAll0,h1]
    . simp only [List.map_cons,dats,PyData.depthAll]
      refine Nat.max_le.mpr ⟨?_,h2⟩
      simp [dat,PyData.depth,PySem.W.ke_depthAll]
theorem qY8 (t:List (List Int)):(Shape.list (.list .int)).has (dat (tabP t))=true:=by
  have key:∀ t:List (List Int),((dats (t.map PV.ints)).all (Shape.has (.list .int)))=true:=fun t=>by
    induction t with
    | nil=>rfl
    | cons g r ih =>
      have hg:(Shape.list .int).has (.list (g.map PyData.int))=true:=list_map_has fun _=>rfl
      simp only [List.map_cons,dats,List.all_cons,ih,Bool.and_true]
      exact hg
  unfold tabP
  simp only [dat,Shape.has]
  exact key t
theorem qJZ (s t:List (List Int)):DatOk (tabP s) (tabP t):=by
  have sh:∀ t:List (List Int),SeqAt.shaped (dat (tabP t))=true:=fun t=>by
    obtain ⟨h1,h2⟩:=zJX t
    unfold SeqAt.shaped tabP
    simp only [dat,PyData.canLay0,PyData.depth,h1,Bool.true_and,decide_eq_true_eq]
    omega
  exact ⟨yHK s,yHK t,sh s,sh t,SeqAt.noMix_of_shape (.list (.list .int)) rfl _ _ (qY8 s) (qY8 t)⟩
end L3
namespace L3
open PySem L2 PyProof.Rows
end L3
namespace L2
open PySem PySem.Spec PyProof.Rows
end L2
namespace L3
open PySem PySem.Spec PyProof.Rows L2
section
variable {X:Cx} {G:Gx} {Er:ER} {a b e:Expr} {pos p px apos kp pz:Pos} {C Ca Cb:En -> Prop} {gl:En -> List Int} {gp hp:En -> List PV} {g:En -> PV} {i j k:Nat} {x:Str}
def nonOrI:PV -> Prop
  | .non=>True
  | .int _=>True
  | _=>False
theorem qH8 {k2:Nat} (he:PE X e (tX X.K G C g)):PT X (.Compare e [.IsNot] [.Constant .none k2 p] pos) (tXT X.K G (fun ρ=>C ρ /\ nonOrI (g ρ)) fun ρ=>¬ isNonP (g ρ)=true) :=
  fun pins s σ H Q I ⟨B,ρ,O,R,c,q⟩=>pt_cmpR op_notN he pe_non (nomark _) pins s σ H Q I ⟨B,ρ,O,R,c.1,fun v H1 s1 a1=>⟨rfl,_,rfl,by
    have z:=q H1 s1
    have key:(!decide (v=V.non))=decide (¬ isNonP (g ρ)=true):=by
      have h:=c.2
      revert a1 h
      generalize g ρ=pg
      intro a1 h
      cases pg <;> first | exact h.elim | skip
      . have a1:v=.int _:=a1
        rw [a1]; rfl
      . have a1:v=.non:=a1
        rw [a1]; rfl
    rw [key]
    exact z⟩⟩
theorem zJJ {K:PySem.W.Frag} {H:Hp}:∀ {ps qs:List PV} {vs us:List V},AtL K G H ps vs -> AtL K G H qs us -> AtL K G H (ps ++ qs) (vs ++ us)
  | [],_,_,_,h,k=>by
    have h:_=[]:=h
    rw [h]
    exact k
  | p :: r,_,_,_,h,k=>by
    obtain ⟨u,t,rfl,e,z⟩:=h
    exact ⟨u,_,rfl,e,zJJ z k⟩
theorem qZ0 (ha:PE X a (tX X.K G Ca fun ρ=>.lst (gp ρ))) (hb:PE X b (tX X.K G Cb fun ρ=>.lst (hp ρ))):PE X (.BinOp a .Add b pos) (tXp X.K G (fun ρ=>Ca ρ /\ Cb ρ /\ (gp ρ).length + (hp ρ).length <= sizeLine) fun ρ=>gp ρ ++ hp ρ) :=
  fun pins s σ H Q I ⟨B,ρ,O,R,c,q⟩=>pe_op qQK ha hb pins s σ H Q I (two R c.1 c.2.1 fun v u H1 H2 s1 s2 a1 a2=>by
    obtain ⟨l,vs,rfl,r1,al1⟩:=a1
    obtain ⟨b,us,rfl,r2,al2⟩:=a2
    have l1:=al1.length
    have l2:=al2.length
    refine ⟨l,b,_,_,rfl,rfl,yQZ yZV r1,yQZ yZV r2,by rw [<- l1,<- l2]; exact c.2.2,fun p hp=>q p _ _ ((s1.trans s2).trans (same_new hp _)) ((s1.trans s2).free hp) upd_same ?_⟩
    exact AtL.mono (yVQ (same_new hp _) hp) _ _ (zJJ al1 al2))
theorem jV7 (he:PE X e (tX X.K G C fun ρ=>.lst (gp ρ))) (ht:∀ whole,isTrue e X.env whole=(do let v <- whole; standAt e.pos; holding [v] (truthy v)):=by intro _; rfl):PT X e (tXT X.K G C fun ρ=>¬ gp ρ=[]) :=
  fun pins s σ H Q I ⟨B,ρ,O,R,c,q⟩=>pt_truth he ht pins s σ H Q I ⟨B,ρ,O,R,c,fun v H1 s1 a1=>by
    obtain ⟨l,vs,rfl,hq,al⟩:=a1
    refine ⟨_,.inl ⟨_,.inl (yQZ yZV hq),rfl⟩,?_⟩
    have z:=q H1 s1
    have ll:=al.length
    have e:(!vs.isEmpty)=decide (¬ gp ρ=[]):=by
      cases hg:gp ρ with
      | nil =>
        rw [hg] at ll
        have:vs=[]:=List.length_eq_zero_iff.mp ll.symm
        rw [this]
        simp
      | cons a r =>
        rw [hg] at ll
        cases vs with
        | nil=>cases ll
        | cons b t=>simp
    rw [e]; exact z⟩
theorem zH7 {x y z:Str} {px py pz tp:Pos} {kk:Nat} {g:En -> PV} (he:PE X e (tX X.K G C g)) (hgt:PG X (.Tuple [.Name x px,.Name y py,.Name z pz] kk tp) (gTup X.K 3 (gCons (gName i) (gCons (gName j) (gCons (gName k) gNil)))))
    (hs:swapsWithSole [.Tuple [.Name x px,.Name y py,.Name z pz] kk tp] e pos.line X.env=pure false:=by rfl) (hw:swappedStores [.Tuple [.Name x px,.Name y py,.Name z pz] kk tp] e X.env=pure none:=by rfl)
    (h1:(assignEach [.Tuple [.Name x px,.Name y py,.Name z pz] kk tp] X.env).map (·.2)=[assign (.Tuple [.Name x px,.Name y py,.Name z pz] kk tp) X.env]:=by rfl) :
    PS X (.Assign [.Tuple [.Name x px,.Name y py,.Name z pz] kk tp] e pos) (ts X.K G Er fun P ρ=>C ρ /\ ∃ u v w,g ρ=.tup [u,v,w] /\ P.nx (((ρ.set i (.fr u)).set j (.fr v)).set k (.fr w))) :=
  toS (ps_asg he hgt hs hw h1) fun B σ H ρ O P D R c w=>by
    obtain ⟨c1,u,v,w3,eg,c3⟩:=c
    refine ⟨B,ρ,O,R,c1,fun t H1 s1 a1=>?_⟩
    rw [eg] at a1
    obtain ⟨l,vs,rfl,hl,v1,r1,rfl,b1,v2,r2,rfl,b2,v3,r3,rfl,b3,rfl⟩:=a1
    exact ⟨l,_,rfl,SqT.of (yZV _ _ hl),rfl,_,_,rfl,_,_,rfl,_,_,rfl,rfl,w.nx _ H1 _ ⟨O,(((R.grow s1).set b1).set b2).set b3⟩ c3⟩
end
section
variable {K:PySem.W.Frag} {G:Gx} {σ:L2.St} {H:Hp} {Q:VK} {Cs Cs' Cb Ct:En -> Prop} {pt:En -> Prop} [∀ ρ,Decidable (pt ρ)] {gp:En -> PV} {cap:List (Option Nat)} {gl hl:En -> List PV}
theorem zK8 {O:Addr -> Bool} {H1:Hp} {ps:List PV} {vs:List V} (hal:AtL K G (mn H1 O) ps vs) {i:Nat} (h:i < ps.length):At K G (mn H1 O) (ps.getD i .non) (vs.getD i .non):=by
  have el:=hal.length
  have hi:i < vs.length:=by omega
  obtain ⟨n',en',an⟩:=hal.get (List.getElem?_eq_getElem hi)
  rw [gQ,gQ,en',List.getElem?_eq_getElem hi]
  exact an
theorem jZ6 {α β γ:Type} (f:α -> β -> γ) (a:α) (b:β) (l:List α) (m:List β):(List.range (min l.length m.length)).map (fun i=>f (l.getD i a) (m.getD i b))=(l.zip m).map fun p=>f p.1 p.2:=by
  refine List.ext_getElem? fun i=>?_
  rw [List.getElem?_map,List.getElem?_map]
  by_cases c:i < min l.length m.length
  . have c1:i < l.length:=by omega
    have c2:i < m.length:=by omega
    have ez:(l.zip m)[i]?=some (l[i],m[i]):=by
      rw [List.getElem?_eq_getElem (by rw [List.length_zip]; exact c),List.getElem_zip]
    rw [List.getElem?_range c,ez]
    simp only [Option.map_some,gQ,List.getElem?_eq_getElem c1,List.getElem?_eq_getElem c2,Option.getD_some]
  . rw [List.getElem?_eq_none (by rw [List.length_range]; omega),List.getElem?_eq_none (by rw [List.length_zip]; omega)]
    rfl
theorem jV6 (h:tXp K G (fun ρ=>(Cs ρ /\ Cs' ρ) /\ (gl ρ).length <= 1000 /\ ∀ q r,(q,r) ∈ (gl ρ).zip (hl ρ) -> Cb (((capR (none :: none :: cap) ρ).set 0 (.fr q)).set 1 (.fr r)))
      (fun ρ=>((gl ρ).zip (hl ρ)).map fun p=>gp (((capR (none :: none :: cap) ρ).set 0 (.fr p.1)).set 1 (.fr p.2))) σ H Q) :
    tLC (none :: none :: cap) (iZip K (tCons (tX K G Cs fun ρ=>.lst (gl ρ)) (tCons (tX K G Cs' fun ρ=>.lst (hl ρ)) tNil))) (gTup K 2 (gCons (gName 0) (gCons (gName 1) gNil))) noTest (tX K G Cb gp) σ H Q:=by
  obtain ⟨B,ρ,O,R,⟨⟨c1,c1'⟩,c2,c3⟩,q⟩:=h
  refine ⟨B,ρ,O,R,c1,fun v H1 s1 a1=>⟨B,ρ,O,R.grow s1,c1',fun u H2 s2 a2=>?_⟩⟩
  obtain ⟨a,vs,rfl,hq,hal⟩:=a1
  obtain ⟨b,us,rfl,hq',hal'⟩:=a2
  have hal:=AtL.mono (yY9 (O:=O) s2) _ _ hal
  have hq1:SqL K H2 a vs:=.inl (yQZ s2 (yQZ yZV hq))
  have hq2:SqL K H2 b us:=.inl (yQZ yZV hq')
  have el:=hal.length
  have el':=hal'.length
  refine ⟨a,b,rfl,⟨_,hq1⟩,⟨_,hq2⟩,fun D hD=>?_⟩
  have hz:(List.range (min (gl ρ).length (hl ρ).length)).length=min (gl ρ).length (hl ρ).length:=List.length_range
  have at1:∀ i,i < (List.range (min (gl ρ).length (hl ρ).length)).length -> i < vs.length /\ i < us.length:=fun i h=>by rw [hz] at h; omega
  refine yWH (List.range (min (gl ρ).length (hl ρ).length)) (fun i _=>((capS (none :: none :: cap) σ).set 0 (some (vs.getD i .non))).set 1 (some (us.getD i .non))) (fun i=>((capR (none :: none :: cap) ρ).set 0 (.fr ((gl ρ).getD i .non))).set 1 (.fr ((hl ρ).getD i .non))) (fun _=>.non) ((R.grow s1).grow s2) hD (by rw [hz]; omega)
    (fun i H hi s=>⟨_,_,vs[i]'(at1 i hi).1,us[i]'(at1 i hi).2,s.seq hq1,s.seq hq2,by rw [List.getElem?_eq_getElem],by rw [List.getElem?_eq_getElem]⟩) ?_ (fun H s=>⟨_,_,s.seq hq1,s.seq hq2,by rw [hz]; omega⟩) (fun i H hi s R'=>?_) ?_ ?_ ?_
  . rintro i k x H H' en s ⟨T,y,y',rfl,hT,rfl,hx,hx'⟩
    have hx:=hx _ (s.seq hq1)
    have hx':=hx' _ (s.seq hq2)
    have hlt:i < min (gl ρ).length (hl ρ).length:=by
      have:=(List.getElem?_eq_some_iff.mp en).1
      rw [hz] at this
      exact this
    rw [List.getElem?_range hlt] at en
    cases en
    refine ⟨same_new hT _,fun kk hk=>⟨T,_,rfl,SqT.of upd_same,rfl,_,_,rfl,_,_,rfl,rfl,?_⟩⟩
    rw [gQ,gQ,hx,hx'] at hk
    exact hk
  . have hi:=List.mem_range.mp hi
    exact (R'.set (At.mono (yVQ (O:=O) s hD) _ _ (zK8 hal (by omega)))).set (At.mono (yVQ (O:=O) s hD) _ _ (zK8 hal' (by omega)))
  . intro i
    show ExtS (none :: none :: capS cap σ) (some _ :: some _ :: capS cap σ)
    exact yX1 _
  . intro i hi
    have hi:=List.mem_range.mp hi
    refine c3 _ _ ?_
    rw [gQ,gQ,List.getElem?_eq_getElem (show i < (gl ρ).length by omega),List.getElem?_eq_getElem (show i < (hl ρ).length by omega)]
    refine List.mem_iff_getElem.mpr ⟨i,by rw [List.length_zip]; exact hi,?_⟩
    rw [List.getElem_zip]
    rfl
  . intro H' ys s hd al
    refine q D ys H' ((s1.trans s2).trans s) ((s1.trans s2).free hD) hd ?_
    have al:AtL K G (mn H' (hide D O)) ((List.range (min (gl ρ).length (hl ρ).length)).map fun i=>gp (((capR (none :: none :: cap) ρ).set 0 (.fr ((gl ρ).getD i .non))).set 1 (.fr ((hl ρ).getD i .non)))) ys:=al
    rw [jZ6 (fun p r=>gp (((capR (none :: none :: cap) ρ).set 0 (.fr p)).set 1 (.fr r)))] at al
    exact al
theorem jQ0 {α γ:Type} (f:Nat -> α -> γ) (a:α) (l:List α):(List.range l.length).map (fun i=>f i (l.getD i a))=l.mapIdx f:=by
  refine List.ext_getElem? fun i=>?_
  rw [List.getElem?_map,List.getElem?_mapIdx]
  by_cases c:i < l.length
  . rw [List.getElem?_range c]
    simp only [Option.map_some,gQ,List.getElem?_eq_getElem c,Option.getD_some]
  . rw [List.getElem?_eq_none (by rw [List.length_range]; omega),List.getElem?_eq_none (by omega)]
    rfl
theorem jVX (h:tXp K G (fun ρ=>Cs ρ /\ (gl ρ).length <= 1000 /\ ∀ (i:Nat) (q:PV),(gl ρ)[i]?=some q -> Cb (((capR (none :: none :: cap) ρ).set 0 (.fr (.int i))).set 1 (.fr q)))
      (fun ρ=>(gl ρ).mapIdx fun i p=>gp (((capR (none :: none :: cap) ρ).set 0 (.fr (.int i))).set 1 (.fr p))) σ H Q) :
    tLC (none :: none :: cap) (iEnum K (tCons (tX K G Cs fun ρ=>.lst (gl ρ)) tNil)) (gTup K 2 (gCons (gName 0) (gCons (gName 1) gNil))) noTest (tX K G Cb gp) σ H Q:=by
  obtain ⟨B,ρ,O,R,⟨c1,c2,c3⟩,q⟩:=h
  refine ⟨B,ρ,O,R,c1,fun v H1 s1 a1=>?_⟩
  obtain ⟨a,vs,rfl,hq,hal⟩:=a1
  have hq1:SqL K H1 a vs:=.inl (yQZ yZV hq)
  have el:=hal.length
  refine ⟨a,rfl,⟨_,hq1⟩,fun D hD=>?_⟩
  have hz:(List.range (gl ρ).length).length=(gl ρ).length:=List.length_range
  refine yWH (List.range (gl ρ).length) (fun (i:Nat) _=>((capS (none :: none :: cap) σ).set 0 (some (.int i))).set 1 (some (vs.getD i .non))) (fun (i:Nat)=>((capR (none :: none :: cap) ρ).set 0 (.fr (.int i))).set 1 (.fr ((gl ρ).getD i .non))) (fun _=>.non) (R.grow s1) hD (by rw [hz]; exact c2)
    (fun i H hi s=>⟨_,vs[i]'(by rw [hz] at hi; omega),s.seq hq1,by rw [List.getElem?_eq_getElem]⟩) ?_ (fun H s=>⟨_,s.seq hq1,by rw [hz,el]; exact Nat.le_refl _⟩) (fun i H hi s R'=>?_) ?_ ?_ ?_
  . rintro i k x H H' en s ⟨T,y,rfl,hT,rfl,hx⟩
    have hx:=hx _ (s.seq hq1)
    have hlt:i < (gl ρ).length:=by
      have:=(List.getElem?_eq_some_iff.mp en).1
      rw [hz] at this
      exact this
    rw [List.getElem?_range hlt] at en
    cases en
    refine ⟨same_new hT _,fun kk hk=>⟨T,_,rfl,SqT.of upd_same,rfl,_,_,rfl,_,_,rfl,rfl,?_⟩⟩
    rw [gQ,hx] at hk
    exact hk
  . have hi:=List.mem_range.mp hi
    exact (R'.set (p:=.int i) rfl).set (At.mono (yVQ (O:=O) s hD) _ _ (zK8 hal hi))
  . intro i
    show ExtS (none :: none :: capS cap σ) (some _ :: some _ :: capS cap σ)
    exact yX1 _
  . intro i hi
    have hi:=List.mem_range.mp hi
    refine c3 i _ ?_
    rw [gQ,List.getElem?_eq_getElem hi]
    rfl
  . intro H' ys s hd al
    refine q D ys H' (s1.trans s) (s1.free hD) hd ?_
    have al:AtL K G (mn H' (hide D O)) ((List.range (gl ρ).length).map fun (i:Nat)=>gp (((capR (none :: none :: cap) ρ).set 0 (.fr (.int i))).set 1 (.fr ((gl ρ).getD i .non)))) ys:=al
    rw [jQ0 (fun (i:Nat) p=>gp (((capR (none :: none :: cap) ρ).set 0 (.fr (.int i))).set 1 (.fr p)))] at al
    exact al
end
section
variable {X:Cx} {G:Gx} {Er:ER} {N':List Str} {sc:Scope} {cl:List (Str × Addr)} {cap:List (Option Nat)} {el tg src tst l l2:Expr} {at' spos px p pos':Pos} {Cs Cs' Ct Cb:En -> Prop} {pt:En -> Prop} [∀ ρ,Decidable (pt ρ)] {gp:En -> PV} {gl hl:En -> List PV} {i:Nat} {x:Str}
theorem zXK (hN:X.N.Nodup) (hi':X.N[i]?=some x) (hx:X.env.scope.names.lookup x=some .local) (L:LcOk X N' sc cl (none :: cap)) (hc:X.calm=true) (hi:PE X src (tX X.K G Cs fun ρ=>.lst (gl ρ))) (hg:∀ s H fp,PG (cxComp X N' sc cl s H fp) tg (gName 0)) (he:∀ s H fp,PE (cxComp X N' sc cl s H fp) el (tX X.K G Cb gp))
    (hsw:swapsWith (.ListComp el [⟨tg,src,[],0⟩] sc at') (some (.Name x px)) spos.line X.env=pure true) (hs:∀ x,foldedSetIterable src X.env x=pure x:=by intro _; rfl) :
    PS X (.Assign [.Name x px] (.ListComp el [⟨tg,src,[],0⟩] sc at') spos) (ts X.K G Er fun P ρ=>(Cs ρ /\ (gl ρ).length <= 1000 /\ ∀ q ∈ gl ρ,Cb ((capR (none :: cap) ρ).set 0 (.fr q))) /\ ∀ ns,ns=((gl ρ).map fun q=>gp ((capR (none :: cap) ρ).set 0 (.fr q))) -> P.nx (ρ.set i (.fr (.lst ns)))) :=
  qU5 (qZK hN hi' hx L hc (pi_list hi) hg (fun _ _ _=>yX0) he hsw hs) fun σ H Q h=>lc_V h
theorem qQ3 {kk:Nat} {tp:Pos} {els:List Expr} (hN:X.N.Nodup) (hi':X.N[i]?=some x) (hx:X.env.scope.names.lookup x=some .local) (L:LcOk X N' sc cl (none :: none :: cap)) (hc:X.calm=true) (hgl:Gl X "zip") (hm:X.mg "zip"=none) (h1:PE X l (tX X.K G Cs fun ρ=>.lst (gl ρ))) (h2:PE X l2 (tX X.K G Cs' fun ρ=>.lst (hl ρ))) (hg:∀ s H fp,PG (cxComp X N' sc cl s H fp) (.Tuple els kk tp) (gTup X.K 2 (gCons (gName 0) (gCons (gName 1) gNil)))) (he:∀ s H fp,PE (cxComp X N' sc cl s H fp) el (tX X.K G Cb gp))
    (hsw:swapsWith (.ListComp el [⟨.Tuple els kk tp,.Call (.Name "zip" p) [l,l2] [] pos',[],0⟩] sc at') (some (.Name x px)) spos.line X.env=pure true) (hst:starEach [l,l2] X.env=(false,eval l X.env) :: starEach [l2] X.env:=by rfl) (hst2:starEach [l2] X.env=[(false,eval l2 X.env)]:=by rfl) (hpl:(backTo pos' (starEach [l2] X.env)).any (·.1)=false:=by rfl) (hfs:∀ x,foldedSetIterable (.Call (.Name "zip" p) [l,l2] [] pos') X.env x=pure x:=by intro _; rfl) :
    PS X (.Assign [.Name x px] (.ListComp el [⟨.Tuple els kk tp,.Call (.Name "zip" p) [l,l2] [] pos',[],0⟩] sc at') spos) (ts X.K G Er fun P ρ=>((Cs ρ /\ Cs' ρ) /\ (gl ρ).length <= 1000 /\ ∀ q r,(q,r) ∈ (gl ρ).zip (hl ρ) -> Cb (((capR (none :: none :: cap) ρ).set 0 (.fr q)).set 1 (.fr r))) /\ ∀ ns,ns=(((gl ρ).zip (hl ρ)).map fun p=>gp (((capR (none :: none :: cap) ρ).set 0 (.fr p.1)).set 1 (.fr p.2))) -> P.nx (ρ.set i (.fr (.lst ns)))) :=
  qU5 (qZK hN hi' hx L hc (qJ3 hgl hm (pa_cons h1 (pa_cons h2 pa_nil hst2) hst) hst hpl) hg (fun _ _ _=>yX0) he hsw hfs) fun σ H Q h=>jV6 h
theorem qY7 {kk:Nat} {tp:Pos} {els:List Expr} (L:LcOk X N' sc cl (none :: none :: cap)) (hc:X.calm=true) (hgl:Gl X "enumerate") (hm:X.mg "enumerate"=none) (hi:PE X src (tX X.K G Cs fun ρ=>.lst (gl ρ))) (hg:∀ s H fp,PG (cxComp X N' sc cl s H fp) (.Tuple els kk tp) (gTup X.K 2 (gCons (gName 0) (gCons (gName 1) gNil)))) (he:∀ s H fp,PE (cxComp X N' sc cl s H fp) el (tX X.K G Cb gp))
    (hst:starEach [src] X.env=[(false,eval src X.env)]:=by rfl) (hfs:∀ x,foldedSetIterable (.Call (.Name "enumerate" p) [src] [] pos') X.env x=pure x:=by intro _; rfl) :
    PE X (.ListComp el [⟨.Tuple els kk tp,.Call (.Name "enumerate" p) [src] [] pos',[],0⟩] sc at') (tXp X.K G (fun ρ=>Cs ρ /\ (gl ρ).length <= 1000 /\ ∀ (i:Nat) (q:PV),(gl ρ)[i]?=some q -> Cb (((capR (none :: none :: cap) ρ).set 0 (.fr (.int i))).set 1 (.fr q)))
      fun ρ=>(gl ρ).mapIdx fun i p=>gp (((capR (none :: none :: cap) ρ).set 0 (.fr (.int i))).set 1 (.fr p))) :=
  fun pins s σ H Q I h=>zV3 L hc (zWU hgl hm (pa_cons hi pa_nil hst) hst) hg (fun _ _ _=>yX0) he hfs pins s σ H Q I (jVX h)
end
end L3
namespace L2
open PySem PySem.Spec PyProof.Rows
end L2
namespace L3
open PySem PySem.Spec PyProof.Rows L2
end L3
namespace L2
open PySem PySem.Spec PyProof.Rows
end L2
namespace L3
open PySem PySem.Spec PyProof.Rows L2
section
variable {X:Cx} {G:Gx} {Er:ER} {a b e:Expr} {pos p px py apos pc pa:Pos} {C Ca Cb:En -> Prop} {gb:En -> Int} {g:En -> PV} {i j:Nat} {x y:Str}
theorem jZ3 {t:TE} {st:Stmt} {C:En -> Prop} {g:En -> List PV} (h:PS X st (tAsg t (gName i))) (k:∀ σ H Q,tXp X.K G C g σ H Q -> t σ H Q):PS X st (ts X.K G Er fun P ρ=>C ρ /\ ∀ ns,ns=g ρ -> P.nx (ρ.set i (.ow (.lst ns)))) :=
  toS h fun B σ H ρ O P D R c w=>k σ H _ ⟨B,ρ,O,R,c.1,fun a vs H1 s1 n1 e1 al=>w.nx _ H1 _ ⟨hide a O,R.new (p:=.lst (g ρ)) s1 n1 e1 al⟩ (c.2 _ rfl)⟩
end
end L3
namespace L2
open PySem PySem.Spec PyProof.Rows
end L2
namespace L3
open PySem PySem.Spec PyProof.Rows L2
def KWR (cW cR:Addr) (H:Hp) (a:Addr) (z:Int):Prop:=KW cW H a z \/ KR cR H a z
section
variable {X:Cx} {G:Gx} {Er:ER} {f:FS} {C C2:En -> Prop} {pos p pos':Pos}
theorem qZ1 {k j:Nat} {x y:Str} {l l2:Expr} {body:List Stmt} {g h:En -> List PV} {px py p pos' tp:Pos} {kk:Nat} (hp:PassesOwn (model X.prog X.w) X.A X.env X.xe) (hc:X.calm=true) (hg:Gl X "zip") (hm:X.mg "zip"=none) (hl:PE X l (tX X.K G C fun ρ=>.lst (g ρ))) (hl2:PE X l2 (tX X.K G C2 fun ρ=>.lst (h ρ)))
    (hgt:PG X (.Tuple [.Name x px,.Name y py] kk tp) (gTup X.K 2 (gCons (gName k) (gCons (gName j) gNil)))) (hb:PSs X body (ts X.K G Er f))
    (hst:starEach [l,l2] X.env=(false,eval l X.env) :: starEach [l2] X.env:=by rfl) (hst2:starEach [l2] X.env=[(false,eval l2 X.env)]:=by rfl) (hpl:(backTo pos' (starEach [l2] X.env)).any (·.1)=false:=by rfl) (hfs:∀ x,foldedSetIterable (.Call (.Name "zip" p) [l,l2] [] pos') X.env x=pure x:=by intro _; rfl) :
    PS X (.For (.Tuple [.Name x px,.Name y py] kk tp) (.Call (.Name "zip" p) [l,l2] [] pos') body [] pos) (ts X.K G Er fun P ρ=>(C ρ /\ C2 ρ) /\ ∃ W:Nat -> En -> Prop,W 0 ρ /\
      (∀ i n m ρ',(g ρ)[i]?=some n -> (h ρ)[i]?=some m -> W i ρ' -> f { P with nx:=W (i + 1),ct:=W (i + 1),bk:=P.nx } ((ρ'.set k (.fr n)).set j (.fr m))) /\ ∀ ρ',W (min (g ρ).length (h ρ).length) ρ' -> P.nx ρ') :=
  toS (ps_for hp hc (qJ3 hg hm (pa_cons hl (pa_cons hl2 pa_nil hst2) hst) hst hpl) hgt hb hfs) fun B σ H ρ O P D R c w=>by
    obtain ⟨⟨c1,c2⟩,W,w0,st,nd⟩:=c
    refine ⟨B,ρ,O,R,c1,fun v H1 s1 a1=>⟨B,ρ,O,R.grow s1,c2,fun u H2 s2 a2=>?_⟩⟩
    obtain ⟨a,vs,rfl,hq,hal⟩:=a1
    obtain ⟨b,us,rfl,hq2,hau⟩:=a2
    have R1:=(R.grow s1).grow s2
    have w1:=zU7 R1 w
    have el:=hal.length
    have eu:=hau.length
    have hqa:Rd (mn H2 O) a (.lst vs):=yQZ (yY9 s2) hq
    have hal2:=AtL.mono (yY9 s2) _ _ hal
    refine ⟨a,b,rfl,⟨_,.inl (yQZ yZV hqa)⟩,⟨_,.inl (yQZ yZV hq2)⟩,jJQ (xs:=vs) (ys:=us) (fun i σ H=>∃ ρ',RepE X.K G (B.at H2 O) σ H ρ' /\ W i ρ') ⟨ρ,⟨O,R1.rebase⟩,w0⟩ ?_ ?_ ?_⟩
    . rintro i σ H ⟨ρ',⟨O',R'⟩,_⟩
      exact ⟨.inl (yQZ ((Rep.base_mn B H2 O).trans R'.same) hqa),.inl (yQZ ((Rep.base_mn B H2 O).trans R'.same) hq2)⟩
    . rintro i x y σ H T hx hy ⟨ρ',⟨O',R'⟩,hw⟩ hT
      obtain ⟨n,en,an⟩:=hal2.get hx
      obtain ⟨m,em,am⟩:=hau.get hy
      have R2:=R'.grow (same_new hT (.tup [x,y]))
      refine ⟨T,_,rfl,SqT.of upd_same,rfl,_,_,rfl,_,_,rfl,rfl,?_⟩
      exact ⟨_,_,_,⟨O',(R2.set (At.mono (R1.seen R2) _ _ an)).set (At.mono (R1.seen R2) _ _ am)⟩,st i n m ρ' en em hw,⟨fun σ' H' ρ' R' h=>⟨ρ',R',h⟩,w1.rt,w1.rl,w1.rn,w1.nx,fun σ' H' ρ' R' h=>⟨ρ',R',h⟩,w1.er⟩⟩
    . rintro σ H ⟨ρ',R',hw⟩
      rw [<- el,<- eu] at hw
      exact w1.nx σ H ρ' R' (nd ρ' hw)
end
end L3
namespace L2
open PySem PySem.Spec PyProof.Rows
end L2
namespace L3
open PySem PySem.Spec PyProof.Rows L2
end L3
namespace L2
open PySem PySem.Spec PyProof.Rows
section
variable {X:Cx}
theorem qHY:OpR X (compareOp .IsNot) (fun x y H Q=>∃ b,x=.bl b /\ y=.bl false /\ Q (.bl b) H):=by
  intro pins s σ H x y v u Q I rx ry h
  obtain ⟨b,rfl,rfl,q⟩:=h
  have rx:v=.bool b:=rx
  have ry:u=.bool false:=ry
  subst rx ry
  refine wpAny_isNot_plain rfl ⟨.bl b,H,I,?_,q⟩
  show Value.bool _=Value.bool b
  cases b <;> rfl
theorem qX3 (l:List Int):(l.map V.int).all flatV=true:=by
  rw [List.all_map]
  exact List.all_eq_true.mpr fun _ _=>rfl
theorem qK1 (n:Int) (l:List Int):inV (.int n) (l.map V.int)=decide (n ∈ l):=by
  unfold inV
  rw [List.any_map]
  have:∀ y:Int,eqV (.int y) (.int n)=(y == n):=fun y=>rfl
  rw [Bool.eq_iff_iff,List.any_eq_true,decide_eq_true_iff]
  refine ⟨fun ⟨y,hy,e⟩=>?_,fun h=>⟨n,h,?_⟩⟩
  . have e:(y == n)=true:=e
    rw [<- eq_of_beq e]
    exact hy
  . show (n == n)=true
    exact beq_self_eq_true n
def isInt' (k:Int):Value -> Bool
  | .int n _=>n == k
  | _=>false
theorem zH4:∀ {l:List Int} {us:List Value},Vals (l.map V.int) us -> us.length=l.length /\ ∀ (i:Nat) (h:i < us.length) (h2:i < l.length),∃ t,us[i]=Value.int l[i] t
  | [],_,.nil=>⟨rfl,fun i h=>absurd h (Nat.not_lt_zero _)⟩
  | n :: l,_,.cons r t=>by
    obtain ⟨e,k⟩:=zH4 t
    obtain ⟨t',rfl⟩:=r
    refine ⟨by rw [List.length_cons,List.length_cons,e],fun i h h2=>?_⟩
    cases i with
    | zero=>exact ⟨t',rfl⟩
    | succ i=>exact k i (by simpa using h) (by simpa using h2)
def rIndexI:V -> List V -> Hp -> VK -> Prop:=fun x vs H Q=>∃ (l:Addr) (ns:List Int) (k:Int),x=.ref l /\ vs=[.int k] /\ Rd H l (.lst (ns.map V.int)) /\ k ∈ ns /\ ns.length <= 1000 /\ Q (.int (ns.idxOf k:Nat)) H
theorem qX7:MtM X "list.index" rIndexI:=by
  intro pins s σ H x vs v us Q I rx rv h
  obtain ⟨l,ns,k,rfl,rfl,hH,hm,hz,q⟩:=h
  cases rx
  obtain ⟨u,rfl,ru⟩:=rv.one
  obtain ⟨tk,rfl⟩:=ru
  obtain ⟨z,its,n,r,hl,e⟩:=L3.Inv.lstR I hH
  obtain ⟨el,ev⟩:=zH4 r
  have hj:ns.idxOf k < ns.length:=List.idxOf_lt_length_iff.mpr hm
  have hsz:its.toArray.size=its.length:=List.size_toArray
  refine call_meets PySem.F.slot_list_index ⟨_,e,rfl⟩ PySem.F.entry_list_index (PySem.F.args_list_index_2 _ _) (PySem.SeqAt.list_indexAt l _ n _ _ (.int k tk) (isInt' k) (ns.idxOf k) (by omega) (by omega) ?_ ?_) ⟨e,fun y hy=>?_,?_⟩
  . obtain ⟨t,et⟩:=ev (ns.idxOf k) (by omega) hj
    rw [List.getElem_toArray,et]
    show (ns[ns.idxOf k] == k)=true
    rw [List.getElem_idxOf hj]
    exact beq_self_eq_true k
  . intro m hm1 hm2
    obtain ⟨t,et⟩:=ev m (by omega) (by omega)
    rw [List.getElem_toArray,et]
    exact List.not_of_lt_findIdx (p:=fun x=>x == k) (xs:=ns) hm2
  . have hy:y ∈ its:=by simpa using hy
    obtain ⟨i,hi,rfl⟩:=List.mem_iff_getElem.mp hy
    obtain ⟨t,et⟩:=ev i hi (by omega)
    rw [et]
    exact SeqAt.EqAt.int_int _ t k tk
  . exact ⟨.int (ns.idxOf k:Nat),H,I.tok _,⟨s.toks,rfl⟩,q⟩
end
end L2
namespace L3
open PySem PySem.Spec PyProof.Rows L2
section
variable {X:Cx} {G:Gx} {Er:ER} {E:XK} {a b e e1 e2 e3:Expr} {C Ca Cb C1 C2 C3:En -> Prop} {ga:En -> Int} {gl:En -> List Int} {g g1 g2:En -> PV} {FE:En -> Rs} {apos cpos p pos:Pos} {k2:Nat}
theorem jJ2 (ha:PE X a (tXI X.K G Ca ga)) (hb:PE X b (tXL X.K G Cb gl)) (hm:behindInMarks .NotIn b=false:=by rfl):PT X (.Compare a [.NotIn] [b] pos) (tXT X.K G (fun ρ=>Ca ρ /\ Cb ρ) fun ρ=>ga ρ ∉ gl ρ) :=
  fun pins s σ H Q I ⟨_,_,_,R,c,q⟩=>pt_cmpR op_notIn_seq ha hb hm pins s σ H Q I (two R c.1 c.2 fun v u H1 H2 s1 s2 a1 a2=>by
    have a1:v=.int _:=a1
    subst a1
    obtain ⟨l,rfl,hq⟩:=a2
    refine ⟨l,_,rfl,.inl (jX2 (yQZ yZV hq)),rfl,qX3 _,_,rfl,?_⟩
    have z:=q H2 (s1.trans s2)
    rw [if_pos rfl,qK1,<- decide_not]
    exact z)
theorem qXY (he:PE X e (tXL X.K G C gl)) (ha:PE X a (tXI X.K G Ca ga)) (hbase:attributeBase e "index" X.env (eval e X.env)=eval e X.env:=by rfl)
    (hfew:((backTo cpos (starEach [a] X.env)).all (fun x=>!x.1) && (backToKw cpos (keywordEach [] X.env)).all (fun x=>x.1.isSome)
      && decide ([a].length + ([]:List Keyword).length + (if ([]:List Keyword).isEmpty then 0 else 1) < 30))=true:=by rfl)
    (hline:(apos.endLine == cpos.line)=true:=by rfl) (hs:starEach [a] X.env=(false,eval a X.env) :: starEach [] X.env:=by rfl) (hplain:(backTo cpos (starEach [] X.env)).any (·.1)=false:=by rfl) :
    PE X (.Call (.Attribute e "index" apos) [a] [] cpos) (tXI X.K G (fun ρ=>C ρ /\ Ca ρ /\ ga ρ ∈ gl ρ /\ (gl ρ).length <= 1000) fun ρ=>((gl ρ).idxOf (ga ρ):Nat)) :=
  toX (pe_bm PySem.F.plainAttrs_list PySem.F.slot_list_index PySem.F.type_list_index qX7 he (pa_cons ha pa_nil hs) hbase hfew hline hs hplain) fun B σ H ρ O Q R c q=>⟨B,ρ,O,R,c.1,fun v H1 s1 a1=>by
    obtain ⟨l,rfl,hq⟩:=a1
    have hq1:=yQZ yZV hq
    refine ⟨.inl ⟨rfl,_,jX2 hq1⟩,B,ρ,O,R.grow s1,c.2.1,fun u H2 s2 a2=>?_⟩
    have a2:u=.int _:=a2
    subst a2
    exact ⟨l,_,_,rfl,rfl,yQZ s2 hq1,c.2.2.1,c.2.2.2,q _ H2 (s1.trans s2) rfl⟩⟩
theorem qH1 {pb:En -> Prop} [∀ ρ,Decidable (pb ρ)] (he:PE X e (tXB X.K G C pb)):PT X (.Compare e [.IsNot] [.Constant (.bool false) k2 p] pos) (tXT X.K G C pb) :=
  fun pins s σ H Q I ⟨B,ρ,O,R,c,q⟩=>pt_cmpR qHY he pe_bl (nomark _) pins s σ H Q I ⟨B,ρ,O,R,c,fun v H1 s1 a1=>⟨_,a1,rfl,_,rfl,q H1 s1⟩⟩
theorem qQJ {x1} (h1:PE X e1 (tX X.K G C1 g1)) (h2:PE X e2 (tX X.K G C2 g2)) (h3:PR X G e3 C3 FE) (hx:Passes (CXe X.prog X.w) X E) (hs1:starEach [e1,e2,e3] X.env=(false,eval e1 X.env) :: starEach [e2,e3] X.env:=by rfl) (hs2:starEach [e2,e3] X.env=(false,eval e2 X.env) :: starEach [e3] X.env:=by rfl) (hs3:starEach [e3] X.env=(false,eval e3 X.env) :: starEach [] X.env:=by rfl) :
    PS X (.Return (some (.Tuple [e1,e2,e3] x1 pos)) p) (ts X.K G (erE E) fun P ρ=>C1 ρ /\ C2 ρ /\ C3 ρ /\ ∃ c,FE ρ=.err c /\ P.er c) :=
  toS (ps_ret (pe_tup (pa_cons h1 (pa_cons h2 (pa_cons (h3 E hx) pa_nil hs3) hs2) hs1))) fun B σ H ρ O P D R c w=>⟨B,ρ,O,R,c.1,fun v H1 s1 a1=>⟨B,ρ,O,R.grow s1,c.2.1,fun u H2 s2 a2=>⟨B,ρ,O,(R.grow s1).grow s2,c.2.2.1,(fun q hq=>by
    obtain ⟨cc,ec,_⟩:=c.2.2.2
    rw [ec] at hq
    cases hq),fun cc hcc H3 s3=>by
    obtain ⟨cd,ec,k⟩:=c.2.2.2
    rw [ec] at hcc
    cases hcc
    exact w.er H3 cc (R.same.trans ((s1.trans s2).trans s3)) k⟩⟩⟩
end
end L3
namespace K45
open PySem L2 L3 PyProof.Rows FM
abbrev yJ9:Stmt:=top 13
theorem zJ5:FnScope ["numbers"] ["numbers"] (defScope yJ9):=⟨rfl,rfl,rfl,by decide +kernel,rfl,by decide +kernel,by decide +kernel⟩
abbrev yVX:Stmt:=top 14
theorem zY4:FnScope ["kind","f","numbers"] ["kind","f"] (defScope yVX):=⟨rfl,rfl,rfl,by decide +kernel,rfl,by decide +kernel,by decide +kernel⟩
abbrev zY3:Stmt:=top 15
theorem zY8:FnScope ["kind","f","g","sums","at","number"] ["kind","f","g"] (defScope zY3):=⟨rfl,rfl,rfl,by decide +kernel,rfl,by decide +kernel,by decide +kernel⟩
abbrev zJH:Stmt:=top 16
theorem jJ7:FnScope ["kind","f","g"] ["kind","f","g"] (defScope zJH):=⟨rfl,rfl,rfl,by decide +kernel,rfl,by decide +kernel,by decide +kernel⟩
abbrev yHX:Stmt:=top 17
theorem yV3:FnScope ["kind","f","g","ones","others","sums","at","one","behind","other"] ["kind","f","g"] (defScope yHX):=⟨rfl,rfl,rfl,by decide +kernel,rfl,by decide +kernel,by decide +kernel⟩
abbrev yK5:Stmt:=top 18
theorem qYH:FnScope ["kind","f","number"] ["kind","f","number"] (defScope yK5):=⟨rfl,rfl,rfl,by decide +kernel,rfl,by decide +kernel,by decide +kernel⟩
abbrev zQ0:Stmt:=top 19
theorem qWJ:FnScope ["kind","f"] ["kind","f"] (defScope zQ0):=⟨rfl,rfl,rfl,by decide +kernel,rfl,by decide +kernel,by decide +kernel⟩
abbrev yVY:Stmt:=top 20
theorem yY6:FnScope ["kind","f","g","rest","divisor","quotient","gap","often","at","number"] ["kind","f","g"] (defScope yVY):=⟨rfl,rfl,rfl,by decide +kernel,rfl,by decide +kernel,by decide +kernel⟩
abbrev yJJ:Stmt:=top 22
theorem zJ4:FnScope ["kind","f"] ["kind","f"] (defScope yJJ):=⟨rfl,rfl,rfl,by decide +kernel,rfl,by decide +kernel,by decide +kernel⟩
abbrev yK8:Stmt:=top 23
theorem yX2:FnScope ["kind","f","g","before","row","often","behind","factor"] ["kind","f","g"] (defScope yK8):=⟨rfl,rfl,rfl,by decide +kernel,rfl,by decide +kernel,by decide +kernel⟩
abbrev yXV:Stmt:=top 24
theorem zWV:FnScope ["kind","row","often","other"] ["kind","row","often","other"] (defScope yXV):=⟨rfl,rfl,rfl,by decide +kernel,rfl,by decide +kernel,by decide +kernel⟩
abbrev yXJ:Stmt:=top 26
theorem zK7:FnScope ["kind","one","other","g"] ["kind","one","other","g"] (defScope yXJ):=⟨rfl,rfl,rfl,by decide +kernel,rfl,by decide +kernel,by decide +kernel⟩
abbrev yK7:Stmt:=top 27
theorem yXK:FnScope ["kind","f","many","g","product","square","left"] ["kind","f","many","g"] (defScope yK7):=⟨rfl,rfl,rfl,by decide +kernel,rfl,by decide +kernel,by decide +kernel⟩
abbrev yY0:Stmt:=top 28
theorem yJ3:FnScope ["kind","f","count","g","degree","rest","rows","step"] ["kind","f","count","g"] (defScope yY0):=⟨rfl,rfl,rfl,by decide +kernel,rfl,by decide +kernel,by decide +kernel⟩
abbrev yXX:Stmt:=top 29
theorem zZ5:FnScope ["kind","g","degree"] ["kind","g"] (defScope yXX):=⟨rfl,rfl,rfl,by decide +kernel,rfl,by decide +kernel,by decide +kernel⟩
abbrev yVK:Stmt:=top 31
theorem zJQ:FnScope ["kind","ones","others","columns"] ["kind","ones","others"] (defScope yVK):=⟨rfl,rfl,rfl,by decide +kernel,rfl,by decide +kernel,by decide +kernel⟩
abbrev yK6:Stmt:=top 32
theorem qZ9:FnScope ["rows","at"] ["rows","at"] (defScope yK6):=⟨rfl,rfl,rfl,by decide +kernel,rfl,by decide +kernel,by decide +kernel⟩
abbrev yJQ:Stmt:=top 33
theorem zJ8:FnScope ["kind","row","columns"] ["kind","row","columns"] (defScope yJQ):=⟨rfl,rfl,rfl,by decide +kernel,rfl,by decide +kernel,by decide +kernel⟩
abbrev yZ7:Stmt:=top 34
theorem yH2:FnScope ["ones","others"] ["ones","others"] (defScope yZ7):=⟨rfl,rfl,rfl,by decide +kernel,rfl,by decide +kernel,by decide +kernel⟩
abbrev yY4:Stmt:=top 35
theorem zYV:FnScope ["length"] ["length"] (defScope yY4):=⟨rfl,rfl,rfl,by decide +kernel,rfl,by decide +kernel,by decide +kernel⟩
abbrev yXY:Stmt:=top 36
theorem zZ3:FnScope ["at","length","row"] ["at","length"] (defScope yXY):=⟨rfl,rfl,rfl,by decide +kernel,rfl,by decide +kernel,by decide +kernel⟩
abbrev yVU:Stmt:=top 37
theorem yW2:FnScope ["kind","rows","width","wide","turn","back"] ["kind","rows"] (defScope yVU):=⟨rfl,rfl,rfl,by decide +kernel,rfl,by decide +kernel,by decide +kernel⟩
abbrev yQV:Stmt:=top 38
theorem yQ8:FnScope ["kind","rows","width","units","table","done","at","found"] ["kind","rows","width"] (defScope yQV):=⟨rfl,rfl,rfl,by decide +kernel,rfl,by decide +kernel,by decide +kernel⟩
abbrev yYK:Stmt:=top 39
theorem zVU:FnScope ["kind","row"] ["kind","row"] (defScope yYK):=⟨rfl,rfl,rfl,by decide +kernel,rfl,by decide +kernel,by decide +kernel⟩
abbrev yQH:Stmt:=top 40
theorem yXW:FnScope ["rows","at","done","place"] ["rows","at","done"] (defScope yQH):=⟨rfl,rfl,rfl,by decide +kernel,rfl,by decide +kernel,by decide +kernel⟩
abbrev yZ8:Stmt:=top 41
theorem yH5:FnScope ["rows","found","done"] ["rows","found","done"] (defScope yZ8):=⟨rfl,rfl,rfl,by decide +kernel,rfl,by decide +kernel,by decide +kernel⟩
abbrev yQW:Stmt:=top 42
theorem yJ0:FnScope ["kind","rows","at","done","factor","first"] ["kind","rows","at","done"] (defScope yQW):=⟨rfl,rfl,rfl,by decide +kernel,rfl,by decide +kernel,by decide +kernel⟩
abbrev yJ8:Stmt:=top 43
theorem zJ3:FnScope ["kind","row","at","first"] ["kind","row","at","first"] (defScope yJ8):=⟨rfl,rfl,rfl,by decide +kernel,rfl,by decide +kernel,by decide +kernel⟩
abbrev yQU:Stmt:=top 45
theorem yKX:FnScope ["kind","g"] ["kind","g"] (defScope yQU):=⟨rfl,rfl,rfl,by decide +kernel,rfl,by decide +kernel,by decide +kernel⟩
abbrev yZH:Stmt:=top 46
theorem zZJ:FnScope ["kind","row","at"] ["kind","row","at"] (defScope yZH):=⟨rfl,rfl,rfl,by decide +kernel,rfl,by decide +kernel,by decide +kernel⟩
abbrev yHW:Stmt:=top 48
theorem zH9:FnScope ["kind","g","paper","whole"] ["kind","g","paper"] (defScope yHW):=⟨rfl,rfl,rfl,by decide +kernel,rfl,by decide +kernel,by decide +kernel⟩
abbrev yQY:Stmt:=top 49
theorem yY7:FnScope ["kind","g","paper","reckoned"] ["kind","g","paper"] (defScope yQY):=⟨rfl,rfl,rfl,by decide +kernel,rfl,by decide +kernel,by decide +kernel⟩
abbrev yZ9:Stmt:=top 50
theorem yW4:FnScope ["kind","g","r","degree"] ["kind","g","r"] (defScope yZ9):=⟨rfl,rfl,rfl,by decide +kernel,rfl,by decide +kernel,by decide +kernel⟩
abbrev yHQ:Stmt:=top 51
theorem zU5:FnScope ["kind","g","shared"] ["kind","g"] (defScope yHQ):=⟨rfl,rfl,rfl,by decide +kernel,rfl,by decide +kernel,by decide +kernel⟩
abbrev yJZ:Stmt:=top 52
theorem yJV:FnScope ["kind","rows","told","r","row","turning"] ["kind","rows"] (defScope yJZ):=⟨rfl,rfl,rfl,by decide +kernel,rfl,by decide +kernel,by decide +kernel⟩
abbrev yXZ:Stmt:=top 55
theorem yU1:FnScope ["number","divisor"] ["number"] (defScope yXZ):=⟨rfl,rfl,rfl,by decide +kernel,rfl,by decide +kernel,by decide +kernel⟩
abbrev yKJ:Stmt:=top 56
theorem yZU:FnScope ["number","size","before","rest","share_before","share","often","rest_behind","share_behind"] ["number","size"] (defScope yKJ):=⟨rfl,rfl,rfl,by decide +kernel,rfl,by decide +kernel,by decide +kernel⟩
abbrev yZ5:Stmt:=top 57
theorem yUJ:FnScope ["number"] ["number"] (defScope yZ5):=⟨rfl,rfl,rfl,by decide +kernel,rfl,by decide +kernel,by decide +kernel⟩
abbrev yVH:Stmt:=top 61
theorem zHH:FnScope ["_law_script","_law_k"] ["_law_script","_law_k"] (defScope yVH):=⟨rfl,rfl,rfl,by decide +kernel,rfl,by decide +kernel,by decide +kernel⟩
abbrev zJ9:Stmt:=top 62
theorem qZ3:FnScope ["_law_script","_law_number"] ["_law_script"] (defScope zJ9):=⟨rfl,rfl,rfl,by decide +kernel,rfl,by decide +kernel,by decide +kernel⟩
abbrev zY6:Stmt:=top 63
theorem qZ5:FnScope ["_law_row","_law_size"] ["_law_row","_law_size"] (defScope zY6):=⟨rfl,rfl,rfl,by decide +kernel,rfl,by decide +kernel,by decide +kernel⟩
abbrev yJ7:Stmt:=top 64
theorem yV9:FnScope ["_law_cell","_law_number"] ["_law_cell"] (defScope yJ7):=⟨rfl,rfl,rfl,by decide +kernel,rfl,by decide +kernel,by decide +kernel⟩
abbrev yYX:Stmt:=top 65
theorem yV5:FnScope ["_law_f","_law_g","_law_size","_law_row","_law_i","_law_k"] ["_law_f","_law_g","_law_size"] (defScope yYX):=⟨rfl,rfl,rfl,by decide +kernel,rfl,by decide +kernel,by decide +kernel⟩
abbrev zQ2:Stmt:=top 66
theorem yUU:FnScope ["_law_cell","_law_prime","_law_number","_law_row","_law_k"] ["_law_cell","_law_prime"] (defScope zQ2):=⟨rfl,rfl,rfl,by decide +kernel,rfl,by decide +kernel,by decide +kernel⟩
abbrev yHV:Stmt:=top 67
theorem qWH:FnScope ["_law_number","_law_size"] ["_law_number","_law_size"] (defScope yHV):=⟨rfl,rfl,rfl,by decide +kernel,rfl,by decide +kernel,by decide +kernel⟩
abbrev yYU:Stmt:=top 68
theorem zXH:FnScope ["_law_f"] ["_law_f"] (defScope yYU):=⟨rfl,rfl,rfl,by decide +kernel,rfl,by decide +kernel,by decide +kernel⟩
abbrev zQ1:Stmt:=top 69
theorem yK4:FnScope ["_law_script","_law_prime","_law_many","_law_long","_law_rows","_law_i","_law_row","_law_k","_law_cell"] ["_law_script","_law_prime","_law_many","_law_long"] (defScope zQ1):=⟨rfl,rfl,rfl,by decide +kernel,rfl,by decide +kernel,by decide +kernel⟩
abbrev yXQ:Stmt:=top 70
theorem zW3:FnScope ["_law_kept"] ["_law_kept"] (defScope yXQ):=⟨rfl,rfl,rfl,by decide +kernel,rfl,by decide +kernel,by decide +kernel⟩
abbrev yVV:Stmt:=top 71
theorem yH6:FnScope ["_law_kind","_law_g","_law_caught","e"] ["_law_kind","_law_g"] (defScope yVV):=⟨rfl,rfl,rfl,by decide +kernel,rfl,by decide +kernel,by decide +kernel⟩
abbrev qQ0:Stmt:=top 72
theorem yZW:FnScope ["_law_script","_law_head_here","_law_prime","_law_kind","_law_one","_law_other","_law_g","_law_many","_law_long","_law_right","_law_a","_law_b","_law_d","_law_led"] ["_law_script"] (defScope qQ0):=⟨rfl,rfl,rfl,by decide +kernel,rfl,by decide +kernel,by decide +kernel⟩
abbrev yYW:Stmt:=inClass (top 58) 0
theorem zXV:FnScope ["self","size"] ["self","size"] (defScope yYW):=⟨rfl,rfl,rfl,by decide +kernel,rfl,by decide +kernel,by decide +kernel⟩
abbrev yY2:Stmt:=inClass (top 58) 1
theorem zX7:FnScope ["self","number"] ["self","number"] (defScope yY2):=⟨rfl,rfl,rfl,by decide +kernel,rfl,by decide +kernel,by decide +kernel⟩
abbrev yYH:Stmt:=inClass (top 58) 3
theorem zVH:FnScope ["self","a","b"] ["self","a","b"] (defScope yYH):=⟨rfl,rfl,rfl,by decide +kernel,rfl,by decide +kernel,by decide +kernel⟩
abbrev yYY:Stmt:=inClass (top 58) 5
theorem zV8:FnScope ["self","a","b"] ["self","a","b"] (defScope yYY):=⟨rfl,rfl,rfl,by decide +kernel,rfl,by decide +kernel,by decide +kernel⟩
abbrev yY1:Stmt:=inClass (top 59) 0
theorem zY9:FnScope ["self","prime"] ["self","prime"] (defScope yY1):=⟨rfl,rfl,rfl,by decide +kernel,rfl,by decide +kernel,by decide +kernel⟩
structure Top (K:W.Frag) (mg:Str -> Option Value) (cFE:Addr) (cHP:Addr) (cBA:Addr) (cBL:Addr) (cBP:Addr) (cBT:Addr) (cNO:Addr) (cNW:Addr) (cNP:Addr) (cNN:Addr) (cK:Addr) (cR:Addr):Prop where
  d_cut_noughts:Def K mg "cut_noughts" yJ9 ["numbers"]
  d_trimmed:Def K mg "trimmed" yVX ["kind","f"]
  d_plus:Def K mg "plus" zY3 ["kind","f","g"]
  d_less:Def K mg "less" zJH ["kind","f","g"]
  d_times:Def K mg "times" yHX ["kind","f","g"]
  d_scaled:Def K mg "scaled" yK5 ["kind","f","number"]
  d_slope:Def K mg "slope" zQ0 ["kind","f"]
  d_divided:Def K mg "divided" yVY ["kind","f","g"]
  d_turned_lead:Def K mg "turned_lead" yJJ ["kind","f"]
  d_shares:Def K mg "shares" yK8 ["kind","f","g"]
  d_row_less:Def K mg "row_less" yXV ["kind","row","often","other"]
  d_times_by:Def K mg "times_by" yXJ ["kind","one","other","g"]
  d_raised:Def K mg "raised" yK7 ["kind","f","many","g"]
  d_power_rows:Def K mg "power_rows" yY0 ["kind","f","count","g"]
  d_powering:Def K mg "powering" yXX ["kind","g"]
  d_product:Def K mg "product" yVK ["kind","ones","others"]
  d_column:Def K mg "column" yK6 ["rows","at"]
  d_row_product:Def K mg "row_product" yJQ ["kind","row","columns"]
  d_sum_of_products:Def K mg "sum_of_products" yZ7 ["ones","others"]
  d_unit_table:Def K mg "unit_table" yY4 ["length"]
  d_unit_row:Def K mg "unit_row" yXY ["at","length"]
  d_echelon:Def K mg "echelon" yVU ["kind","rows"]
  d_cleared_beside_units:Def K mg "cleared_beside_units" yQV ["kind","rows","width"]
  d_plain_row:Def K mg "plain_row" yYK ["kind","row"]
  d_first_not_nought:Def K mg "first_not_nought" yQH ["rows","at","done"]
  d_with_row_moved:Def K mg "with_row_moved" yZ8 ["rows","found","done"]
  d_with_column_cleared:Def K mg "with_column_cleared" yQW ["kind","rows","at","done"]
  d_row_without:Def K mg "row_without" yJ8 ["kind","row","at","first"]
  d_powering_less_one:Def K mg "powering_less_one" yQU ["kind","g"]
  d_row_less_one:Def K mg "row_less_one" yZH ["kind","row","at"]
  d_holds:Def K mg "holds" yHW ["kind","g","paper"]
  d_shows_free_of_squares:Def K mg "shows_free_of_squares" yQY ["kind","g","paper"]
  d_shows_one_part:Def K mg "shows_one_part" yZ9 ["kind","g","r"]
  d_paper:Def K mg "paper" yHQ ["kind","g"]
  d_turned_back:Def K mg "turned_back" yJZ ["kind","rows"]
  d_is_prime:Def K mg "is_prime" yXZ ["number"]
  d_turned:Def K mg "turned" yKJ ["number","size"]
  d_refuse_no_prime:Def K mg "refuse_no_prime" yZ5 ["number"]
  d_cell_at:Def K mg "_law_cell_at" yVH ["_law_script","_law_k"]
  d_head:Def K mg "_law_head" zJ9 ["_law_script"]
  d_trim:Def K mg "_law_trim" zY6 ["_law_row","_law_size"]
  d_small_prime:Def K mg "_law_small_prime" yJ7 ["_law_cell"]
  d_law_times:Def K mg "_law_times" yYX ["_law_f","_law_g","_law_size"]
  d_piece:Def K mg "_law_piece" zQ2 ["_law_cell","_law_prime"]
  d_plain:Def K mg "_law_plain" yHV ["_law_number","_law_size"]
  d_law_slope:Def K mg "_law_slope" yYU ["_law_f"]
  d_table:Def K mg "_law_table" zQ1 ["_law_script","_law_prime","_law_many","_law_long"]
  d_no_other:Def K mg "_law_no_other" yXQ ["_law_kept"]
  d_refused:Def K mg "_law_refused" yVV ["_law_kind","_law_g"]
  b_len:mg "len"=none
  b_range:mg "range"=none
  b_isinstance:mg "isinstance"=none
  b_list:mg "list"=none
  b_enumerate:mg "enumerate"=none
  b_sum:mg "sum"=none
  b_zip:mg "zip"=none
  b_any:mg "any"=none
  b_ValueError:mg "ValueError"=none
  g_LARGEST_PRIME:∃ tk,mg "LARGEST_PRIME"=some (.int 9973 tk)
  i_hp_fe:W.kitOne K (.ref cHP) (.ref cFE)=some true
  i_hp_ve:W.kitOne K (.ref cHP) (.type "ValueError")=some true
  i_hp_BadAsk:W.kitOne K (.ref cHP) (.ref cBA)=some false
  i_hp_BadLift:W.kitOne K (.ref cHP) (.ref cBL)=some false
  i_hp_BadProduct:W.kitOne K (.ref cHP) (.ref cBP)=some false
  i_hp_BadText:W.kitOne K (.ref cHP) (.ref cBT)=some false
  i_hp_NoOver:W.kitOne K (.ref cHP) (.ref cNO)=some false
  i_hp_NoPower:W.kitOne K (.ref cHP) (.ref cNW)=some false
  i_hp_NoPrime:W.kitOne K (.ref cHP) (.ref cNP)=some false
  i_hp_Nought:W.kitOne K (.ref cHP) (.ref cNN)=some false
  m_ForgeError:mg "ForgeError"=some (.ref cFE)
  m_HasParts:mg "HasParts"=some (.ref cHP)
  x_HasParts:ExcC K cHP
  k_HasParts:ErrK K cHP
  m_BadAsk:mg "BadAsk"=some (.ref cBA)
  m_BadLift:mg "BadLift"=some (.ref cBL)
  m_BadProduct:mg "BadProduct"=some (.ref cBP)
  m_BadText:mg "BadText"=some (.ref cBT)
  m_NoOver:mg "NoOver"=some (.ref cNO)
  x_NoOver:ExcC K cNO
  m_NoPower:mg "NoPower"=some (.ref cNW)
  m_NoPrime:mg "NoPrime"=some (.ref cNP)
  m_Nought:mg "Nought"=some (.ref cNN)
  m_Kind:mg "Kind"=some (.ref cK)
  m_Rests:mg "Rests"=some (.ref cR)
  cl_Rests:Cls K cR
  na_Rests_size:NoAttr K cR "size"
  y_hp:W.exmOne K (.ref cHP) (.ref cHP)=some true
  f_Kind_init:∃ f fd,Fun K "__init__" "Kind.__init__" yYW f fd /\ Binds K fd ["self","size"] [] /\ ClsFn K cK "__init__" f
  f_Kind_plain:∃ f fd,Fun K "plain" "Kind.plain" yY2 f fd /\ Binds K fd ["self","number"] [] /\ Meth K cR "plain" f
  f_Kind_less:∃ f fd,Fun K "less" "Kind.less" yYH f fd /\ Binds K fd ["self","a","b"] [] /\ Meth K cR "less" f
  f_Kind_over:∃ f fd,Fun K "over" "Kind.over" yYY f fd /\ Binds K fd ["self","a","b"] [] /\ Meth K cR "over" f
  f_Rests_init:∃ f fd,Fun K "__init__" "Rests.__init__" yY1 f fd /\ Binds K fd ["self","prime"] [] /\ Mk K cR f
def AMk:Prop:=∀ {l:W.OpenLaw} {w:World} {K:W.Frag} {h:Heap} {mg:Str -> Option Value} {fa:Addr} {cFE:Addr} {cHP:Addr} {cBA:Addr} {cBL:Addr} {cBP:Addr} {cBT:Addr} {cNO:Addr} {cNW:Addr} {cNP:Addr} {cNN:Addr} {cK:Addr} {cR:Addr} (X:K.In h) (G:h.Ns mainGlobals mg) (hfa:mg "law"=some (.ref fa))
    {f0:Addr} {od0 an0:Option Addr} {sl0:Array (Option Value)} {oc0 kV0 dc0 pm0 cd0 ct0:Value}
    {f1:Addr} {od1 an1:Option Addr} {sl1:Array (Option Value)} {oc1 kV1 dc1 pm1 cd1 ct1:Value}
    {f2:Addr} {od2 an2:Option Addr} {sl2:Array (Option Value)} {oc2 kV2 dc2 pm2 cd2 ct2:Value}
    {f3:Addr} {od3 an3:Option Addr} {sl3:Array (Option Value)} {oc3 kV3 dc3 pm3 cd3 ct3:Value}
    {f4:Addr} {od4 an4:Option Addr} {sl4:Array (Option Value)} {oc4 kV4 dc4 pm4 cd4 ct4:Value}
    {f5:Addr} {od5 an5:Option Addr} {sl5:Array (Option Value)} {oc5 kV5 dc5 pm5 cd5 ct5:Value}
    {f6:Addr} {od6 an6:Option Addr} {sl6:Array (Option Value)} {oc6 kV6 dc6 pm6 cd6 ct6:Value}
    {f7:Addr} {od7 an7:Option Addr} {sl7:Array (Option Value)} {oc7 kV7 dc7 pm7 cd7 ct7:Value}
    {f8:Addr} {od8 an8:Option Addr} {sl8:Array (Option Value)} {oc8 kV8 dc8 pm8 cd8 ct8:Value}
    {f9:Addr} {od9 an9:Option Addr} {sl9:Array (Option Value)} {oc9 kV9 dc9 pm9 cd9 ct9:Value}
    {f10:Addr} {od10 an10:Option Addr} {sl10:Array (Option Value)} {oc10 kV10 dc10 pm10 cd10 ct10:Value}
    {f11:Addr} {od11 an11:Option Addr} {sl11:Array (Option Value)} {oc11 kV11 dc11 pm11 cd11 ct11:Value}
    {f12:Addr} {od12 an12:Option Addr} {sl12:Array (Option Value)} {oc12 kV12 dc12 pm12 cd12 ct12:Value}
    {f13:Addr} {od13 an13:Option Addr} {sl13:Array (Option Value)} {oc13 kV13 dc13 pm13 cd13 ct13:Value}
    {f14:Addr} {od14 an14:Option Addr} {sl14:Array (Option Value)} {oc14 kV14 dc14 pm14 cd14 ct14:Value}
    {f15:Addr} {od15 an15:Option Addr} {sl15:Array (Option Value)} {oc15 kV15 dc15 pm15 cd15 ct15:Value}
    {f16:Addr} {od16 an16:Option Addr} {sl16:Array (Option Value)} {oc16 kV16 dc16 pm16 cd16 ct16:Value}
    {f17:Addr} {od17 an17:Option Addr} {sl17:Array (Option Value)} {oc17 kV17 dc17 pm17 cd17 ct17:Value}
    {f18:Addr} {od18 an18:Option Addr} {sl18:Array (Option Value)} {oc18 kV18 dc18 pm18 cd18 ct18:Value}
    {f19:Addr} {od19 an19:Option Addr} {sl19:Array (Option Value)} {oc19 kV19 dc19 pm19 cd19 ct19:Value}
    {f20:Addr} {od20 an20:Option Addr} {sl20:Array (Option Value)} {oc20 kV20 dc20 pm20 cd20 ct20:Value}
    {f21:Addr} {od21 an21:Option Addr} {sl21:Array (Option Value)} {oc21 kV21 dc21 pm21 cd21 ct21:Value}
    {f22:Addr} {od22 an22:Option Addr} {sl22:Array (Option Value)} {oc22 kV22 dc22 pm22 cd22 ct22:Value}
    {f23:Addr} {od23 an23:Option Addr} {sl23:Array (Option Value)} {oc23 kV23 dc23 pm23 cd23 ct23:Value}
    {f24:Addr} {od24 an24:Option Addr} {sl24:Array (Option Value)} {oc24 kV24 dc24 pm24 cd24 ct24:Value}
    {f25:Addr} {od25 an25:Option Addr} {sl25:Array (Option Value)} {oc25 kV25 dc25 pm25 cd25 ct25:Value}
    {f26:Addr} {od26 an26:Option Addr} {sl26:Array (Option Value)} {oc26 kV26 dc26 pm26 cd26 ct26:Value}
    {f27:Addr} {od27 an27:Option Addr} {sl27:Array (Option Value)} {oc27 kV27 dc27 pm27 cd27 ct27:Value}
    {f28:Addr} {od28 an28:Option Addr} {sl28:Array (Option Value)} {oc28 kV28 dc28 pm28 cd28 ct28:Value}
    {f29:Addr} {od29 an29:Option Addr} {sl29:Array (Option Value)} {oc29 kV29 dc29 pm29 cd29 ct29:Value}
    {f30:Addr} {od30 an30:Option Addr} {sl30:Array (Option Value)} {oc30 kV30 dc30 pm30 cd30 ct30:Value}
    {f31:Addr} {od31 an31:Option Addr} {sl31:Array (Option Value)} {oc31 kV31 dc31 pm31 cd31 ct31:Value}
    {f32:Addr} {od32 an32:Option Addr} {sl32:Array (Option Value)} {oc32 kV32 dc32 pm32 cd32 ct32:Value}
    {f33:Addr} {od33 an33:Option Addr} {sl33:Array (Option Value)} {oc33 kV33 dc33 pm33 cd33 ct33:Value}
    {f34:Addr} {od34 an34:Option Addr} {sl34:Array (Option Value)} {oc34 kV34 dc34 pm34 cd34 ct34:Value}
    {f35:Addr} {od35 an35:Option Addr} {sl35:Array (Option Value)} {oc35 kV35 dc35 pm35 cd35 ct35:Value}
    {f36:Addr} {od36 an36:Option Addr} {sl36:Array (Option Value)} {oc36 kV36 dc36 pm36 cd36 ct36:Value}
    {f37:Addr} {od37 an37:Option Addr} {sl37:Array (Option Value)} {oc37 kV37 dc37 pm37 cd37 ct37:Value}
    {f38:Addr} {od38 an38:Option Addr} {sl38:Array (Option Value)} {oc38 kV38 dc38 pm38 cd38 ct38:Value}
    {f39:Addr} {od39 an39:Option Addr} {sl39:Array (Option Value)} {oc39 kV39 dc39 pm39 cd39 ct39:Value}
    {f40:Addr} {od40 an40:Option Addr} {sl40:Array (Option Value)} {oc40 kV40 dc40 pm40 cd40 ct40:Value}
    {f41:Addr} {od41 an41:Option Addr} {sl41:Array (Option Value)} {oc41 kV41 dc41 pm41 cd41 ct41:Value}
    {f42:Addr} {od42 an42:Option Addr} {sl42:Array (Option Value)} {oc42 kV42 dc42 pm42 cd42 ct42:Value}
    {f43:Addr} {od43 an43:Option Addr} {sl43:Array (Option Value)} {oc43 kV43 dc43 pm43 cd43 ct43:Value}
    {f44:Addr} {od44 an44:Option Addr} {sl44:Array (Option Value)} {oc44 kV44 dc44 pm44 cd44 ct44:Value}
    {f45:Addr} {od45 an45:Option Addr} {sl45:Array (Option Value)} {oc45 kV45 dc45 pm45 cd45 ct45:Value}
    {f46:Addr} {od46 an46:Option Addr} {sl46:Array (Option Value)} {oc46 kV46 dc46 pm46 cd46 ct46:Value}
    {f47:Addr} {od47 an47:Option Addr} {sl47:Array (Option Value)} {oc47 kV47 dc47 pm47 cd47 ct47:Value}
    {f48:Addr} {od48 an48:Option Addr} {sl48:Array (Option Value)} {oc48 kV48 dc48 pm48 cd48 ct48:Value}
    {f49:Addr} {od49 an49:Option Addr} {sl49:Array (Option Value)} {oc49 kV49 dc49 pm49 cd49 ct49:Value}
    {tk0:Tok}
    {fm0:Addr} {odm0 anm0:Option Addr} {slm0:Array (Option Value)} {ocm0 kVm0 dcm0 pmm0 cdm0 ctm0:Value}
    {fm1:Addr} {odm1 anm1:Option Addr} {slm1:Array (Option Value)} {ocm1 kVm1 dcm1 pmm1 cdm1 ctm1:Value}
    {fm2:Addr} {odm2 anm2:Option Addr} {slm2:Array (Option Value)} {ocm2 kVm2 dcm2 pmm2 cdm2 ctm2:Value}
    {fm3:Addr} {odm3 anm3:Option Addr} {slm3:Array (Option Value)} {ocm3 kVm3 dcm3 pmm3 cdm3 ctm3:Value}
    {fm4:Addr} {odm4 anm4:Option Addr} {slm4:Array (Option Value)} {ocm4 kVm4 dcm4 pmm4 cdm4 ctm4:Value}
    (a0:W.nsIn K mainGlobals "cut_noughts"=some (some (.ref f0)))
    (l0:K.lookup f0=some ⟨oc0,od0,.func (W.fnOf "cut_noughts" "cut_noughts" (defArgs yJ9) (defBody yJ9) (defScope yJ9) .none kV0 dc0 pm0 an0 cd0 ct0),sl0⟩)
    (c0:W.codeIn K cd0 "cut_noughts"=true) (k0:W.keepIn K (.ref f0)=true)
    (a1:W.nsIn K mainGlobals "trimmed"=some (some (.ref f1)))
    (l1:K.lookup f1=some ⟨oc1,od1,.func (W.fnOf "trimmed" "trimmed" (defArgs yVX) (defBody yVX) (defScope yVX) .none kV1 dc1 pm1 an1 cd1 ct1),sl1⟩)
    (c1:W.codeIn K cd1 "trimmed"=true) (k1:W.keepIn K (.ref f1)=true)
    (a2:W.nsIn K mainGlobals "plus"=some (some (.ref f2)))
    (l2:K.lookup f2=some ⟨oc2,od2,.func (W.fnOf "plus" "plus" (defArgs zY3) (defBody zY3) (defScope zY3) .none kV2 dc2 pm2 an2 cd2 ct2),sl2⟩)
    (c2:W.codeIn K cd2 "plus"=true) (k2:W.keepIn K (.ref f2)=true)
    (a3:W.nsIn K mainGlobals "less"=some (some (.ref f3)))
    (l3:K.lookup f3=some ⟨oc3,od3,.func (W.fnOf "less" "less" (defArgs zJH) (defBody zJH) (defScope zJH) .none kV3 dc3 pm3 an3 cd3 ct3),sl3⟩)
    (c3:W.codeIn K cd3 "less"=true) (k3:W.keepIn K (.ref f3)=true)
    (a4:W.nsIn K mainGlobals "times"=some (some (.ref f4)))
    (l4:K.lookup f4=some ⟨oc4,od4,.func (W.fnOf "times" "times" (defArgs yHX) (defBody yHX) (defScope yHX) .none kV4 dc4 pm4 an4 cd4 ct4),sl4⟩)
    (c4:W.codeIn K cd4 "times"=true) (k4:W.keepIn K (.ref f4)=true)
    (a5:W.nsIn K mainGlobals "scaled"=some (some (.ref f5)))
    (l5:K.lookup f5=some ⟨oc5,od5,.func (W.fnOf "scaled" "scaled" (defArgs yK5) (defBody yK5) (defScope yK5) .none kV5 dc5 pm5 an5 cd5 ct5),sl5⟩)
    (c5:W.codeIn K cd5 "scaled"=true) (k5:W.keepIn K (.ref f5)=true)
    (a6:W.nsIn K mainGlobals "slope"=some (some (.ref f6)))
    (l6:K.lookup f6=some ⟨oc6,od6,.func (W.fnOf "slope" "slope" (defArgs zQ0) (defBody zQ0) (defScope zQ0) .none kV6 dc6 pm6 an6 cd6 ct6),sl6⟩)
    (c6:W.codeIn K cd6 "slope"=true) (k6:W.keepIn K (.ref f6)=true)
    (a7:W.nsIn K mainGlobals "divided"=some (some (.ref f7)))
    (l7:K.lookup f7=some ⟨oc7,od7,.func (W.fnOf "divided" "divided" (defArgs yVY) (defBody yVY) (defScope yVY) .none kV7 dc7 pm7 an7 cd7 ct7),sl7⟩)
    (c7:W.codeIn K cd7 "divided"=true) (k7:W.keepIn K (.ref f7)=true)
    (a8:W.nsIn K mainGlobals "turned_lead"=some (some (.ref f8)))
    (l8:K.lookup f8=some ⟨oc8,od8,.func (W.fnOf "turned_lead" "turned_lead" (defArgs yJJ) (defBody yJJ) (defScope yJJ) .none kV8 dc8 pm8 an8 cd8 ct8),sl8⟩)
    (c8:W.codeIn K cd8 "turned_lead"=true) (k8:W.keepIn K (.ref f8)=true)
    (a9:W.nsIn K mainGlobals "shares"=some (some (.ref f9)))
    (l9:K.lookup f9=some ⟨oc9,od9,.func (W.fnOf "shares" "shares" (defArgs yK8) (defBody yK8) (defScope yK8) .none kV9 dc9 pm9 an9 cd9 ct9),sl9⟩)
    (c9:W.codeIn K cd9 "shares"=true) (k9:W.keepIn K (.ref f9)=true)
    (a10:W.nsIn K mainGlobals "row_less"=some (some (.ref f10)))
    (l10:K.lookup f10=some ⟨oc10,od10,.func (W.fnOf "row_less" "row_less" (defArgs yXV) (defBody yXV) (defScope yXV) .none kV10 dc10 pm10 an10 cd10 ct10),sl10⟩)
    (c10:W.codeIn K cd10 "row_less"=true) (k10:W.keepIn K (.ref f10)=true)
    (a11:W.nsIn K mainGlobals "times_by"=some (some (.ref f11)))
    (l11:K.lookup f11=some ⟨oc11,od11,.func (W.fnOf "times_by" "times_by" (defArgs yXJ) (defBody yXJ) (defScope yXJ) .none kV11 dc11 pm11 an11 cd11 ct11),sl11⟩)
    (c11:W.codeIn K cd11 "times_by"=true) (k11:W.keepIn K (.ref f11)=true)
    (a12:W.nsIn K mainGlobals "raised"=some (some (.ref f12)))
    (l12:K.lookup f12=some ⟨oc12,od12,.func (W.fnOf "raised" "raised" (defArgs yK7) (defBody yK7) (defScope yK7) .none kV12 dc12 pm12 an12 cd12 ct12),sl12⟩)
    (c12:W.codeIn K cd12 "raised"=true) (k12:W.keepIn K (.ref f12)=true)
    (a13:W.nsIn K mainGlobals "power_rows"=some (some (.ref f13)))
    (l13:K.lookup f13=some ⟨oc13,od13,.func (W.fnOf "power_rows" "power_rows" (defArgs yY0) (defBody yY0) (defScope yY0) .none kV13 dc13 pm13 an13 cd13 ct13),sl13⟩)
    (c13:W.codeIn K cd13 "power_rows"=true) (k13:W.keepIn K (.ref f13)=true)
    (a14:W.nsIn K mainGlobals "powering"=some (some (.ref f14)))
    (l14:K.lookup f14=some ⟨oc14,od14,.func (W.fnOf "powering" "powering" (defArgs yXX) (defBody yXX) (defScope yXX) .none kV14 dc14 pm14 an14 cd14 ct14),sl14⟩)
    (c14:W.codeIn K cd14 "powering"=true) (k14:W.keepIn K (.ref f14)=true)
    (a15:W.nsIn K mainGlobals "product"=some (some (.ref f15)))
    (l15:K.lookup f15=some ⟨oc15,od15,.func (W.fnOf "product" "product" (defArgs yVK) (defBody yVK) (defScope yVK) .none kV15 dc15 pm15 an15 cd15 ct15),sl15⟩)
    (c15:W.codeIn K cd15 "product"=true) (k15:W.keepIn K (.ref f15)=true)
    (a16:W.nsIn K mainGlobals "column"=some (some (.ref f16)))
    (l16:K.lookup f16=some ⟨oc16,od16,.func (W.fnOf "column" "column" (defArgs yK6) (defBody yK6) (defScope yK6) .none kV16 dc16 pm16 an16 cd16 ct16),sl16⟩)
    (c16:W.codeIn K cd16 "column"=true) (k16:W.keepIn K (.ref f16)=true)
    (a17:W.nsIn K mainGlobals "row_product"=some (some (.ref f17)))
    (l17:K.lookup f17=some ⟨oc17,od17,.func (W.fnOf "row_product" "row_product" (defArgs yJQ) (defBody yJQ) (defScope yJQ) .none kV17 dc17 pm17 an17 cd17 ct17),sl17⟩)
    (c17:W.codeIn K cd17 "row_product"=true) (k17:W.keepIn K (.ref f17)=true)
    (a18:W.nsIn K mainGlobals "sum_of_products"=some (some (.ref f18)))
    (l18:K.lookup f18=some ⟨oc18,od18,.func (W.fnOf "sum_of_products" "sum_of_products" (defArgs yZ7) (defBody yZ7) (defScope yZ7) .none kV18 dc18 pm18 an18 cd18 ct18),sl18⟩)
    (c18:W.codeIn K cd18 "sum_of_products"=true) (k18:W.keepIn K (.ref f18)=true)
    (a19:W.nsIn K mainGlobals "unit_table"=some (some (.ref f19)))
    (l19:K.lookup f19=some ⟨oc19,od19,.func (W.fnOf "unit_table" "unit_table" (defArgs yY4) (defBody yY4) (defScope yY4) .none kV19 dc19 pm19 an19 cd19 ct19),sl19⟩)
    (c19:W.codeIn K cd19 "unit_table"=true) (k19:W.keepIn K (.ref f19)=true)
    (a20:W.nsIn K mainGlobals "unit_row"=some (some (.ref f20)))
    (l20:K.lookup f20=some ⟨oc20,od20,.func (W.fnOf "unit_row" "unit_row" (defArgs yXY) (defBody yXY) (defScope yXY) .none kV20 dc20 pm20 an20 cd20 ct20),sl20⟩)
    (c20:W.codeIn K cd20 "unit_row"=true) (k20:W.keepIn K (.ref f20)=true)
    (a21:W.nsIn K mainGlobals "echelon"=some (some (.ref f21)))
    (l21:K.lookup f21=some ⟨oc21,od21,.func (W.fnOf "echelon" "echelon" (defArgs yVU) (defBody yVU) (defScope yVU) .none kV21 dc21 pm21 an21 cd21 ct21),sl21⟩)
    (c21:W.codeIn K cd21 "echelon"=true) (k21:W.keepIn K (.ref f21)=true)
    (a22:W.nsIn K mainGlobals "cleared_beside_units"=some (some (.ref f22)))
    (l22:K.lookup f22=some ⟨oc22,od22,.func (W.fnOf "cleared_beside_units" "cleared_beside_units" (defArgs yQV) (defBody yQV) (defScope yQV) .none kV22 dc22 pm22 an22 cd22 ct22),sl22⟩)
    (c22:W.codeIn K cd22 "cleared_beside_units"=true) (k22:W.keepIn K (.ref f22)=true)
    (a23:W.nsIn K mainGlobals "plain_row"=some (some (.ref f23)))
    (l23:K.lookup f23=some ⟨oc23,od23,.func (W.fnOf "plain_row" "plain_row" (defArgs yYK) (defBody yYK) (defScope yYK) .none kV23 dc23 pm23 an23 cd23 ct23),sl23⟩)
    (c23:W.codeIn K cd23 "plain_row"=true) (k23:W.keepIn K (.ref f23)=true)
    (a24:W.nsIn K mainGlobals "first_not_nought"=some (some (.ref f24)))
    (l24:K.lookup f24=some ⟨oc24,od24,.func (W.fnOf "first_not_nought" "first_not_nought" (defArgs yQH) (defBody yQH) (defScope yQH) .none kV24 dc24 pm24 an24 cd24 ct24),sl24⟩)
    (c24:W.codeIn K cd24 "first_not_nought"=true) (k24:W.keepIn K (.ref f24)=true)
    (a25:W.nsIn K mainGlobals "with_row_moved"=some (some (.ref f25)))
    (l25:K.lookup f25=some ⟨oc25,od25,.func (W.fnOf "with_row_moved" "with_row_moved" (defArgs yZ8) (defBody yZ8) (defScope yZ8) .none kV25 dc25 pm25 an25 cd25 ct25),sl25⟩)
    (c25:W.codeIn K cd25 "with_row_moved"=true) (k25:W.keepIn K (.ref f25)=true)
    (a26:W.nsIn K mainGlobals "with_column_cleared"=some (some (.ref f26)))
    (l26:K.lookup f26=some ⟨oc26,od26,.func (W.fnOf "with_column_cleared" "with_column_cleared" (defArgs yQW) (defBody yQW) (defScope yQW) .none kV26 dc26 pm26 an26 cd26 ct26),sl26⟩)
    (c26:W.codeIn K cd26 "with_column_cleared"=true) (k26:W.keepIn K (.ref f26)=true)
    (a27:W.nsIn K mainGlobals "row_without"=some (some (.ref f27)))
    (l27:K.lookup f27=some ⟨oc27,od27,.func (W.fnOf "row_without" "row_without" (defArgs yJ8) (defBody yJ8) (defScope yJ8) .none kV27 dc27 pm27 an27 cd27 ct27),sl27⟩)
    (c27:W.codeIn K cd27 "row_without"=true) (k27:W.keepIn K (.ref f27)=true)
    (a28:W.nsIn K mainGlobals "powering_less_one"=some (some (.ref f28)))
    (l28:K.lookup f28=some ⟨oc28,od28,.func (W.fnOf "powering_less_one" "powering_less_one" (defArgs yQU) (defBody yQU) (defScope yQU) .none kV28 dc28 pm28 an28 cd28 ct28),sl28⟩)
    (c28:W.codeIn K cd28 "powering_less_one"=true) (k28:W.keepIn K (.ref f28)=true)
    (a29:W.nsIn K mainGlobals "row_less_one"=some (some (.ref f29)))
    (l29:K.lookup f29=some ⟨oc29,od29,.func (W.fnOf "row_less_one" "row_less_one" (defArgs yZH) (defBody yZH) (defScope yZH) .none kV29 dc29 pm29 an29 cd29 ct29),sl29⟩)
    (c29:W.codeIn K cd29 "row_less_one"=true) (k29:W.keepIn K (.ref f29)=true)
    (a30:W.nsIn K mainGlobals "holds"=some (some (.ref f30)))
    (l30:K.lookup f30=some ⟨oc30,od30,.func (W.fnOf "holds" "holds" (defArgs yHW) (defBody yHW) (defScope yHW) .none kV30 dc30 pm30 an30 cd30 ct30),sl30⟩)
    (c30:W.codeIn K cd30 "holds"=true) (k30:W.keepIn K (.ref f30)=true)
    (a31:W.nsIn K mainGlobals "shows_free_of_squares"=some (some (.ref f31)))
    (l31:K.lookup f31=some ⟨oc31,od31,.func (W.fnOf "shows_free_of_squares" "shows_free_of_squares" (defArgs yQY) (defBody yQY) (defScope yQY) .none kV31 dc31 pm31 an31 cd31 ct31),sl31⟩)
    (c31:W.codeIn K cd31 "shows_free_of_squares"=true) (k31:W.keepIn K (.ref f31)=true)
    (a32:W.nsIn K mainGlobals "shows_one_part"=some (some (.ref f32)))
    (l32:K.lookup f32=some ⟨oc32,od32,.func (W.fnOf "shows_one_part" "shows_one_part" (defArgs yZ9) (defBody yZ9) (defScope yZ9) .none kV32 dc32 pm32 an32 cd32 ct32),sl32⟩)
    (c32:W.codeIn K cd32 "shows_one_part"=true) (k32:W.keepIn K (.ref f32)=true)
    (a33:W.nsIn K mainGlobals "paper"=some (some (.ref f33)))
    (l33:K.lookup f33=some ⟨oc33,od33,.func (W.fnOf "paper" "paper" (defArgs yHQ) (defBody yHQ) (defScope yHQ) .none kV33 dc33 pm33 an33 cd33 ct33),sl33⟩)
    (c33:W.codeIn K cd33 "paper"=true) (k33:W.keepIn K (.ref f33)=true)
    (a34:W.nsIn K mainGlobals "turned_back"=some (some (.ref f34)))
    (l34:K.lookup f34=some ⟨oc34,od34,.func (W.fnOf "turned_back" "turned_back" (defArgs yJZ) (defBody yJZ) (defScope yJZ) .none kV34 dc34 pm34 an34 cd34 ct34),sl34⟩)
    (c34:W.codeIn K cd34 "turned_back"=true) (k34:W.keepIn K (.ref f34)=true)
    (a35:W.nsIn K mainGlobals "is_prime"=some (some (.ref f35)))
    (l35:K.lookup f35=some ⟨oc35,od35,.func (W.fnOf "is_prime" "is_prime" (defArgs yXZ) (defBody yXZ) (defScope yXZ) .none kV35 dc35 pm35 an35 cd35 ct35),sl35⟩)
    (c35:W.codeIn K cd35 "is_prime"=true) (k35:W.keepIn K (.ref f35)=true)
    (a36:W.nsIn K mainGlobals "turned"=some (some (.ref f36)))
    (l36:K.lookup f36=some ⟨oc36,od36,.func (W.fnOf "turned" "turned" (defArgs yKJ) (defBody yKJ) (defScope yKJ) .none kV36 dc36 pm36 an36 cd36 ct36),sl36⟩)
    (c36:W.codeIn K cd36 "turned"=true) (k36:W.keepIn K (.ref f36)=true)
    (a37:W.nsIn K mainGlobals "refuse_no_prime"=some (some (.ref f37)))
    (l37:K.lookup f37=some ⟨oc37,od37,.func (W.fnOf "refuse_no_prime" "refuse_no_prime" (defArgs yZ5) (defBody yZ5) (defScope yZ5) .none kV37 dc37 pm37 an37 cd37 ct37),sl37⟩)
    (c37:W.codeIn K cd37 "refuse_no_prime"=true) (k37:W.keepIn K (.ref f37)=true)
    (a38:W.nsIn K mainGlobals "_law_cell_at"=some (some (.ref f38)))
    (l38:K.lookup f38=some ⟨oc38,od38,.func (W.fnOf "_law_cell_at" "_law_cell_at" (defArgs yVH) (defBody yVH) (defScope yVH) .none kV38 dc38 pm38 an38 cd38 ct38),sl38⟩)
    (c38:W.codeIn K cd38 "_law_cell_at"=true) (k38:W.keepIn K (.ref f38)=true)
    (a39:W.nsIn K mainGlobals "_law_head"=some (some (.ref f39)))
    (l39:K.lookup f39=some ⟨oc39,od39,.func (W.fnOf "_law_head" "_law_head" (defArgs zJ9) (defBody zJ9) (defScope zJ9) .none kV39 dc39 pm39 an39 cd39 ct39),sl39⟩)
    (c39:W.codeIn K cd39 "_law_head"=true) (k39:W.keepIn K (.ref f39)=true)
    (a40:W.nsIn K mainGlobals "_law_trim"=some (some (.ref f40)))
    (l40:K.lookup f40=some ⟨oc40,od40,.func (W.fnOf "_law_trim" "_law_trim" (defArgs zY6) (defBody zY6) (defScope zY6) .none kV40 dc40 pm40 an40 cd40 ct40),sl40⟩)
    (c40:W.codeIn K cd40 "_law_trim"=true) (k40:W.keepIn K (.ref f40)=true)
    (a41:W.nsIn K mainGlobals "_law_small_prime"=some (some (.ref f41)))
    (l41:K.lookup f41=some ⟨oc41,od41,.func (W.fnOf "_law_small_prime" "_law_small_prime" (defArgs yJ7) (defBody yJ7) (defScope yJ7) .none kV41 dc41 pm41 an41 cd41 ct41),sl41⟩)
    (c41:W.codeIn K cd41 "_law_small_prime"=true) (k41:W.keepIn K (.ref f41)=true)
    (a42:W.nsIn K mainGlobals "_law_times"=some (some (.ref f42)))
    (l42:K.lookup f42=some ⟨oc42,od42,.func (W.fnOf "_law_times" "_law_times" (defArgs yYX) (defBody yYX) (defScope yYX) .none kV42 dc42 pm42 an42 cd42 ct42),sl42⟩)
    (c42:W.codeIn K cd42 "_law_times"=true) (k42:W.keepIn K (.ref f42)=true)
    (a43:W.nsIn K mainGlobals "_law_piece"=some (some (.ref f43)))
    (l43:K.lookup f43=some ⟨oc43,od43,.func (W.fnOf "_law_piece" "_law_piece" (defArgs zQ2) (defBody zQ2) (defScope zQ2) .none kV43 dc43 pm43 an43 cd43 ct43),sl43⟩)
    (c43:W.codeIn K cd43 "_law_piece"=true) (k43:W.keepIn K (.ref f43)=true)
    (a44:W.nsIn K mainGlobals "_law_plain"=some (some (.ref f44)))
    (l44:K.lookup f44=some ⟨oc44,od44,.func (W.fnOf "_law_plain" "_law_plain" (defArgs yHV) (defBody yHV) (defScope yHV) .none kV44 dc44 pm44 an44 cd44 ct44),sl44⟩)
    (c44:W.codeIn K cd44 "_law_plain"=true) (k44:W.keepIn K (.ref f44)=true)
    (a45:W.nsIn K mainGlobals "_law_slope"=some (some (.ref f45)))
    (l45:K.lookup f45=some ⟨oc45,od45,.func (W.fnOf "_law_slope" "_law_slope" (defArgs yYU) (defBody yYU) (defScope yYU) .none kV45 dc45 pm45 an45 cd45 ct45),sl45⟩)
    (c45:W.codeIn K cd45 "_law_slope"=true) (k45:W.keepIn K (.ref f45)=true)
    (a46:W.nsIn K mainGlobals "_law_table"=some (some (.ref f46)))
    (l46:K.lookup f46=some ⟨oc46,od46,.func (W.fnOf "_law_table" "_law_table" (defArgs zQ1) (defBody zQ1) (defScope zQ1) .none kV46 dc46 pm46 an46 cd46 ct46),sl46⟩)
    (c46:W.codeIn K cd46 "_law_table"=true) (k46:W.keepIn K (.ref f46)=true)
    (a47:W.nsIn K mainGlobals "_law_no_other"=some (some (.ref f47)))
    (l47:K.lookup f47=some ⟨oc47,od47,.func (W.fnOf "_law_no_other" "_law_no_other" (defArgs yXQ) (defBody yXQ) (defScope yXQ) .none kV47 dc47 pm47 an47 cd47 ct47),sl47⟩)
    (c47:W.codeIn K cd47 "_law_no_other"=true) (k47:W.keepIn K (.ref f47)=true)
    (a48:W.nsIn K mainGlobals "_law_refused"=some (some (.ref f48)))
    (l48:K.lookup f48=some ⟨oc48,od48,.func (W.fnOf "_law_refused" "_law_refused" (defArgs yVV) (defBody yVV) (defScope yVV) .none kV48 dc48 pm48 an48 cd48 ct48),sl48⟩)
    (c48:W.codeIn K cd48 "_law_refused"=true) (k48:W.keepIn K (.ref f48)=true)
    (a49:W.nsIn K mainGlobals "law"=some (some (.ref f49)))
    (l49:K.lookup f49=some ⟨oc49,od49,.func (W.fnOf "law" "law" (defArgs qQ0) (defBody qQ0) (defScope qQ0) .none kV49 dc49 pm49 an49 cd49 ct49),sl49⟩)
    (c49:W.codeIn K cd49 "law"=true) (k49:W.keepIn K (.ref f49)=true)
    (z0:W.nsIn K mainGlobals "len"=some none)
    (z1:W.nsIn K mainGlobals "range"=some none)
    (z2:W.nsIn K mainGlobals "isinstance"=some none)
    (z3:W.nsIn K mainGlobals "list"=some none)
    (z4:W.nsIn K mainGlobals "enumerate"=some none)
    (z5:W.nsIn K mainGlobals "sum"=some none)
    (z6:W.nsIn K mainGlobals "zip"=some none)
    (z7:W.nsIn K mainGlobals "any"=some none)
    (z8:W.nsIn K mainGlobals "ValueError"=some none)
    (y0:W.nsIn K mainGlobals "LARGEST_PRIME"=some (some (.int 9973 tk0)))
    (q_ForgeError:W.nsIn K mainGlobals "ForgeError"=some (some (.ref cFE)))
    (q_HasParts:W.nsIn K mainGlobals "HasParts"=some (some (.ref cHP)))
    (e_HasParts:W.excIn K cHP bmV "ValueError.__new__"=true)
    (ag_HasParts:W.findIn K (.ref cHP) "__getattribute__"=some (some (.builtin "BaseException.__getattribute__")))
    (ak_HasParts:W.findIn K (.ref cHP) "__getattr__"=some none)
    (ab_HasParts:W.mroIn K cHP (.type "BaseException")=some true)
    (ad_HasParts:W.hasDictIn K cHP=true)
    (aa_HasParts:W.findIn K (.ref cHP) "__class__"=some (some (.builtin "object.__class__")))
    (an_HasParts:W.specialIn K (.builtin "object.__class__") "__get__"=some (some (.builtin "getset_descriptor.__get__")))
    (at_HasParts:W.takesIn K (.builtin "object.__class__")=some true)
    (am_HasParts:W.mroIn K cHP (.type "object")=some true)
    (q_BadAsk:W.nsIn K mainGlobals "BadAsk"=some (some (.ref cBA)))
    (q_BadLift:W.nsIn K mainGlobals "BadLift"=some (some (.ref cBL)))
    (q_BadProduct:W.nsIn K mainGlobals "BadProduct"=some (some (.ref cBP)))
    (q_BadText:W.nsIn K mainGlobals "BadText"=some (some (.ref cBT)))
    (q_NoOver:W.nsIn K mainGlobals "NoOver"=some (some (.ref cNO)))
    (e_NoOver:W.excIn K cNO bmV "ValueError.__new__"=true)
    (q_NoPower:W.nsIn K mainGlobals "NoPower"=some (some (.ref cNW)))
    (q_NoPrime:W.nsIn K mainGlobals "NoPrime"=some (some (.ref cNP)))
    (q_Nought:W.nsIn K mainGlobals "Nought"=some (some (.ref cNN)))
    (q_Kind:W.nsIn K mainGlobals "Kind"=some (some (.ref cK)))
    (q_Rests:W.nsIn K mainGlobals "Rests"=some (some (.ref cR)))
    (pg_Rests:W.plainGet K cR Str.empty=true)
    (hd_Rests:W.hasDictIn K cR=true)
    (po_Rests:W.plainOver K cR=true)
    (sa_Rests:W.findIn K (.ref cR) "__setattr__"=some (some (.builtin "object.__setattr__")))
    (na_Rests_size:W.findIn K (.ref cR) "size"=some none)
    (fcm0:W.findCls K (.ref cK) (.type "type") "__init__"=some (.val (.ref fm0)))
    (lm0:K.lookup fm0=some ⟨ocm0,odm0,.func (W.fnOf "__init__" "Kind.__init__" (defArgs yYW) (defBody yYW) (defScope yYW) .none kVm0 dcm0 pmm0 anm0 cdm0 ctm0),slm0⟩)
    (cm0:W.codeIn K cdm0 "Kind.__init__"=true) (km0:W.keepIn K (.ref fm0)=true)
    (gam0:W.specialIn K (.ref cK) "__getattribute__"=some (some (.builtin "type.__getattribute__")))
    (rdm0:W.readsIn K cK (.type "type")=true)
    (gm1_Rests:W.findIn K (.ref cR) "plain"=some (some (.ref fm1)))
    (lm1:K.lookup fm1=some ⟨ocm1,odm1,.func (W.fnOf "plain" "Kind.plain" (defArgs yY2) (defBody yY2) (defScope yY2) .none kVm1 dcm1 pmm1 anm1 cdm1 ctm1),slm1⟩)
    (cm1:W.codeIn K cdm1 "Kind.plain"=true) (km1:W.keepIn K (.ref fm1)=true)
    (fnm1:W.isFn K (.ref fm1)=true)
    (gm2_Rests:W.findIn K (.ref cR) "less"=some (some (.ref fm2)))
    (lm2:K.lookup fm2=some ⟨ocm2,odm2,.func (W.fnOf "less" "Kind.less" (defArgs yYH) (defBody yYH) (defScope yYH) .none kVm2 dcm2 pmm2 anm2 cdm2 ctm2),slm2⟩)
    (cm2:W.codeIn K cdm2 "Kind.less"=true) (km2:W.keepIn K (.ref fm2)=true)
    (fnm2:W.isFn K (.ref fm2)=true)
    (gm3_Rests:W.findIn K (.ref cR) "over"=some (some (.ref fm3)))
    (lm3:K.lookup fm3=some ⟨ocm3,odm3,.func (W.fnOf "over" "Kind.over" (defArgs yYY) (defBody yYY) (defScope yYY) .none kVm3 dcm3 pmm3 anm3 cdm3 ctm3),slm3⟩)
    (cm3:W.codeIn K cdm3 "Kind.over"=true) (km3:W.keepIn K (.ref fm3)=true)
    (fnm3:W.isFn K (.ref fm3)=true)
    (fim4:W.findIn K (.ref cR) "__init__"=some (some (.ref fm4)))
    (lm4:K.lookup fm4=some ⟨ocm4,odm4,.func (W.fnOf "__init__" "Rests.__init__" (defArgs yY1) (defBody yY1) (defScope yY1) .none kVm4 dcm4 pmm4 anm4 cdm4 ctm4),slm4⟩)
    (cm4:W.codeIn K cdm4 "Rests.__init__"=true) (km4:W.keepIn K (.ref fm4)=true)
    (mkm4:W.makesIn K cR=true)
    (fnm4:W.isFn K (.ref fm4)=true)
    (kcm4:W.keepIn K (.ref cR)=true)
    (i0:W.kitOne K (.ref cHP) (.ref cFE)=some true)
    (i1:W.kitOne K (.ref cHP) (.type "ValueError")=some true)
    (i2:W.kitOne K (.ref cHP) (.ref cBA)=some false)
    (i3:W.kitOne K (.ref cHP) (.ref cBL)=some false)
    (i4:W.kitOne K (.ref cHP) (.ref cBP)=some false)
    (i5:W.kitOne K (.ref cHP) (.ref cBT)=some false)
    (i6:W.kitOne K (.ref cHP) (.ref cNO)=some false)
    (i7:W.kitOne K (.ref cHP) (.ref cNW)=some false)
    (i8:W.kitOne K (.ref cHP) (.ref cNP)=some false)
    (i9:W.kitOne K (.ref cHP) (.ref cNN)=some false)
    (yy0:W.exmOne K (.ref cHP) (.ref cHP)=some true),∃ fd:FuncData,(∀ (s:Shared) (v:Value),BindsTo s fd ⟨[v],[]⟩ [("_law_script",v)]) /\ ∀ base:Heap,K.In base -> base.Ns mainGlobals mg -> FnOk l.prog w K mg base CX0 12 fa fd ["_law_script"] (spLaw2 K)
theorem walk {l:PySem.W.OpenLaw} {q:Program} {loose:List Str} {XP:(Str -> Option Value) -> Heap -> Prop} {YP:World -> Heap -> Prop} {d:DefRec} {K:Params -> PySem.W.Frag} (hn:l.most=some 63) (hdf:d.params.defaults=[])
    (hY:∀ (w:World) (h:Heap),YP w h -> (K w.params).In h)
    (F:∀ (w:World) (mg:Str -> Option Value) (fa:Addr) (h:Heap),(K w.params).In h -> h.Ns mainGlobals mg -> mg d.name=some (.ref fa) ->
      ∃ fd:FuncData,(∀ (s:Shared) (u:Value),BindsTo s fd ⟨[u],[]⟩ [("_law_script",u)]) /\ ∀ base:Heap,(K w.params).In base -> base.Ns mainGlobals mg -> FnOk l.prog w (K w.params) mg base CX0 12 fa fd ["_law_script"] (spLaw2 (K w.params))) :
    PySem.W.WalkO q loose XP YP l.row.toRowW d [] (fun f vs=>PySem.call f vs) :=
  L2.qW3 (n:=63) (k:=12) (x:="_law_script") (CX:=fun _=>CX0) (sp:=fun w=>spLaw2 (K w.params)) hn (by decide) hdf ⟨rfl,by decide,by decide⟩ hY F (fun _ _ a ns hl hb hS=>⟨a,ns,rfl,hS,hl,hb,fun _=>rfl⟩) fun _ _ _ _ _ z=>z
end K45
section
local macro_rules | `(tactic| o_head $H) => `(tactic| (refine PySem.W.holds_open (q := K45.view) (loose := []) (Xt := fun s => PySem.W.xlAt K45.view [] s && PySem.W.recOk (PySem.W.RowW.records PySem.Challenge.rw_factorforge_k45_whole_no_paper_for_a_pro.row.toRowW) s) (XP := PySem.W.XL K45.view []) (Yf := PySem.W.Hook.obs $H) (Ya := PySem.W.Hook.val $H) (YP := PySem.W.Hook.says $H) (N := 20000) ?hl (PySem.W.Hook.of $H) (PySem.W.Hook.keeps $H) (fun s e => PySem.W.xl_of s (Bool.and_eq_true_iff.mp e).1) PySem.W.XL.keeps (by rfl) (by rfl) (by rfl) (fun s e => PySem.W.recFacts_of (Bool.and_eq_true_iff.mp e).2) (by rfl) (by first | assumption | decide +kernel) (by decide +kernel) ⟨rfl, rfl, rfl, rfl, rfl, by decide +kernel⟩ ?hw ?hc; (case hl => (intro w; exact K45.fin w (by kernel_rfl)))))
open PySem PySem.W PyProof.Rows
set_option maxRecDepth 100000 in
set_option maxHeartbeats 0 in
theorem K45.pre (AM:K45.AMk):PySem.Challenge.rw_factorforge_k45_whole_no_paper_for_a_pro.Holds:=by
  w_on; o_law; k_head; (rotate_left; rotate_right); (· w_witness2)
  k_fill
  refine K45.walk (l:=PySem.Challenge.rw_factorforge_k45_whole_no_paper_for_a_pro) rfl rfl (fun w h Y=>PySem.W.kIn_of Y) ?F
  case F =>
    intro w mg fa h KX G hmg
    refine' AM KX G hmg ?a0 ?l0 ?c0 ?k0 ?a1 ?l1 ?c1 ?k1 ?a2 ?l2 ?c2 ?k2 ?a3 ?l3 ?c3 ?k3 ?a4 ?l4 ?c4 ?k4 ?a5 ?l5 ?c5 ?k5 ?a6 ?l6 ?c6 ?k6 ?a7 ?l7 ?c7 ?k7 ?a8 ?l8 ?c8 ?k8 ?a9 ?l9 ?c9 ?k9 ?a10 ?l10 ?c10 ?k10 ?a11 ?l11 ?c11 ?k11 ?a12 ?l12 ?c12 ?k12 ?a13 ?l13 ?c13 ?k13 ?a14 ?l14 ?c14 ?k14 ?a15 ?l15 ?c15 ?k15 ?a16 ?l16 ?c16 ?k16 ?a17 ?l17 ?c17 ?k17 ?a18 ?l18 ?c18 ?k18 ?a19 ?l19 ?c19 ?k19 ?a20 ?l20 ?c20 ?k20 ?a21 ?l21 ?c21 ?k21 ?a22 ?l22 ?c22 ?k22 ?a23 ?l23 ?c23 ?k23 ?a24 ?l24 ?c24 ?k24 ?a25 ?l25 ?c25 ?k25 ?a26 ?l26 ?c26 ?k26 ?a27 ?l27 ?c27 ?k27 ?a28 ?l28 ?c28 ?k28 ?a29 ?l29 ?c29 ?k29 ?a30 ?l30 ?c30 ?k30 ?a31 ?l31 ?c31 ?k31 ?a32 ?l32 ?c32 ?k32 ?a33 ?l33 ?c33 ?k33 ?a34 ?l34 ?c34 ?k34 ?a35 ?l35 ?c35 ?k35 ?a36 ?l36 ?c36 ?k36 ?a37 ?l37 ?c37 ?k37 ?a38 ?l38 ?c38 ?k38 ?a39 ?l39 ?c39 ?k39 ?a40 ?l40 ?c40 ?k40 ?a41 ?l41 ?c41 ?k41 ?a42 ?l42 ?c42 ?k42 ?a43 ?l43 ?c43 ?k43 ?a44 ?l44 ?c44 ?k44 ?a45 ?l45 ?c45 ?k45 ?a46 ?l46 ?c46 ?k46 ?a47 ?l47 ?c47 ?k47 ?a48 ?l48 ?c48 ?k48 ?a49 ?l49 ?c49 ?k49 ?z0 ?z1 ?z2 ?z3 ?z4 ?z5 ?z6 ?z7 ?z8 ?y0 ?q_ForgeError ?q_HasParts ?e_HasParts ?ag_HasParts ?ak_HasParts ?ab_HasParts ?ad_HasParts ?aa_HasParts ?an_HasParts ?at_HasParts ?am_HasParts ?q_BadAsk ?q_BadLift ?q_BadProduct ?q_BadText ?q_NoOver ?e_NoOver ?q_NoPower ?q_NoPrime ?q_Nought ?q_Kind ?q_Rests ?pg_Rests ?hd_Rests ?po_Rests ?sa_Rests ?na_Rests_size ?fcm0 ?lm0 ?cm0 ?km0 ?gam0 ?rdm0 ?gm1_Rests ?lm1 ?cm1 ?km1 ?fnm1 ?gm2_Rests ?lm2 ?cm2 ?km2 ?fnm2 ?gm3_Rests ?lm3 ?cm3 ?km3 ?fnm3 ?fim4 ?lm4 ?cm4 ?km4 ?mkm4 ?fnm4 ?kcm4 ?i0 ?i1 ?i2 ?i3 ?i4 ?i5 ?i6 ?i7 ?i8 ?i9 ?yy0
    (case a0=>k_is)
    (case l0=>k_is)
    (case c0=>k_is)
    (case k0=>k_is)
    (case a1=>k_is)
    (case l1=>k_is)
    (case c1=>k_is)
    (case k1=>k_is)
    (case a2=>k_is)
    (case l2=>k_is)
    (case c2=>k_is)
    (case k2=>k_is)
    (case a3=>k_is)
    (case l3=>k_is)
    (case c3=>k_is)
    (case k3=>k_is)
    (case a4=>k_is)
    (case l4=>k_is)
    (case c4=>k_is)
    (case k4=>k_is)
    (case a5=>k_is)
    (case l5=>k_is)
    (case c5=>k_is)
    (case k5=>k_is)
    (case a6=>k_is)
    (case l6=>k_is)
    (case c6=>k_is)
    (case k6=>k_is)
    (case a7=>k_is)
    (case l7=>k_is)
    (case c7=>k_is)
    (case k7=>k_is)
    (case a8=>k_is)
    (case l8=>k_is)
    (case c8=>k_is)
    (case k8=>k_is)
    (case a9=>k_is)
    (case l9=>k_is)
    (case c9=>k_is)
    (case k9=>k_is)
    (case a10=>k_is)
    (case l10=>k_is)
    (case c10=>k_is)
    (case k10=>k_is)
    (case a11=>k_is)
    (case l11=>k_is)
    (case c11=>k_is)
    (case k11=>k_is)
    (case a12=>k_is)
    (case l12=>k_is)
    (case c12=>k_is)
    (case k12=>k_is)
    (case a13=>k_is)
    (case l13=>k_is)
    (case c13=>k_is)
    (case k13=>k_is)
    (case a14=>k_is)
    (case l14=>k_is)
    (case c14=>k_is)
    (case k14=>k_is)
    (case a15=>k_is)
    (case l15=>k_is)
    (case c15=>k_is)
    (case k15=>k_is)
    (case a16=>k_is)
    (case l16=>k_is)
    (case c16=>k_is)
    (case k16=>k_is)
    (case a17=>k_is)
    (case l17=>k_is)
    (case c17=>k_is)
    (case k17=>k_is)
    (case a18=>k_is)
    (case l18=>k_is)
    (case c18=>k_is)
    (case k18=>k_is)
    (case a19=>k_is)
    (case l19=>k_is)
    (case c19=>k_is)
    (case k19=>k_is)
    (case a20=>k_is)
    (case l20=>k_is)
    (case c20=>k_is)
    (case k20=>k_is)
    (case a21=>k_is)
    (case l21=>k_is)
    (case c21=>k_is)
    (case k21=>k_is)
    (case a22=>k_is)
    (case l22=>k_is)
    (case c22=>k_is)
    (case k22=>k_is)
    (case a23=>k_is)
    (case l23=>k_is)
    (case c23=>k_is)
    (case k23=>k_is)
    (case a24=>k_is)
    (case l24=>k_is)
    (case c24=>k_is)
    (case k24=>k_is)
    (case a25=>k_is)
    (case l25=>k_is)
    (case c25=>k_is)
    (case k25=>k_is)
    (case a26=>k_is)
    (case l26=>k_is)
    (case c26=>k_is)
    (case k26=>k_is)
    (case a27=>k_is)
    (case l27=>k_is)
    (case c27=>k_is)
    (case k27=>k_is)
    (case a28=>k_is)
    (case l28=>k_is)
    (case c28=>k_is)
    (case k28=>k_is)
    (case a29=>k_is)
    (case l29=>k_is)
    (case c29=>k_is)
    (case k29=>k_is)
    (case a30=>k_is)
    (case l30=>k_is)
    (case c30=>k_is)
    (case k30=>k_is)
    (case a31=>k_is)
    (case l31=>k_is)
    (case c31=>k_is)
    (case k31=>k_is)
    (case a32=>k_is)
    (case l32=>k_is)
    (case c32=>k_is)
    (case k32=>k_is)
    (case a33=>k_is)
    (case l33=>k_is)
    (case c33=>k_is)
    (case k33=>k_is)
    (case a34=>k_is)
    (case l34=>k_is)
    (case c34=>k_is)
    (case k34=>k_is)
    (case a35=>k_is)
    (case l35=>k_is)
    (case c35=>k_is)
    (case k35=>k_is)
    (case a36=>k_is)
    (case l36=>k_is)
    (case c36=>k_is)
    (case k36=>k_is)
    (case a37=>k_is)
    (case l37=>k_is)
    (case c37=>k_is)
    (case k37=>k_is)
    (case a38=>k_is)
    (case l38=>k_is)
    (case c38=>k_is)
    (case k38=>k_is)
    (case a39=>k_is)
    (case l39=>k_is)
    (case c39=>k_is)
    (case k39=>k_is)
    (case a40=>k_is)
    (case l40=>k_is)
    (case c40=>k_is)
    (case k40=>k_is)
    (case a41=>k_is)
    (case l41=>k_is)
    (case c41=>k_is)
    (case k41=>k_is)
    (case a42=>k_is)
    (case l42=>k_is)
    (case c42=>k_is)
    (case k42=>k_is)
    (case a43=>k_is)
    (case l43=>k_is)
    (case c43=>k_is)
    (case k43=>k_is)
    (case a44=>k_is)
    (case l44=>k_is)
    (case c44=>k_is)
    (case k44=>k_is)
    (case a45=>k_is)
    (case l45=>k_is)
    (case c45=>k_is)
    (case k45=>k_is)
    (case a46=>k_is)
    (case l46=>k_is)
    (case c46=>k_is)
    (case k46=>k_is)
    (case a47=>k_is)
    (case l47=>k_is)
    (case c47=>k_is)
    (case k47=>k_is)
    (case a48=>k_is)
    (case l48=>k_is)
    (case c48=>k_is)
    (case k48=>k_is)
    (case a49=>k_is)
    (case l49=>k_is)
    (case c49=>k_is)
    (case k49=>k_is)
    (case z0=>k_is)
    (case z1=>k_is)
    (case z2=>k_is)
    (case z3=>k_is)
    (case z4=>k_is)
    (case z5=>k_is)
    (case z6=>k_is)
    (case z7=>k_is)
    (case z8=>k_is)
    (case y0=>k_is)
    (case q_ForgeError=>k_is)
    (case q_HasParts=>k_is)
    (case e_HasParts=>k_exc)
    (case ag_HasParts=>k_is)
    (case ak_HasParts=>k_is)
    (case ab_HasParts=>k_is)
    (case ad_HasParts=>k_is)
    (case aa_HasParts=>k_is)
    (case an_HasParts=>k_is)
    (case at_HasParts=>k_is)
    (case am_HasParts=>k_is)
    (case q_BadAsk=>k_is)
    (case q_BadLift=>k_is)
    (case q_BadProduct=>k_is)
    (case q_BadText=>k_is)
    (case q_NoOver=>k_is)
    (case e_NoOver=>k_exc)
    (case q_NoPower=>k_is)
    (case q_NoPrime=>k_is)
    (case q_Nought=>k_is)
    (case q_Kind=>k_is)
    (case q_Rests=>k_is)
    (case pg_Rests=>k_is)
    (case hd_Rests=>k_is)
    (case po_Rests=>k_is)
    (case sa_Rests=>k_is)
    (case na_Rests_size=>k_is)
    (case fcm0=>k_is)
    (case lm0=>k_is)
    (case cm0=>k_is)
    (case km0=>k_is)
    (case gam0=>k_is)
    (case rdm0=>k_is)
    (case gm1_Rests=>k_is)
    (case lm1=>k_is)
    (case cm1=>k_is)
    (case km1=>k_is)
    (case fnm1=>k_is)
    (case gm2_Rests=>k_is)
    (case lm2=>k_is)
    (case cm2=>k_is)
    (case km2=>k_is)
    (case fnm2=>k_is)
    (case gm3_Rests=>k_is)
    (case lm3=>k_is)
    (case cm3=>k_is)
    (case km3=>k_is)
    (case fnm3=>k_is)
    (case fim4=>k_is)
    (case lm4=>k_is)
    (case cm4=>k_is)
    (case km4=>k_is)
    (case mkm4=>k_is)
    (case fnm4=>k_is)
    (case kcm4=>k_is)
    (case i0=>kit_is)
    (case i1=>kit_is)
    (case i2=>kit_is)
    (case i3=>kit_is)
    (case i4=>kit_is)
    (case i5=>kit_is)
    (case i6=>kit_is)
    (case i7=>kit_is)
    (case i8=>kit_is)
    (case i9=>kit_is)
    (case yy0=>kts_exm)
end
namespace K45
open PySem L2 L3 PyProof.Rows FM
local macro_rules | `(tactic| walk_at "pn0") => `(tactic| first | omega | (dsimp only; omega) | (dsimp only [List.length_cons, List.length_nil]; omega) | (simp [L2.gI, L2.start] <;> omega))
local macro_rules | `(tactic| walk_at "pn1") => `(tactic| first | exact tJ | rfl | assumption | decide | decide +kernel | exact L2.yHJ (by decide) | exact L2.yKU (by decide) | exact ⟨by decide, by decide +kernel⟩ | exact ⟨by decide, by decide, by decide⟩ | walk_at "pn0" | exact L2.yHJ ⟨by walk_at "pn0", by walk_at "pn0"⟩ | exact L2.yKU ⟨by walk_at "pn0", by walk_at "pn0"⟩)
local macro_rules | `(tactic| walk_at "pn") => `(tactic| first | (refine ⟨?_, ?_⟩ <;> walk_at "pn") | walk_at "pn1" | (intro _; walk_at "pn"))
local macro_rules | `(tactic| walk_at "xs1") => `(tactic| first | exact tJ | exact (rfl : _ = some _) | exact (rfl : L3.isI _ _) | exact (rfl : L3.isL _ _) | exact (rfl : L3.isF _ _) | exact (rfl : L3.isK _ _) | exact (rfl : L3.isO _ _) | exact (Or.inl rfl : L3.isLO _ _) | exact (Or.inr (Or.inl rfl) : L3.isLO _ _) | exact (Or.inr (Or.inr rfl) : L3.isLO _ _) | walk_at "pn1")
local macro_rules | `(tactic| walk_at "xs") => `(tactic| first | (refine And.intro ?_ ?_ <;> walk_at "xs") | walk_at "xs1")
section
variable {P:Program} {w:World} {K:PySem.W.Frag} {mg:Str -> Option Value} {base:Heap} {cFE cHP cBA cBL cBP cBT cNO cNW cNP cNN cK cR:Addr}
theorem zWQ (T:Top K mg cFE cHP cBA cBL cBP cBT cNO cNW cNP cNN cK cR):Ok P w K mg base 1 "is_prime" ["number"] (spB 1 yes F_P):=by
  refine Def.ok T.d_is_prime yU1 (fun vs H Q E h=>?_) (fun f cdv A outer s H vs Q E hr h=>?_)
  . obtain ⟨ns,hl,rfl,_⟩:=h
    rw [List.length_map,hl]; rfl
  obtain ⟨ns,hl,rfl,hp,k⟩:=h
  obtain ⟨n,rfl⟩:=len1 hl
  refine ⟨_,(pss_cons (zKV (pw_orP (qKU (yYJ 0) zZ6) (pw_or1P (jXW (yYJ 0) (qH5 (by rfl) T.g_LARGEST_PRIME)))).pt
 (pss_one (ps_ret pe_bl))
 pss_nil)
 (pss_cons (jJ6 (i:=1) yU1.nd rfl (Or.inl rfl) zZ6)
 (pss_cons (qQQ PassesOwn.never (jYV (jYW (yYJ 1) (yYJ 1)) (yYJ 0))
 (pss_cons (zKV (jJH (jX8 (yYJ 0) (yYJ 1)) zZ6)
 (pss_one (ps_ret pe_bl))
 pss_nil)
 (pss_one (qH9 (i:=1) yU1.nd rfl (Or.inl rfl) zZ6 zQQ))))
 (pss_one (ps_ret pe_bl))))),?_⟩
  have k:Q (.bl (isP n)) H:=k
  refine ⟨by walk_at "pn",fun h=>?_,fun h=>?_⟩
  . have h:n < 2 \/ 9973 < n:=h
    rw [zV6 (fun q=>by have:=q.1; have:=q.2.1; omega)] at k
    exact k
  have h:¬ (n < 2 \/ 9973 < n):=h
  refine ⟨by walk_at "pn",fun d0 e0=>?_⟩
  have e0:d0=2:=e0
  subst e0
  refine ⟨fun σ H'=>∃ d,σ=[some (.int n),some (.int d)] /\ H'=H /\ 2 <= d /\ d <= 10000 /\ Clean n d,fun σ _=>(10001 - gI σ 1).toNat,⟨2,rfl,rfl,by omega,by omega,fun e h1 h2=>by omega⟩,?_⟩
  rintro σ H' ⟨d,rfl,rfl,h2,h3,cl⟩
  refine ⟨⟨⟨rfl,rfl,yHJ ⟨?_,?_⟩⟩,rfl⟩,fun c=>?_,fun c=>?_⟩
  . show -(2:Int) ^ 64 < d
    omega
  . show d < (2:Int) ^ 64
    omega
  . have c:d * d <= n:=c
    have:=jV4 h2
    refine ⟨⟨⟨rfl,rfl,by show (0:Int) < d; omega⟩,tJ⟩,fun hit=>?_,fun hit=>?_⟩
    . have hit:n % d=0:=hit
      rw [zV6 (fun q=>q.2.2 d h2 c hit)] at k
      exact k
    . have hit:¬ n % d=0:=hit
      refine ⟨rfl,tJ,tJ,fun m e=>?_⟩
      have e:m=d + 1:=e
      subst e
      exact ⟨⟨d + 1,rfl,rfl,by omega,by omega,cl.next hit⟩,by show (10001 - (d + 1)).toNat < (10001 - d).toNat; omega⟩
  . have c:¬ d * d <= n:=c
    rw [zH6 (.out cl h2 (by omega) (by omega) c)] at k
    exact k
abbrev Gr (cR:Addr):Gx:=GkE (KR cR) (fun h s=>h.same s)
theorem gRE {cR:Addr} (H:Hp) (a dx:Addr) (p:Int) (hp:FM.IsP p) (h:H a=some (.ins cR dx [("size",.int p)])):(Gr cR).ob 0 H a p:=by
  have hm:∀ m ∈ kMeths,List.lookup m [("size",V.int p)]=none:=fun m hm=>by
    have key:∀ m ∈ kMeths,(m == ("size":Str))=false:=by decide +kernel
    rw [List.lookup_cons,key m hm]
    rfl
  exact .inl ⟨rfl,by have:=hp.1; omega,dx,_,h,rfl,hm⟩
def spRefuse:Sp:=fun vs H Q _=>∃ n:Int,vs=[.int n] /\ IsP n /\ Q .non H
theorem yUX (T:Top K mg cFE cHP cBA cBL cBP cBT cNO cNW cNP cNN cK cR):Ok P w K mg base 2 "refuse_no_prime" ["number"] spRefuse:=by
  refine Def.ok T.d_refuse_no_prime yUJ (fun vs H Q E h=>?_) (fun f cdv A outer s H vs Q E hr h=>?_)
  . obtain ⟨c,rfl,_⟩:=h
    rfl
  obtain ⟨n,rfl,hn,k⟩:=h
  refine ⟨_,(pss_one (zKV (qHZ (pt_V (jQU (zWQ T) hr (qV8 (yYJ 0) qHJ))))
 (pss_one ps_never)
 pss_nil)),?_⟩
  refine ⟨⟨⟨rfl,tJ⟩,tJ⟩,fun q=>?_,fun q=>?_⟩
  . have q:¬ isP n=true:=q
    exact (q (zH6 hn)).elim
  . exact k
def spKInit (K:PySem.W.Frag):Sp:=fun vs H Q _=>∃ (p C dx:Addr) (z:Int),vs=[.ref p,.int z] /\ H p=some (.ins C dx []) /\ Cls K C /\ NoAttr K C "size" /\ Q .non (upd H p (.ins C dx [("size",.int z)]))
theorem zV0 (T:Top K mg cFE cHP cBA cBL cBP cBT cNO cNW cNP cNN cK cR):OkC P w K mg base CX0 1 "Kind" cK "__init__" ["self","size"] (spKInit K):=by
  obtain ⟨f,fd,F,b,c⟩:=T.f_Kind_init
  refine ⟨f,fd,F.ok zXV (fun vs H Q E h=>?_) (fun cdv A outer s H vs Q E hr h=>?_),b,c,T.m_Kind⟩
  . obtain ⟨p,C,dx,z,rfl,_⟩:=h
    rfl
  obtain ⟨p,C,dx,z,rfl,hp,cl,na,k⟩:=h
  refine ⟨_,(pss_one (ps_fld (pv 0) (yYJ 1) rfl)),?_⟩
  exact ⟨rfl,_,rfl,p,C,dx,[],rfl,hp,cl,na,by decide,k⟩
theorem qWW (T:Top K mg cFE cHP cBA cBL cBP cBT cNO cNW cNP cNN cK cR):OkI P w K mg base CX0 3 "Rests" cR ["self","prime"] (spNewR cR):=by
  obtain ⟨f,fd,F,b,c⟩:=T.f_Rests_init
  refine ⟨f,fd,F.ok zY9 (fun vs H Q E h=>?_) (fun cdv A outer s H vs Q E hr h=>?_),b,c,T.m_Rests⟩
  . obtain ⟨x,dx,p,rfl,_⟩:=h
    rfl
  obtain ⟨x,dx,p,rfl,hp,hx,k⟩:=h
  refine ⟨_,(pss_cons (ps_expr (yUV (yUX T) hr (pa_cons (yYJ 1) pa_nil)))
 (pss_one (ps_expr (jQ5 (zV0 T) hr pass0 (pa_cons (pv 0) (pa_cons (yYJ 1) pa_nil)))))),?_⟩
  exact ⟨rfl,p,rfl,hp,_,rfl,rfl,x,cR,dx,p,rfl,hx,T.cl_Rests,T.na_Rests_size,k⟩
def qH6:Int -> List Int -> Int:=fun z ns=>match ns with
  | [n]=>pl z n
  | _=>0
abbrev anyK:Int -> List Int -> Prop:=fun _ _=>True
theorem yW8 (T:Top K mg cFE cHP cBA cBL cBP cBT cNO cNW cNP cNN cK cR):KM P w K mg base 1 (KR cR) "plain" 1 anyK qH6:=by
  refine ⟨fun H a z ka=>?_⟩
  obtain ⟨q0,dx,fs,e,hz,hm⟩:=ka
  refine ⟨cR,dx,fs,["self","number"],e,hm "plain" (by decide +kernel),?_⟩
  obtain ⟨f,fd,F,b,m1⟩:=T.f_Kind_plain
  refine ⟨f,fd,F.ok zX7 (fun vs H Q E h=>?_) (fun cdv A outer s H vs Q E hr h=>?_),b,m1,T.cl_Rests⟩
  . obtain ⟨ns,hl,rfl,_⟩:=h
    show (ns.map V.int).length + 1=2
    rw [List.length_map,hl]
  . obtain ⟨ns,hl,rfl,⟨_,dx',fs',e',hz',_⟩,_,k⟩:=h
    obtain ⟨n,rfl⟩:=len1 hl
    have k:Q (.int (pl z n)) H:=k
    rw [yX6 q0] at k
    refine ⟨_,(pss_one (ps_ret (pe_op op_mod (yYJ 1) (pe_fld (pv 0) rfl)))),?_⟩
    exact ⟨rfl,_,rfl,a,cR,dx',fs',_,rfl,e',T.cl_Rests,T.na_Rests_size,hz',_,_,rfl,rfl,q0,k⟩
theorem ksz (T:Top K mg cFE cHP cBA cBL cBP cBT cNO cNW cNP cNN cK cR):KSz K (Gr cR):=by
  refine ⟨fun H a z h=>?_⟩
  rcases h with ⟨_,h⟩ | ⟨h,_⟩
  . obtain ⟨_,dx,fs,e,hz,_⟩:=h
    exact ⟨cR,dx,fs,e,T.cl_Rests,T.na_Rests_size,hz⟩
  . exact absurd h (by decide)
def jYX:Int -> List Int -> Int:=fun z ns=>match ns with
  | [a,b]=>pl z (a - b)
  | _=>0
theorem qHQ (T:Top K mg cFE cHP cBA cBL cBP cBT cNO cNW cNP cNN cK cR):KM P w K mg base 2 (KR cR) "less" 2 anyK jYX:=by
  refine ⟨fun H a z ka=>?_⟩
  obtain ⟨q0,dx,fs,e,hz,hm⟩:=id ka
  obtain ⟨f,fd,Fu,b,m1⟩:=T.f_Kind_less
  refine ⟨cR,dx,fs,["self","a","b"],e,hm "less" (by decide +kernel),f,fd,Fu.ok zVH (fun vs H Q E h=>?_) (fun cdv A outer s H vs Q E hr h=>?_),b,m1,T.cl_Rests⟩
  . obtain ⟨ns,hl,rfl,_⟩:=h
    show (ns.map V.int).length + 1=3
    rw [List.length_map,hl]
  obtain ⟨ns,hl,rfl,ka2,_,k⟩:=h
  obtain ⟨x,y,rfl⟩:=len2 hl
  have k:Q (.int (pl z (x - y))) H:=k
  obtain ⟨C3,dx3,fs3,ps3,e3,l3,M3⟩:=(yW8 (P:=P) (w:=w) (base:=base) T).ex H a z ka2
  obtain ⟨f3,fd3,F3,b3,mm3,c3⟩:=M3.ex
  refine ⟨_,(pss_one (ps_ret (pe_meth (pv 0) c3 mm3 F3 hr b3 .nil pass0 (pa_cons (jXJ op_sub (yYJ 1) (yYJ 2)) pa_nil)))),?_⟩
  exact ⟨_,rfl,a,dx3,fs3,rfl,e3,l3,⟨rfl,rfl⟩,[x - y],rfl,rfl,ka2,tJ,k⟩
def preCell:List Int -> List Int -> Prop:=fun _ is=>match is with
  | [k]=>0 <= k
  | _=>False
def qKK:List Int -> List Int -> Int:=fun xs is=>match is with
  | [k]=>xs.getD k.toNat 0
  | _=>0
theorem zHV (T:Top K mg cFE cHP cBA cBL cBP cBT cNO cNW cNP cNN cK cR):Ok P w K mg base 1 "_law_cell_at" ["_law_script","_law_k"] (spS K 1 preCell qKK):=by
  refine Def.ok T.d_cell_at zHH (fun vs H Q E h=>?_) (fun f cdv A outer s H vs Q E hr h=>?_)
  . obtain ⟨a,xs,is,hl,rfl,_⟩:=h
    show (is.map V.int).length + 1=2
    rw [List.length_map,hl]
  obtain ⟨sa,ns,is,hl,rfl,hS,hp,k⟩:=h
  obtain ⟨i,rfl⟩:=len1 hl
  have hp:0 <= i:=hp
  have k:Q (.int (ns.getD i.toNat 0)) H:=k
  refine ⟨_,(pss_cons (zKV (qKU (yYJ 1) (jJX 0 sa (ns.map V.int) T.b_len))
 (pss_one (ps_ret (jZ0 0 sa ns (yYJ 1) (fun _ _=>rfl))))
 pss_nil)
 (pss_one (ps_ret zZ6))),?_⟩
  have el:(ns.map V.int).length=ns.length:=List.length_map _
  refine ⟨⟨rfl,⟨rfl,hS⟩⟩,fun q=>?_,fun q=>?_⟩
  . have q:i < ((ns.map V.int).length:Int):=q
    refine ⟨⟨rfl,rfl,hS,?_,?_⟩,?_⟩
    . show -(ns.length:Int) <= i
      omega
    . show i < (ns.length:Int)
      omega
    . show Q (.int (ns.getD (if 0 <= i then i else i + ns.length).toNat 0)) H
      rw [if_pos hp]
      exact k
  . have q:¬ i < ((ns.map V.int).length:Int):=q
    have e:ns.getD i.toNat 0=0:=by
      rw [gQ,List.getElem?_eq_none (by omega)]; rfl
    rw [e] at k
    exact ⟨tJ,k⟩
theorem yW0 (T:Top K mg cFE cHP cBA cBL cBP cBT cNO cNW cNP cNN cK cR):Ok P w K mg base 1 "_law_cell_at" ["_law_script","_law_k"] (spFI K (Gr cR) (L3.preS 1 preCell) fun as=>qKK (scrI as) (allI as.tail)):=liftS (zHV T)
theorem zJW {ns:List Int} (h:ns ≠ []) (h0:ns.getD (ns.length - 1) 0=0):trimZ ns.dropLast=trimZ ns:=by
  have e:ns=ns.dropLast ++ [0]:=by
    have e1:=List.dropLast_concat_getLast h
    have e2:ns.getLast h=0:=by
      rw [List.getLast_eq_getElem]
      rw [gQ,List.getElem?_eq_getElem (by have:=lP h; omega)] at h0
      exact h0
    rw [e2] at e1
    exact e1.symm
  rw [e,yH9,List.dropLast_concat]
theorem zJV {ns:List Int} (h:¬ (ns ≠ [] /\ ns.getD (ns.length - 1) 0=0)):trimZ ns=ns:=by
  by_cases c:ns=[]
  . rw [c]; rfl
  . have h0:¬ ns.getD (ns.length - 1) 0=0:=fun z=>h ⟨c,z⟩
    have e1:=List.dropLast_concat_getLast c
    have e2:ns.getLast c ≠ 0:=by
      rw [List.getLast_eq_getElem]
      rw [gQ,List.getElem?_eq_getElem (by have:=lP c; omega)] at h0
      exact h0
    rw [<- e1,zX9 _ e2]
theorem qJU (ns:List Int) (h:ns ≠ []):ixO ns.length (-1)=ns.length - 1:=by
  have:=lP h
  unfold ixO
  rw [if_neg (by omega)]
  omega
theorem yKV (T:Top K mg cFE cHP cBA cBL cBP cBT cNO cNW cNP cNN cK cR):Ok P w K mg base 1 "cut_noughts" ["numbers"] (spM (fun _=>True) trimZ):=by
  refine Def.ok T.d_cut_noughts zJ5 (fun vs H Q E h=>?_) (fun f cdv A outer s H vs Q E hr h=>?_)
  . obtain ⟨a,ns,rfl,_⟩:=h
    rfl
  obtain ⟨a,ns,rfl,hH,_,q⟩:=h
  refine ⟨_,(pss_one (ps_while PassesOwn.never (pw_and (pt_truth (pv 0) (fun _=>rfl)) (pw_and1 (pt_cmpR op_eq (jJ1 0 (jYJ zZ6) (fun _ _=>rfl)) zZ6 (nomark _)))).pt
 (pss_one (ps_expr (pe_bm0 PySem.F.plainAttrs_list PySem.F.slot_list_pop PySem.F.type_list_pop mt_pop (pv 0)))))),?_⟩
  refine ⟨fun m σ H'=>σ=[some (.ref a)] /\ ∃ ms,m=ms.length /\ H'=upd H a (.lst (ms.map V.int)) /\ trimZ ms=trimZ ns,⟨ns.length,rfl,ns,rfl,?_,rfl⟩,?_⟩
  . funext b
    by_cases c:b=a
    . rw [c,upd_same,hH]
    . rw [upd_ne c]
  rintro m σ H' ⟨rfl,ms,rfl,rfl,hm⟩
  refine ⟨_,rfl,_,.inl ⟨_,SqL.of upd_same,rfl⟩,?_⟩
  by_cases c:ms=[]
  . subst c
    refine iteF ?_
    refine iteF ?_
    refine q _ (fun b o hb e=>?_) ?_
    . rw [upd_ne hb]; exact e
    . rw [upd_same,<- hm]; rfl
  . have hlen:=lP c
    have e1:(!(ms.map V.int).isEmpty)=true:=by cases ms <;> simp at c ⊢
    rw [e1]
    refine iteT ?_
    refine ⟨tJ,a,ms,ms.getD (ms.length - 1) 0,rfl,SqL.of upd_same,?_,?_⟩
    . have z:=getD_at (ns:=ms) (i:=-1) (by omega) (by omega)
      show atI (ms.map V.int) (-1)=_
      rw [z,if_neg (by omega)]
      have:(-1 + (ms.length:Int)).toNat=ms.length - 1:=by omega
      rw [this]
    refine ⟨tJ,rfl,_,rfl,?_⟩
    by_cases d:ms.getD (ms.length - 1) 0=0
    . have e2:decide (V.int (ms.getD (ms.length - 1) 0)=V.int 0)=true:=decide_eq_true (by rw [d])
      rw [e2]
      refine iteT ?_
      refine ⟨fun σ H'=>σ=[some (.ref a)] /\ H'=upd H a (.lst (ms.dropLast.map V.int)),?_,?_⟩
      . rintro σ' H' ⟨rfl,rfl⟩
        refine ⟨ms.dropLast.length,by rw [List.length_dropLast]; omega,rfl,_,rfl,rfl,?_⟩
        rw [<- hm]; exact zJW c d
      . refine ⟨_,rfl,.inl ⟨rfl,_,SqL.of upd_same⟩,a,_,V.int (ms[ms.length - 1]'(by omega)),rfl,rfl,upd_same,?_,rfl,?_⟩
        . rw [List.length_map,List.getElem?_map,List.getElem?_eq_getElem (by omega)]
          rfl
        . rw [upd_upd,List.map_dropLast]
    . have e2:decide (V.int (ms.getD (ms.length - 1) 0)=V.int 0)=false:=decide_eq_false (by intro z; exact d (by injection z))
      rw [e2]
      refine iteF ?_
      refine q _ (fun b o hb e=>?_) ?_
      . rw [upd_ne hb]; exact e
      . rw [upd_same,<- hm,zJV fun z=>d z.2]
theorem yZ6 (T:Top K mg cFE cHP cBA cBL cBP cBT cNO cNW cNP cNN cK cR):Ok P w K mg base 2 "trimmed" ["kind","f"] (spL K (Gr cR) (fun as=>∃ z f,as=[.ob 0 z,.ints f] /\ f.length <= 1000) fun as=>match as with
    | [.ob 0 z,.ints f]=>trimZ (f.map (pl z))
    | _=>[]):=by
  refine okL T.d_trimmed zY4 (fun as ⟨a,b,h,_⟩=>by rw [h]; rfl) (fun f cdv A outer s H E hr=>⟨_,(yQ1 (qY6 (i:=2) zY4.nd rfl rfl (N':=["number","kind"]) (cap:=[some 0]) (yX3 rfl rfl rfl rfl ⟨⟨rfl,Or.inr (Or.inl rfl),(fun z=>nomatch (show (some NameKind.cell:Option NameKind)=some NameKind.local from z)),Or.inl rfl,_,rfl,rfl⟩,tJ⟩ ⟨rfl,tJ⟩ rfl) rfl (xl 1) (fun _ _ _=>(pg_name (i:=0) (show (["number","kind"]:List Str).Nodup by decide +kernel) rfl (Or.inl rfl) (.inr rfl))) (fun _ _ _=>(yK3 1 (yW8 T) hr (yQ0 (xn 0) yQ3))) rfl)
 (yQ1 (qYJ 2 (yKV T) hr)
 (yQ5 (zQV 2)))),fun as hp=>?_⟩)
  obtain ⟨z,f,rfl,hf⟩:=hp
  refine ⟨⟨rfl,hf,fun n _=>⟨rfl,⟨rfl,tJ⟩,tJ,tJ⟩⟩,fun ns e=>?_⟩
  have e:ns=f.map (pl z):=e
  refine ⟨rfl,tJ,rfl,?_⟩
  show trimZ ns=trimZ (f.map (pl z))
  rw [e]
def addL (f g:List Int):List Int:=(List.range (max f.length g.length)).map fun n=>f.getD n 0 + g.getD n 0
theorem yZ2 (f g:List Int) (n:Nat):(addL f g).getD n 0=f.getD n 0 + g.getD n 0:=by
  unfold addL
  by_cases h:n < max f.length g.length
  . rw [yQQ (by rw [List.length_map,List.length_range]; exact h),List.getElem_map,List.getElem_range]
  . rw [yQ6 (by rw [List.length_map,List.length_range]; omega),yQ6 (by omega),yQ6 (by omega)]
    rfl
theorem zUV (f:List Int) (k n:Nat):(f ++ List.replicate k 0).getD n 0=f.getD n 0:=by
  by_cases h:n < f.length
  . rw [yQQ (by rw [List.length_append]; omega),List.getElem_append_left h,yQQ h]
  . rw [yQ6 (xs:=f) (by omega)]
    by_cases h2:n < f.length + k
    . rw [yQQ (by rw [List.length_append,List.length_replicate]; exact h2),List.getElem_append_right (by omega),List.getElem_replicate]
    . rw [yQ6 (by rw [List.length_append,List.length_replicate]; omega)]
def SumAt (f g:List Int) (i:Nat) (row:List Int):Prop:=row.length=f.length + (g.length - f.length) /\ ∀ n,row.getD n 0=f.getD n 0 + if n < i then g.getD n 0 else 0
theorem qVW {f g row:List Int} {i:Nat} (h:SumAt f g i row) (hi:i < g.length):SumAt f g (i + 1) (row.set i (row.getD i 0 + g.getD i 0)):=by
  obtain ⟨hl,hr⟩:=h
  refine ⟨by rw [List.length_set]; exact hl,fun n=>?_⟩
  rw [yK2 _ _ _ _ (by omega)]
  by_cases c:n=i
  . subst c
    rw [if_pos rfl,hr,if_neg (by omega),if_pos (by omega)]
    omega
  . rw [if_neg c,hr]
    by_cases d:n < i
    . rw [if_pos d,if_pos (by omega)]
    . rw [if_neg d,if_neg (by omega)]
theorem jQ3 {z:Int} {f g row:List Int} (h:SumAt f g g.length row):Tz z row=Tz z (addL f g):=by
  refine qYQ fun n=>?_
  rw [h.2,yZ2]
  by_cases d:n < g.length
  . rw [if_pos d]
  . rw [if_neg d,yQ6 (xs:=g) (by omega)]
theorem qJ2 (T:Top K mg cFE cHP cBA cBL cBP cBT cNO cNW cNP cNN cK cR):Ok P w K mg base 3 "plus" ["kind","f","g"] (spL K (Gr cR) (fun as=>∃ z f g,as=[.ob 0 z,.ints f,.ints g] /\ f.length <= 500 /\ g.length <= 500) fun as=>match as with
    | [.ob 0 z,.ints f,.ints g]=>Tz z (addL f g)
    | _=>[]):=by
  refine okL T.d_plus zY8 (fun as ⟨a,b,c,h,_⟩=>by rw [h]; rfl) (fun f cdv A outer s H E hr=>⟨_,(yQ1 (yWK (i:=3) zY8.nd rfl (Or.inl rfl) (zQU (newL (yH8 T.b_list (xl 1) (fun _=>.inl rfl))) (newL (zQ6 (yZK (yQ0 yQ2 yQ3)) (yY5 (yJ2 2 T.b_len) (yJ2 1 T.b_len)) (fun _=>rfl)))))
 (yQ1 (zQZ (k:=4) (j:=5) PassesOwn.never rfl (by rfl) T.b_enumerate (xl 2) (pg_tup rfl (pgs_cons (pg_name (i:=4) zY8.nd rfl (Or.inl rfl)) (pgs_cons (pg_name (i:=5) zY8.nd rfl (Or.inl rfl)) pgs_nil)))
 (yQ5 (zVX 3 (xn 4) (xn 5) zQQ)))
 (yJ4 3 (yQ5 (yJ6 (xcl (yZ6 T) hr (yQ0 (xv 0) (yQ0 (xl 3) yQ3)))))))),fun as hp=>?_⟩)
  obtain ⟨z,f,g,rfl,hf,hg⟩:=hp
  have en:((g.length:Int) - (f.length:Int)).toNat=g.length - f.length:=by omega
  refine ⟨⟨rfl,⟨⟨⟨tJ,tJ⟩,tJ⟩,⟨.inl rfl,.inl rfl⟩,?_,?_⟩,?_⟩,fun r0 er0=>?_⟩
  . show -(2:Int) ^ 63 <= (g.length:Int) - (f.length:Int)
    omega
  . show ((g.length:Int) - (f.length:Int)).toNat <= 1000
    omega
  . refine Nat.le_of_lt (small1000 ?_)
    show f.length + (List.replicate ((g.length:Int) - (f.length:Int)).toNat (0:Int)).length <= 1000
    rw [List.length_replicate]
    omega
  have er0:r0=f ++ List.replicate (g.length - f.length) 0:=by rw [<- en]; exact er0
  refine ⟨rfl,fun i ρ=>∃ row v1 v2,ρ=[.fr (.ob 0 z),.fr (.ints f),.fr (.ints g),.ow (.ints row),v1,v2] /\ SumAt f g i row,⟨r0,.un,.un,rfl,?_⟩,?_,?_⟩
  . rw [er0]
    refine ⟨by rw [List.length_append,List.length_replicate],fun n=>?_⟩
    rw [zUV,if_neg (by omega),Int.add_zero]
  . rintro i n ρ hn ⟨row,v1,v2,rfl,hr⟩
    have hn:g[i]?=some n:=hn
    have hi:=qHX hn
    have l1:-(row.length:Int) <= (i:Int):=by omega
    have l2:(i:Int) < (row.length:Int):=by have:=hr.1; omega
    have ix:ixO row.length (i:Int)=i:=by unfold ixO; rw [if_pos (by omega)]; omega
    refine ⟨rfl,rfl,⟨l1,l2⟩,rfl,tJ,row.set i (row.getD i 0 + n),.fr (.int i),.fr (.int n),?_,?_⟩
    . show [Sl.fr (.ob 0 z),.fr (.ints f),.fr (.ints g),.ow (.ints (row.set (ixO row.length (i:Int)) (row.getD (ixO row.length (i:Int)) 0 + n))),.fr (.int i),.fr (.int n)]=_
      rw [ix]
    . have q:=qVW hr hi
      rw [getD_at' hn] at q
      exact q
  . rintro ρ ⟨row,v1,v2,rfl,hr⟩
    have hr:SumAt f g g.length row:=hr
    refine ⟨⟨⟨rfl,rfl,tJ⟩,z,row,rfl,?_⟩,?_⟩
    . rw [hr.1]; omega
    . show Tz z row=Tz z (addL f g)
      exact jQ3 hr
theorem zK4 (T:Top K mg cFE cHP cBA cBL cBP cBT cNO cNW cNP cNN cK cR):Ok P w K mg base 4 "less" ["kind","f","g"] (spL K (Gr cR) (fun as=>∃ z f g,as=[.ob 0 z,.ints f,.ints g] /\ f.length <= 500 /\ g.length <= 500) fun as=>match as with
    | [.ob 0 z,.ints f,.ints g]=>Tz z (addL f (g.map fun n=>-n))
    | _=>[]):=by
  refine okL T.d_less jJ7 (fun as ⟨a,b,c,h,_⟩=>by rw [h]; rfl) (fun f cdv A outer s H E hr=>⟨_,(yQ5 (yJ6 (xcl (qJ2 T) hr (yQ0 (xv 0) (yQ0 (xl 1) (yQ0 (newL (zKK (N':=["number"]) (cap:=[]) (yX3 rfl rfl rfl rfl tJ tJ rfl) rfl (xl 2) (fun _ _ _=>(pg_name (i:=0) (show (["number"]:List Str).Nodup by decide +kernel) rfl (Or.inl rfl) (.inr rfl))) (fun _ _ _=>(zQ3 (xn 0))))) yQ3)))))),fun as hp=>?_⟩)
  obtain ⟨z,f,g,rfl,hf,hg⟩:=hp
  refine ⟨⟨⟨rfl,rfl,⟨rfl,by show g.length <= 1000; omega,fun n _=>rfl⟩,tJ⟩,z,f,_,rfl,hf,?_⟩,rfl⟩
  show (g.map fun n=>-n).length <= 500
  rw [List.length_map]
  exact hg
theorem zZ7 (T:Top K mg cFE cHP cBA cBL cBP cBT cNO cNW cNP cNN cK cR):Ok P w K mg base 3 "scaled" ["kind","f","number"] (spL K (Gr cR) (fun as=>∃ z f n,as=[.ob 0 z,.ints f,.int n] /\ f.length <= 1000 /\ n.natAbs < 2 ^ 9000 /\ ∀ m ∈ f,m.natAbs < 2 ^ 9000) fun as=>match as with
    | [.ob 0 z,.ints f,.int n]=>Tz z (f.map fun m=>n * m)
    | _=>[]):=by
  refine okL T.d_scaled qYH (fun as ⟨a,b,c,h,_⟩=>by rw [h]; rfl) (fun f cdv A outer s H E hr=>⟨_,(yQ5 (yJ6 (xcl (yZ6 T) hr (yQ0 (xv 0) (yQ0 (newL (zKK (N':=["one","number"]) (cap:=[some 2]) (yX3 rfl rfl rfl rfl ⟨⟨rfl,Or.inr (Or.inl rfl),(fun z=>nomatch (show (some NameKind.cell:Option NameKind)=some NameKind.local from z)),Or.inl rfl,_,rfl,rfl⟩,tJ⟩ ⟨rfl,tJ⟩ rfl) rfl (xl 1) (fun _ _ _=>(pg_name (i:=0) (show (["one","number"]:List Str).Nodup by decide +kernel) rfl (Or.inl rfl) (.inr rfl))) (fun _ _ _=>(yX4 (xn 1) (xn 0))))) yQ3))))),fun as hp=>?_⟩)
  obtain ⟨z,f,n,rfl,hf,hn,hm⟩:=hp
  refine ⟨⟨⟨rfl,⟨rfl,hf,fun m hm'=>⟨rfl,rfl,yU9 (n:=9000) (m:=9000) hn (hm m hm')⟩⟩,tJ⟩,z,_,rfl,?_⟩,rfl⟩
  show (f.map fun m=>n * m).length <= 1000
  rw [List.length_map]
  exact hf
theorem Tz_b {z:Int} {f:List Int} (hz:0 <= z) (hz2:z < ((2 ^ 9000:Nat):Int)) (hf:∀ m ∈ f,m.natAbs < 2 ^ 9000):∀ m ∈ Tz z f,m.natAbs < 2 ^ 9000:=fun m hm=>by
  obtain ⟨k,hk,rfl⟩:=jJV hm
  exact qV9 hz hz2 (hf k hk)
theorem yKQ (T:Top K mg cFE cHP cBA cBL cBP cBT cNO cNW cNP cNN cK cR):Ok P w K mg base 3 "times" ["kind","f","g"] (spL K (Gr cR) (fun as=>∃ z f g,as=[.ob 0 z,.ints f,.ints g] /\ 0 <= z /\ z < ((2 ^ 9000:Nat):Int) /\ f.length + g.length <= 1000 /\ (∀ m ∈ f,m.natAbs < 2 ^ 9000) /\ (∀ m ∈ g,m.natAbs < 2 ^ 9000)) fun as=>match as with
    | [.ob 0 z,.ints f,.ints g]=>Tz z (convL (Tz z f) (Tz z g))
    | _=>[]):=by
  refine okL T.d_times yV3 (fun as ⟨a,b,c,h,_⟩=>by rw [h]; rfl) (fun f cdv A outer s H E hr=>⟨_,(yQ1 (yZ1 (i:=3) yV3.nd rfl (Or.inl rfl) (newL (xcl (yZ6 T) hr (yQ0 (xv 0) (yQ0 (xl 1) yQ3)))))
 (yQ1 (yZ1 (i:=4) yV3.nd rfl (Or.inl rfl) (newL (xcl (yZ6 T) hr (yQ0 (xv 0) (yQ0 (xl 2) yQ3)))))
 (yQ1 (yWK (i:=5) yV3.nd rfl (Or.inl rfl) (zQ6 (yZK (yQ0 yQ2 yQ3)) (yJY (yJ2 3 T.b_len) (yJ2 4 T.b_len)) (fun _=>rfl)))
 (yQ1 (zQZ (k:=6) (j:=7) PassesOwn.never rfl (by rfl) T.b_enumerate (xl 3) (pg_tup rfl (pgs_cons (pg_name (i:=6) yV3.nd rfl (Or.inl rfl)) (pgs_cons (pg_name (i:=7) yV3.nd rfl (Or.inl rfl)) pgs_nil)))
 (yQ5 (zQZ (k:=8) (j:=9) PassesOwn.never rfl (by rfl) T.b_enumerate (xl 4) (pg_tup rfl (pgs_cons (pg_name (i:=8) yV3.nd rfl (Or.inl rfl)) (pgs_cons (pg_name (i:=9) yV3.nd rfl (Or.inl rfl)) pgs_nil)))
 (yQ5 (zVX 5 (yJY (xn 6) (xn 8)) (yX4 (xn 7) (xn 9)) zQQ)))))
 (yJ4 5 (yQ5 (yJ6 (xcl (yZ6 T) hr (yQ0 (xv 0) (yQ0 (xl 5) yQ3)))))))))),fun as hp=>?_⟩)
  obtain ⟨z,f,g,rfl,hz,hz2,hl,hf,hg⟩:=hp
  refine ⟨⟨⟨rfl,rfl,tJ⟩,z,f,rfl,by omega⟩,fun fo efo=>?_⟩
  have efo:fo=Tz z f:=efo
  refine ⟨⟨⟨rfl,rfl,tJ⟩,z,g,rfl,by omega⟩,fun go ego=>?_⟩
  have ego:go=Tz z g:=ego
  have lf:fo.length <= f.length:=by rw [efo]; exact yJW _ _
  have lg:go.length <= g.length:=by rw [ego]; exact yJW _ _
  have bf:∀ m ∈ fo,m.natAbs < 2 ^ 9000:=by rw [efo]; exact Tz_b hz hz2 hf
  have bg:∀ m ∈ go,m.natAbs < 2 ^ 9000:=by rw [ego]; exact Tz_b hz hz2 hg
  have en:((fo.length:Int) + (go.length:Int)).toNat=fo.length + go.length:=by omega
  refine ⟨⟨⟨⟨tJ,tJ⟩,tJ⟩,⟨.inl rfl,.inl rfl⟩,?_,?_⟩,fun r0 er0=>?_⟩
  . show -(2:Int) ^ 63 <= (fo.length:Int) + (go.length:Int)
    omega
  . show ((fo.length:Int) + (go.length:Int)).toNat <= 1000
    omega
  have er0:r0=List.replicate (fo.length + go.length) 0:=by rw [<- en]; exact er0
  refine ⟨rfl,fun i ρ=>∃ row v1 v2 v3 v4,ρ=[.fr (.ob 0 z),.fr (.ints f),.fr (.ints g),.fr (.ints fo),.fr (.ints go),.ow (.ints row),v1,v2,v3,v4] /\ RowAt fo go i 0 row,⟨r0,.un,.un,.un,.un,rfl,by rw [er0]; exact zXU fo go⟩,?_,?_⟩
  . rintro i n ρ hn ⟨row,v1,v2,v3,v4,rfl,hr⟩
    have hn:fo[i]?=some n:=hn
    have hi:=qHX hn
    refine ⟨rfl,fun j ρ=>∃ row v3 v4,ρ=[.fr (.ob 0 z),.fr (.ints f),.fr (.ints g),.fr (.ints fo),.fr (.ints go),.ow (.ints row),.fr (.int i),.fr (.int n),v3,v4] /\ RowAt fo go i j row,⟨row,v3,v4,rfl,hr⟩,?_,?_⟩
    . rintro j m ρ hm ⟨row,v3,v4,rfl,hr⟩
      have hm:go[j]?=some m:=hm
      have hj:=qHX hm
      have l1:-(row.length:Int) <= (i:Int) + (j:Int):=by omega
      have l2:(i:Int) + (j:Int) < (row.length:Int):=by have:=hr.1; omega
      have ix:ixO row.length ((i:Int) + (j:Int))=i + j:=by unfold ixO; rw [if_pos (by omega)]; omega
      refine ⟨rfl,⟨rfl,rfl⟩,⟨l1,l2⟩,⟨rfl,rfl,?_⟩,tJ,row.set (i + j) (row.getD (i + j) 0 + n * m),.fr (.int j),.fr (.int m),?_,?_⟩
      . exact yU9 (n:=9000) (m:=9000) (bf n (qK9 hn)) (bg m (qK9 hm))
      . rw [<- ix]; rfl
      . have q:=zH5 hr hi hj
        rw [getD_at' hn,getD_at' hm] at q
        exact q
    . rintro ρ ⟨row,v3,v4,rfl,hr⟩
      exact ⟨row,_,_,v3,v4,rfl,zU1 hr⟩
  . rintro ρ ⟨row,v1,v2,v3,v4,rfl,hr⟩
    have er:=row_end hr
    refine ⟨⟨⟨rfl,rfl,tJ⟩,z,row,rfl,?_⟩,?_⟩
    . rw [hr.1]; omega
    . show trimZ (row.map (pl z))=_
      rw [er,efo,ego]
      rfl
theorem zHQ (T:Top K mg cFE cHP cBA cBL cBP cBT cNO cNW cNP cNN cK cR):Ok P w K mg base 3 "slope" ["kind","f"] (spL K (Gr cR) (fun as=>∃ z f,as=[.ob 0 z,.ints f] /\ f.length <= 1000) fun as=>match as with
    | [.ob 0 z,.ints f]=>trimZ (((f.mapIdx fun k n=>(k:Int) * n).drop 1).map (pl z))
    | _=>[]):=by
  refine okL T.d_slope qWJ (fun as ⟨a,b,h,_⟩=>by rw [h]; rfl) (fun f cdv A outer s H E hr=>⟨_,(yQ5 (yJ6 (xcl (yZ6 T) hr (yQ0 (xv 0) (yQ0 (newL (yV6 (newL (qUK (N':=["at","number"]) (cap:=[]) (yX3 rfl rfl rfl rfl tJ tJ rfl) rfl (by rfl) T.b_enumerate (xl 1) (fun _ _ _=>(pg_tup rfl (pgs_cons (pg_name (i:=0) (show (["at","number"]:List Str).Nodup by decide +kernel) rfl (Or.inl rfl) (.inr rfl)) (pgs_cons (pg_name (i:=1) (show (["at","number"]:List Str).Nodup by decide +kernel) rfl (Or.inl rfl) (.inr rfl)) pgs_nil)))) (fun _ _ _=>(yX4 (xn 0) (xn 1))))) (yJX yQ2) yVJ (fun _ _=>.inl rfl))) yQ3))))),fun as hp=>?_⟩)
  obtain ⟨z,f,rfl,hf⟩:=hp
  refine ⟨⟨⟨rfl,⟨⟨⟨rfl,hf,fun k n e=>⟨rfl,rfl,?_⟩⟩,tJ,tJ⟩,tJ⟩⟩,z,_,rfl,?_⟩,?_⟩
  . have hk:k < f.length:=(List.getElem?_eq_some_iff.mp e).1
    exact yKU ⟨by show -(2:Int) ^ 64 < (k:Int); omega,by show (k:Int) < (2:Int) ^ 64; omega⟩
  . refine Nat.le_trans (yH3 _ _ _) ?_
    rw [List.length_mapIdx]
    exact hf
  . show trimZ ((cutI (f.mapIdx fun k n=>(k:Int) * n) (some ((1:Nat):Int)) none).map (pl z))=_
    rw [yUY]
    rfl
open Classical in
def tu (n z:Int):Int:=if h:∃ x:Int,0 <= x /\ x < z /\ x * n % z=1 then Classical.choose h else 0
theorem qKH {n z x:Int} (hz:2 <= z) (h0:0 <= x) (h1:x < z) (h2:x * n % z=1):tu n z=x:=by
  have ex:∃ x:Int,0 <= x /\ x < z /\ x * n % z=1:=⟨x,h0,h1,h2⟩
  have e:tu n z=Classical.choose ex:=by unfold tu; rw [dif_pos ex]
  obtain ⟨y0,y1,y2⟩:=Classical.choose_spec ex
  rw [e]
  generalize Classical.choose ex=y at y0 y1 y2
  have a1:(y * (x * n)) % z=y:=by
    rw [Int.mul_emod,h2,Int.mul_one,Int.emod_emod,Int.emod_eq_of_lt y0 y1]
  have a2:(x * (y * n)) % z=x:=by
    rw [Int.mul_emod,y2,Int.mul_one,Int.emod_emod,Int.emod_eq_of_lt h0 h1]
  exact (a1.symm.trans (by rw [Int.mul_left_comm y x n])).trans a2
theorem qZ2 {n z:Int} (hz:2 <= z) (h:∃ x:Int,0 <= x /\ x < z /\ x * n % z=1):0 <= tu n z /\ tu n z < z /\ tu n z * n % z=1:=by
  obtain ⟨x,h0,h1,h2⟩:=h
  rw [qKH hz h0 h1 h2]
  exact ⟨h0,h1,h2⟩
theorem jZZ {n z:Int} (hz:2 <= z) (h:Int.gcd n z=1):∃ x:Int,0 <= x /\ x < z /\ x * n % z=1:=by
  have run:∀ (m:Nat) (b r sb s:Int),r.toNat <= m -> Eu n z b r sb s -> ∃ x:Int,0 <= x /\ x < z /\ x * n % z=1:=by
    intro m
    induction m with
    | zero =>
      intro b r sb s hm I
      have:=I.r0
      have e:r=0:=by omega
      subst e
      have gc:=I.end
      exact ⟨sb % z,Int.emod_nonneg _ (by omega),Int.emod_lt_of_pos _ (by omega),I.one hz (by omega)⟩
    | succ m ih =>
      intro b r sb s hm I
      by_cases c:r=0
      . subst c
        have gc:=I.end
        exact ⟨sb % z,Int.emod_nonneg _ (by omega),Int.emod_lt_of_pos _ (by omega),I.one hz (by omega)⟩
      . have I2:=I.step c
        have:=I2.rb
        have:=I2.r0
        have:=I.r0
        exact ih _ _ _ _ (by omega) I2
  exact run _ _ _ _ _ (Nat.le_refl _) (Eu.start hz)
def F_tu (C:Addr):List PV -> Rs:=fun as=>match as with
  | [.int n,.int z]=>if Int.gcd n z=1 then .val (.int (tu n z)) else .err C
  | _=>.err C
theorem small9 {x z:Int} (h:(x.natAbs:Int) <= z) (hz:z.natAbs < 2 ^ 9000):x.natAbs < 2 ^ 9000:=by
  generalize 2 ^ 9000=B at *
  omega
theorem qZH (T:Top K mg cFE cHP cBA cBL cBP cBT cNO cNW cNP cNN cK cR):OkE P w K mg base 1 "turned" ["number","size"] (spE K (Gr cR) (fun as=>∃ n z,as=[.int n,.int z] /\ 2 <= z /\ z.natAbs < 2 ^ 9000) (F_tu cNO)):=by
  refine okE T.d_turned yZU (fun as ⟨n,z,h,_⟩=>by rw [h]; rfl) (fun f cdv A outer s H E hr=>⟨_,(yQ1 (yQ9 (i:=2) yZU.nd rfl (Or.inl rfl) (xn 1))
 (yQ1 (yQ9 (i:=3) yZU.nd rfl (Or.inl rfl) (yZ4 (xn 0) (xn 1)))
 (yQ1 (yQ9 (i:=4) yZU.nd rfl (Or.inl rfl) yQ2)
 (yQ1 (yQ9 (i:=5) yZU.nd rfl (Or.inl rfl) yQ2)
 (yQ1 (yW3 PassesOwn.leaving (qJH (xn 3) yQ2)
 (yQ1 (yQ9 (i:=6) yZU.nd rfl (Or.inl rfl) (yVW (xn 2) (xn 3)))
 (yQ1 (yQ9 (i:=7) yZU.nd rfl (Or.inl rfl) (yY5 (xn 2) (yX4 (xn 6) (xn 3))))
 (yQ1 (yQ9 (i:=8) yZU.nd rfl (Or.inl rfl) (yY5 (xn 4) (yX4 (xn 6) (xn 5))))
 (yQ1 (yQ9 (i:=2) yZU.nd rfl (Or.inl rfl) (xn 3))
 (yQ1 (yQ9 (i:=3) yZU.nd rfl (Or.inl rfl) (xn 7))
 (yQ1 (yQ9 (i:=4) yZU.nd rfl (Or.inl rfl) (xn 5))
 (yQ5 (yQ9 (i:=5) yZU.nd rfl (Or.inl rfl) (xn 8))))))))))
 (yQ1 (yY3 (qJH (xn 2) yQ2)
 (yQ5 (zZV newE rfl T.x_NoOver (by rfl) T.m_NoOver (yQ0 qXV yQ3)))
 yZJ)
 (yQ5 (yQX (yZ4 (xn 4) (xn 1)))))))))),fun as hp=>?_⟩)
  obtain ⟨n,z,rfl,hz,hz9⟩:=hp
  refine ⟨rfl,fun b0 e0=>?_⟩
  have e0:b0=z:=e0
  subst e0
  refine ⟨⟨rfl,rfl,by show 0 < b0; omega⟩,fun r0 er=>?_⟩
  have er:r0=n % b0:=er
  refine ⟨tJ,fun z0 ez=>?_⟩
  have ez:z0=0:=ez
  subst ez
  refine ⟨tJ,fun o0 eo=>?_⟩
  have eo:o0=1:=eo
  subst eo
  refine ⟨fun ρ=>∃ b r sb s o rb sbh,ρ=[.fr (.int n),.fr (.int b0),.fr (.int b),.fr (.int r),.fr (.int sb),.fr (.int s),o,rb,sbh] /\ Eu n b0 b r sb s,fun ρ=>(getI ρ 3).toNat,⟨b0,r0,0,1,.un,.un,.un,rfl,by rw [er]; exact Eu.start hz⟩,?_⟩
  rintro ρ ⟨b,r,sb,s,o,rb,sbh,rfl,I⟩
  have sm:=I.id
  have sbz:=I.bz
  have rlt:=I.rb
  have rnn:=I.r0
  have s9:s.natAbs < 2 ^ 9000:=small9 (z:=b0) (by
    have h1:(s.natAbs:Int) * 1 <= (s.natAbs:Int) * b:=Int.mul_le_mul_of_nonneg_left (by omega) (by omega)
    have h2:0 <= (sb.natAbs:Int) * r:=Int.mul_nonneg (by omega) rnn
    omega) hz9
  have r9:r.natAbs < 2 ^ 9000:=small9 (z:=b0) (by omega) hz9
  refine ⟨⟨rfl,tJ⟩,fun c=>?_,fun c=>?_⟩
  . have c:¬ r=0:=c
    have q0:0 <= b / r:=Int.ediv_nonneg (by omega) (by omega)
    have q1:b / r <= b:=Int.ediv_le_self _ (by omega)
    have q9:(b / r).natAbs < 2 ^ 9000:=small9 (z:=b0) (by omega) hz9
    refine ⟨⟨rfl,rfl,by show 0 < r; omega,(Nat.log2_lt (by show r.natAbs ≠ 0; omega)).mpr r9⟩,fun q eq=>?_⟩
    have eq:q=b / r:=eq
    subst eq
    refine ⟨⟨rfl,rfl,rfl,yU9 q9 r9⟩,fun r1 e1=>?_⟩
    refine ⟨⟨rfl,rfl,rfl,yU9 q9 s9⟩,fun s1 e2=>?_⟩
    have f1:r1=b - b / r * r:=e1
    have f2:s1=sb - b / r * s:=e2
    clear e1 e2
    refine ⟨rfl,fun b' eb=>?_⟩
    have eb:b'=r:=eb
    subst eb
    refine ⟨rfl,fun r2 e3=>?_⟩
    have e3:r2=r1:=e3
    subst e3
    refine ⟨rfl,fun s2 e4=>?_⟩
    have e4:s2=s:=e4
    subst e4
    refine ⟨rfl,fun s3 e5=>?_⟩
    have e5:s3=s1:=e5
    subst e5
    have I2:=I.step c
    rw [<- f1,<- f2] at I2
    refine ⟨⟨_,_,_,_,_,_,_,rfl,I2⟩,?_⟩
    show r2.toNat < b'.toNat
    have:=I2.rb
    have:=I2.r0
    omega
  . have c:¬ ¬ r=0:=c
    have c:r=0:=by omega
    subst c
    have gc:=I.end
    refine ⟨⟨rfl,tJ⟩,fun hb=>?_,fun hb=>?_⟩
    . have hb:¬ b=1:=hb
      refine ⟨⟨tJ,tJ⟩,?_⟩
      show F_tu cNO [.int n,.int b0]=.err cNO
      show (if Int.gcd n b0=1 then _ else _)=_
      rw [if_neg (by omega)]
    . have hb:¬ ¬ b=1:=hb
      have hb:b=1:=by omega
      refine ⟨⟨rfl,rfl,by show 0 < b0; omega⟩,?_⟩
      show F_tu cNO [.int n,.int b0]=.val (.int (sb % b0))
      show (if Int.gcd n b0=1 then _ else _)=_
      rw [if_pos (by omega),qKH hz (Int.emod_nonneg _ (by omega)) (Int.emod_lt_of_pos _ (by omega)) (I.one hz hb)]
theorem zZY (z a b:Int):pl z a=pl z b ↔ z ∣ a - b:=by
  unfold pl
  split
  . rename_i h
    subst h
    rw [Int.zero_dvd]
    omega
  . rw [Int.emod_eq_emod_iff_emod_sub_eq_zero,Int.dvd_iff_emod_eq_zero]
theorem zXZ {z a b:Int} (ha:pl z a=a) (hb:pl z b=b) (h:z ∣ a - b):a=b:=by rw [<- ha,<- hb]; exact (zZY z a b).mpr h
theorem yJ1 (z a:Int):z ∣ pl z a - a:=(zZY z _ _).mp (yUZ z a)
def lastI (xs:List Int):Int:=xs.getD (xs.length - 1) 0
theorem yUQ {z:Int} {f:Nat -> Int}:∀ {N:Nat},(∀ j,j < N -> z ∣ f j) -> z ∣ sm N f
  | 0,_=>Int.dvd_zero z
  | N + 1,h=>Int.dvd_add (yUQ fun j hj=>h j (by omega)) (h N (by omega))
theorem qU3 {z:Int} {f:Nat -> Int} {i:Nat}:∀ {N:Nat},i < N -> (∀ j,j < N -> j ≠ i -> z ∣ f j) -> z ∣ sm N f - f i
  | 0,h,_=>by omega
  | N + 1,h,k=>by
    show z ∣ sm N f + f N - f i
    by_cases c:i=N
    . subst c
      have e:sm i f + f i - f i=sm i f:=by omega
      rw [e]
      exact yUQ fun j hj=>k j (by omega) (by omega)
    . have e:sm N f + f N - f i=(sm N f - f i) + f N:=by omega
      rw [e]
      exact Int.dvd_add (qU3 (by omega) fun j hj hne=>k j (by omega) hne) (k N (by omega) (by omega))
theorem qKY {f g:Nat -> Int} {k:Nat}:∀ {N:Nat},(∀ i,i < N -> i ≠ k -> f i=g i) -> sm N f=sm N g + if k < N then f k - g k else 0
  | 0,_=>by show (0:Int)=0 + _; rw [if_neg (by omega)]; rfl
  | N + 1,h=>by
    show sm N f + f N=sm N g + g N + _
    rw [qKY (f:=f) (g:=g) (k:=k) fun i hi hne=>h i (by omega) hne]
    by_cases c:k=N
    . subst c
      rw [if_neg (by omega),if_pos (by omega)]
      omega
    . rw [h N (by omega) (by omega)]
      by_cases d:k < N
      . rw [if_pos d,if_pos (by omega)]; omega
      . rw [if_neg d,if_neg (by omega)]; omega
theorem qUQ {z:Int} {E d:List Int} {i:Nat} (hd:0 < d.length) (up:∀ j,i < j -> z ∣ E.getD j 0):z ∣ cm E d (i + (d.length - 1)) - E.getD i 0 * lastI d:=by
  have h:=qU3 (z:=z) (f:=fun j=>E.getD j 0 * d.getD (i + (d.length - 1) - j) 0) (i:=i) (N:=i + (d.length - 1) + 1) (by omega) fun j hj hne=>by
    rcases Nat.lt_or_gt_of_ne hne with c | c
    . show z ∣ E.getD j 0 * d.getD (i + (d.length - 1) - j) 0
      rw [yQ6 (show d.length <= i + (d.length - 1) - j by omega),Int.mul_zero]
      exact Int.dvd_zero z
    . exact Int.dvd_mul_of_dvd_left (up j c)
  have e:i + (d.length - 1) - i=d.length - 1:=by omega
  rw [e] at h
  exact h
theorem topE {z:Int} {E d:List Int} {S:Nat} (hd:0 < d.length) (nz:∀ x,z ∣ x * lastI d -> z ∣ x) (h:∀ n,S + (d.length - 1) <= n -> z ∣ cm E d n):∀ i,S <= i -> z ∣ E.getD i 0:=by
  have key:∀ k i,S <= i -> E.length <= i + k -> z ∣ E.getD i 0:=by
    intro k
    induction k with
    | zero=>intro i _ hk; rw [yQ6 (by omega)]; exact Int.dvd_zero z
    | succ k ih =>
      intro i hi hk
      have one:=qUQ (z:=z) (E:=E) hd (i:=i) fun j hj=>ih j (by omega) (by omega)
      refine nz _ ?_
      have:=Int.dvd_sub (h (i + (d.length - 1)) (by omega)) one
      rw [Int.sub_sub_self] at this
      exact this
  exact fun i hi=>key E.length i hi (by omega)
theorem jJU {q d:List Int} {g:Nat} {c:Int} (hg:g < q.length) (h0:q.getD g 0=0) (n:Nat):cm (q.set g c) d n=cm q d n + if g <= n then c * d.getD (n - g) 0 else 0:=by
  unfold cm
  rw [qKY (f:=fun i=>(q.set g c).getD i 0 * d.getD (n - i) 0) (g:=fun i=>q.getD i 0 * d.getD (n - i) 0) (k:=g) fun i hi hne=>by
    show (q.set g c).getD i 0 * d.getD (n - i) 0=_
    rw [yK2 _ _ _ _ hg,if_neg hne]]
  congr 1
  by_cases k:g < n + 1
  . rw [if_pos k,if_pos (by omega)]
    show (q.set g c).getD g 0 * d.getD (n - g) 0 - q.getD g 0 * d.getD (n - g) 0=_
    rw [yK2 _ _ _ _ hg,if_pos rfl,h0]
    omega
  . rw [if_neg k,if_neg (by omega)]
def subL (a b:List Int):List Int:=(List.range (max a.length b.length)).map fun i=>a.getD i 0 - b.getD i 0
theorem yWQ (a b:List Int) (n:Nat):(subL a b).getD n 0=a.getD n 0 - b.getD n 0:=by
  unfold subL
  by_cases h:n < max a.length b.length
  . rw [yQQ (by rw [List.length_map,List.length_range]; exact h),List.getElem_map,List.getElem_range]
  . rw [yQ6 (by rw [List.length_map,List.length_range]; omega),yQ6 (xs:=a) (by omega),yQ6 (xs:=b) (by omega)]; rfl
theorem zJZ (f g:Nat -> Int):∀ N,sm N (fun i=>f i - g i)=sm N f - sm N g
  | 0=>rfl
  | N + 1=>by
    show sm N (fun i=>f i - g i) + (f N - g N)=sm N f + f N - (sm N g + g N)
    rw [zJZ f g N]
    omega
theorem qZ7 (a b d:List Int) (n:Nat):cm (subL a b) d n=cm a d n - cm b d n:=by
  unfold cm
  rw [<- zJZ]
  exact yQ7 fun i _=>by rw [yWQ,Int.sub_mul]
theorem yKY {xs:List Int} {L:Nat} (hf:InForm xs) (h:∀ n,L <= n -> xs.getD n 0=0):xs.length <= L:=by
  by_cases c:xs.length <= L
  . exact c
  . exact absurd (h (xs.length - 1) (by omega)) (hf fun e=>by rw [e] at c; exact c (Nat.zero_le _))
def nextR (z:Int) (d r:List Int) (c:Int):List Int:=trimZ ((List.range r.length).map fun n=>if r.length - d.length <= n then pl z (r.getD n 0 - c * d.getD (n - (r.length - d.length)) 0) else r.getD n 0)
theorem zZK {z:Int} {d r:List Int} {c:Int} (hd:d.length <= r.length) (n:Nat):(nextR z d r c).getD n 0=if r.length - d.length <= n then pl z (r.getD n 0 - c * d.getD (n - (r.length - d.length)) 0) else r.getD n 0:=by
  unfold nextR
  rw [zQ9]
  by_cases h:n < r.length
  . rw [yQQ (by rw [List.length_map,List.length_range]; exact h),List.getElem_map,List.getElem_range]
  . rw [yQ6 (by rw [List.length_map,List.length_range]; omega),if_pos (by omega),yQ6 (xs:=r) (by omega),yQ6 (xs:=d) (by omega),Int.mul_zero,Int.sub_zero,pl_0]
def dvN (z:Int) (ov:Int -> Int -> Option Int) (d:List Int):Nat -> List Int -> List Int -> Option (List Int × List Int)
  | 0,q,r=>some (q,r)
  | n + 1,q,r=>if r.length < d.length then some (q,r) else match ov (lastI r) (lastI d) with
    | none=>none
    | some c=>dvN z ov d n (q.set (r.length - d.length) c) (nextR z d r c)
structure DInv (z:Int) (f d q r:List Int):Prop where
  eq:∀ n,z ∣ cm q d n + r.getD n 0 - f.getD n 0
  rr:∀ n,pl z (r.getD n 0)=r.getD n 0
  rf:InForm r
  qr:∀ n,pl z (q.getD n 0)=q.getD n 0
  ql:q.length=f.length + 1 - d.length
  rl:r.length <= f.length
  q0:∀ n,n + d.length <= r.length -> q.getD n 0=0
  qt:r.length < f.length -> q.getD (f.length - d.length) 0 ≠ 0
theorem DInv.start {z:Int} {f d:List Int} (hf:InForm f) (hr:∀ n,pl z (f.getD n 0)=f.getD n 0):DInv z f d (List.replicate (f.length + 1 - d.length) 0) f:=by
  have g0:∀ n,(List.replicate (f.length + 1 - d.length) (0:Int)).getD n 0=0:=fun n=>by
    by_cases h:n < f.length + 1 - d.length
    . rw [yQQ (by rw [List.length_replicate]; exact h),List.getElem_replicate]
    . rw [yQ6 (by rw [List.length_replicate]; omega)]
  refine ⟨fun n=>?_,hr,hf,fun n=>?_,List.length_replicate,Nat.le_refl _,fun n _=>g0 n,fun h=>absurd h (Nat.lt_irrefl _)⟩
  . have e:cm (List.replicate (f.length + 1 - d.length) 0) d n=0:=yXU fun i _=>by rw [g0,Int.zero_mul]
    rw [e]
    have:(0:Int) + f.getD n 0 - f.getD n 0=0:=by omega
    rw [this]
    exact Int.dvd_zero z
  . rw [g0,pl_0]
theorem DInv.step {z:Int} {f d q r:List Int} {c:Int} (I:DInv z f d q r) (hd:0 < d.length) (hl:d.length <= r.length) (hc:pl z (c * lastI d)=lastI r) (hp:pl z c=c):DInv z f d (q.set (r.length - d.length) c) (nextR z d r c) /\ (nextR z d r c).length < r.length:=by
  have hg:r.length - d.length < q.length:=by rw [I.ql]; have:=I.rl; omega
  have h0:q.getD (r.length - d.length) 0=0:=I.q0 _ (by omega)
  have rne:r ≠ []:=fun e=>by rw [e] at hl; exact absurd hl (by show ¬ d.length <= 0; omega)
  have l0:lastI r ≠ 0:=I.rf rne
  have hc2:c ≠ 0:=fun e=>by
    rw [e,Int.zero_mul,pl_0] at hc
    exact l0 hc.symm
  have hlen:(nextR z d r c).length < r.length:=by
    have:(nextR z d r c).length <= r.length - 1:=by
      refine yKY (yWV _) fun n hn=>?_
      rw [zZK hl,if_pos (by omega)]
      by_cases k:n=r.length - 1
      . subst k
        have e1:r.length - 1 - (r.length - d.length)=d.length - 1:=by omega
        rw [e1]
        show pl z (lastI r - c * lastI d)=0
        rw [<- pl_0 z]
        refine (zZY z _ _).mpr ?_
        have h1:=yJ1 z (c * lastI d)
        rw [hc] at h1
        rw [Int.sub_zero]
        exact h1
      . rw [yQ6 (xs:=r) (by omega),yQ6 (xs:=d) (by omega),Int.mul_zero,Int.sub_zero,pl_0]
    omega
  refine ⟨⟨fun n=>?_,fun n=>?_,yWV _,fun n=>?_,by rw [List.length_set]; exact I.ql,by have:=I.rl; omega,fun n hn=>?_,fun _=>?_⟩,hlen⟩
  . rw [jJU hg h0,zZK hl]
    have e:=I.eq n
    by_cases k:r.length - d.length <= n
    . rw [if_pos k,if_pos k]
      have p:=yJ1 z (r.getD n 0 - c * d.getD (n - (r.length - d.length)) 0)
      have s:=Int.dvd_add e p
      generalize pl z (r.getD n 0 - c * d.getD (n - (r.length - d.length)) 0)=u at s ⊢
      generalize c * d.getD (n - (r.length - d.length)) 0=v at s ⊢
      have q:cm q d n + v + u - f.getD n 0=cm q d n + r.getD n 0 - f.getD n 0 + (u - (r.getD n 0 - v)):=by omega
      rw [q]
      exact s
    . rw [if_neg k,if_neg k,Int.add_zero]
      exact e
  . rw [zZK hl]
    split
    . exact yUZ z _
    . exact I.rr n
  . rw [yK2 _ _ _ _ hg]
    split
    . exact hp
    . exact I.qr n
  . rw [yK2 _ _ _ _ hg,if_neg (by omega)]
    exact I.q0 n (by omega)
  . rw [yK2 _ _ _ _ hg]
    split
    . exact hc2
    . have:=I.rl
      exact I.qt (by omega)
theorem qJQ {z:Int} {ov:Int -> Int -> Option Int} {f d:List Int} (hd:0 < d.length) (hov:∀ a c,pl z a=a -> ov a (lastI d)=some c -> pl z (c * lastI d)=a /\ pl z c=c):∀ (fuel:Nat) (q r:List Int),DInv z f d q r -> r.length < fuel ->
    (∀ Q R,dvN z ov d fuel q r=some (Q,R) -> DInv z f d Q R /\ R.length < d.length) /\ (dvN z ov d fuel q r=none -> ∃ q' r',DInv z f d q' r' /\ d.length <= r'.length /\ ov (lastI r') (lastI d)=none)
  | 0,_,_,_,h=>by omega
  | n + 1,q,r,I,h=>by
    unfold dvN
    by_cases c:r.length < d.length
    . rw [if_pos c]
      refine ⟨fun Q R e=>?_,fun e=>by cases e⟩
      cases e
      exact ⟨I,c⟩
    . rw [if_neg c]
      cases o:ov (lastI r) (lastI d) with
      | none=>exact ⟨(fun Q R e=>by cases e),fun _=>⟨q,r,I,by omega,o⟩⟩
      | some x =>
        obtain ⟨h1,h2⟩:=hov (lastI r) x (I.rr _) o
        obtain ⟨J,hl⟩:=I.step hd (by omega) h1 h2
        exact qJQ hd hov n _ _ J (by omega)
def TakeAt (z:Int) (d r:List Int) (c:Int) (i:Nat) (row:List Int):Prop:=row.length=r.length /\ ∀ n,row.getD n 0=if r.length - d.length <= n /\ n - (r.length - d.length) < i then pl z (r.getD n 0 - c * d.getD (n - (r.length - d.length)) 0) else r.getD n 0
theorem zHW (z:Int) (d r:List Int) (c:Int):TakeAt z d r c 0 r:=⟨rfl,fun n=>by rw [if_neg (by omega)]⟩
theorem qXW {z:Int} {d r row:List Int} {c:Int} {i:Nat} (h:TakeAt z d r c i row) (hl:d.length <= r.length) (hi:i < d.length):TakeAt z d r c (i + 1) (row.set (r.length - d.length + i) (pl z (row.getD (r.length - d.length + i) 0 - c * d.getD i 0))):=by
  obtain ⟨h1,h2⟩:=h
  refine ⟨by rw [List.length_set]; exact h1,fun n=>?_⟩
  rw [yK2 _ _ _ _ (by omega)]
  by_cases k:n=r.length - d.length + i
  . subst k
    rw [if_pos rfl,if_pos (by omega),h2,if_neg (by omega),show r.length - d.length + i - (r.length - d.length)=i by omega]
  . rw [if_neg k,h2]
    by_cases q:r.length - d.length <= n /\ n - (r.length - d.length) < i
    . rw [if_pos q,if_pos (by omega)]
    . rw [if_neg q,if_neg (by omega)]
theorem qVJ {z:Int} {d r row:List Int} {c:Int} (h:TakeAt z d r c d.length row) (hl:d.length <= r.length):trimZ row=nextR z d r c:=by
  unfold nextR
  refine zU6 fun n=>?_
  rw [h.2 n]
  by_cases k:n < r.length
  . rw [yQQ (xs:=(List.range r.length).map _) (by rw [List.length_map,List.length_range]; exact k),List.getElem_map,List.getElem_range]
    by_cases q:r.length - d.length <= n
    . rw [if_pos ⟨q,by omega⟩,if_pos q]
    . rw [if_neg (by omega),if_neg q]
  . rw [yQ6 (xs:=(List.range r.length).map _) (by rw [List.length_map,List.length_range]; omega),if_neg (by omega),yQ6 (by omega)]
theorem yZ0 (z:Int) (f:List Int):InForm (Tz z f):=yWV _
theorem yX7 (z:Int) (f:List Int) (n:Nat):pl z ((Tz z f).getD n 0)=(Tz z f).getD n 0:=by rw [yZX,yUZ]
theorem zXQ (ns:List Int) (h:0 < ns.length):ns.getD (ixO ns.length (-1)) 0=lastI ns:=by
  have e:ixO ns.length (-1)=ns.length - 1:=by
    unfold ixO
    rw [if_neg (by omega)]
    omega
  rw [e]
  rfl
theorem zQ8 (f g:Nat -> Int):∀ N,sm N (fun i=>f i + g i)=sm N f + sm N g
  | 0=>rfl
  | N + 1=>by
    show sm N (fun i=>f i + g i) + (f N + g N)=sm N f + f N + (sm N g + g N)
    rw [zQ8 f g N]
    omega
theorem yVZ (l:Int) (f:Nat -> Int):∀ n,sm n (fun i=>l * f i)=l * sm n f
  | 0=>(Int.mul_zero l).symm
  | n + 1=>by
    show sm n (fun i=>l * f i) + l * f n=l * (sm n f + f n)
    rw [yVZ l f n,Int.mul_add]
theorem yWZ (o:Int) (q d:List Int) (i:Nat):cm (o :: q) d i=o * d.getD i 0 + if i=0 then 0 else cm q d (i - 1):=by
  unfold cm
  rw [yV1]
  have e1:((o :: q).getD 0 0:Int)=o:=rfl
  rw [e1,Nat.sub_zero]
  congr 1
  by_cases c:i=0
  . subst c; rfl
  . rw [if_neg c]
    obtain ⟨k,rfl⟩:∃ k,i=k + 1:=⟨i - 1,by omega⟩
    refine yQ7 fun j hj=>?_
    have e2:((o :: q).getD (j + 1) 0:Int)=q.getD j 0:=rfl
    have e3:k + 1 - (j + 1)=k - j:=by omega
    have e4:k + 1 - 1 - j=k - j:=by omega
    show (o :: q).getD (j + 1) 0 * d.getD (k + 1 - (j + 1)) 0=q.getD j 0 * d.getD (k + 1 - 1 - j) 0
    rw [e2,e3,e4]
theorem yYZ (d:List Int) (n:Nat):cm [] d n=0:=yXU fun i _=>by
  show ([]:List Int).getD i 0 * _=0
  rw [yQ6 (Nat.zero_le _),Int.zero_mul]
theorem zW9 {f g:List Int} (h:∀ n,f.getD n 0=0) (n:Nat):cm f g n=0:=yXU fun i _=>by rw [h i,Int.zero_mul]
theorem zZ9 {f f' g g':List Int} (h:∀ n,f.getD n 0=f'.getD n 0) (k:∀ n,g.getD n 0=g'.getD n 0) (n:Nat):cm f g n=cm f' g' n:=yQ7 fun i _=>by rw [h,k]
theorem qH2 {a u g h:List Int} {o:Int} (ha:∀ i,a.getD i 0=o * g.getD i 0 + if i=0 then 0 else u.getD (i - 1) 0) (n:Nat):cm a h n=o * cm g h n + if n=0 then 0 else cm u h (n - 1):=by
  unfold cm
  have e:sm (n + 1) (fun i=>a.getD i 0 * h.getD (n - i) 0)=sm (n + 1) fun i=>o * (g.getD i 0 * h.getD (n - i) 0) + (if i=0 then 0 else u.getD (i - 1) 0) * h.getD (n - i) 0:=yQ7 fun i _=>by rw [ha,Int.add_mul,Int.mul_assoc]
  rw [e,zQ8,yVZ]
  congr 1
  rw [yV1]
  have e0:(if (0:Nat)=0 then (0:Int) else u.getD (0 - 1) 0) * h.getD (n - 0) 0=0:=by rw [if_pos rfl,Int.zero_mul]
  rw [e0,Int.zero_add]
  by_cases c:n=0
  . subst c; rfl
  . rw [if_neg c]
    obtain ⟨k,rfl⟩:∃ k,n=k + 1:=⟨n - 1,by omega⟩
    refine yQ7 fun j _=>?_
    have e3:k + 1 - (j + 1)=k + 1 - 1 - j:=by omega
    show (if j + 1=0 then 0 else u.getD (j + 1 - 1) 0) * h.getD (k + 1 - (j + 1)) 0=_
    rw [if_neg (by omega),e3]
    rfl
theorem yJ5 (g h:List Int):∀ (f:List Int) (n:Nat),cm (convL f g) h n=cm f (convL g h) n
  | [],n=>by
    rw [yYZ,zW9]
    intro i
    rw [yQ4,yYZ]
  | o :: q,n=>by
    rw [yWZ,qH2 (u:=convL q g) (g:=g) (o:=o) (fun i=>by
      rw [yQ4,yWZ]
      congr 1
      by_cases c:i=0
      . rw [if_pos c,if_pos c]
      . rw [if_neg c,if_neg c,yQ4])]
    rw [yQ4]
    congr 1
    by_cases c:n=0
    . rw [if_pos c,if_pos c]
    . rw [if_neg c,if_neg c,yJ5 g h q]
def mu (f g:List Int):List Int:=trimZ (convL f g)
def EqM (p:Int) (d a b:List Int):Prop:=∃ Q:List Int,∀ n,p ∣ a.getD n 0 - b.getD n 0 - cm Q d n
theorem EqM.refl (p:Int) (d a:List Int):EqM p d a a:=⟨[],fun n=>by rw [yYZ,Int.sub_self]; exact Int.dvd_zero p⟩
theorem EqM.of {p:Int} {d a b:List Int} (h:∀ n,p ∣ a.getD n 0 - b.getD n 0):EqM p d a b:=⟨[],fun n=>by rw [yYZ,Int.sub_zero]; exact h n⟩
theorem yWU (a b d:List Int) (n:Nat):cm (addL a b) d n=cm a d n + cm b d n:=by
  unfold cm
  rw [<- zQ8]
  exact yQ7 fun i _=>by rw [yZ2,Int.add_mul]
theorem jX6 (a d:List Int) (n:Nat):cm (a.map fun x=>-x) d n = -cm a d n:=by
  have h:=yVZ (-1) (fun i=>a.getD i 0 * d.getD (n - i) 0) (n + 1)
  unfold cm
  rw [Int.neg_one_mul] at h
  rw [<- h]
  exact yQ7 fun i _=>by rw [yJU _ (by decide),Int.neg_one_mul,Int.neg_mul]
theorem EqM.symm {p:Int} {d a b:List Int} (h:EqM p d a b):EqM p d b a:=by
  obtain ⟨Q,h⟩:=h
  refine ⟨Q.map fun x=>-x,fun n=>?_⟩
  rw [jX6]
  have e:b.getD n 0 - a.getD n 0 - -cm Q d n = -(a.getD n 0 - b.getD n 0 - cm Q d n):=by omega
  rw [e]
  exact Int.dvd_neg.mpr (h n)
theorem EqM.trans {p:Int} {d a b c:List Int} (h:EqM p d a b) (k:EqM p d b c):EqM p d a c:=by
  obtain ⟨Q,h⟩:=h
  obtain ⟨S,k⟩:=k
  refine ⟨addL Q S,fun n=>?_⟩
  rw [yWU]
  have e:a.getD n 0 - c.getD n 0 - (cm Q d n + cm S d n)=(a.getD n 0 - b.getD n 0 - cm Q d n) + (b.getD n 0 - c.getD n 0 - cm S d n):=by omega
  rw [e]
  exact Int.dvd_add (h n) (k n)
theorem yHY {p:Int} {a b c:List Int} (h:∀ n,p ∣ a.getD n 0 - b.getD n 0) (n:Nat):p ∣ cm a c n - cm b c n:=by
  rw [<- qZ7]
  exact yUQ fun i _=>by
    show p ∣ (subL a b).getD i 0 * c.getD (n - i) 0
    rw [yWQ]
    exact Int.dvd_mul_of_dvd_left (h i)
theorem EqM.mul {p:Int} {d a b:List Int} (h:EqM p d a b) (c:List Int):EqM p d (convL a c) (convL b c):=by
  obtain ⟨Q,h⟩:=h
  refine ⟨convL Q c,fun n=>?_⟩
  have k:=yHY (p:=p) (a:=subL a b) (b:=convL Q d) (c:=c) (fun i=>by rw [yWQ,yQ4]; exact h i) n
  rw [qZ7] at k
  have e:cm (convL Q c) d n=cm (convL Q d) c n:=by
    rw [yJ5,yJ5]
    exact zZ9 (fun _=>rfl) (fun i=>by rw [yQ4,yQ4,yQK]) n
  rw [yQ4,yQ4,e]
  exact k
theorem EqM.comm (p:Int) (d a b:List Int):EqM p d (convL a b) (convL b a):=.of fun n=>by
  rw [yQ4,yQ4,yQK,Int.sub_self]
  exact Int.dvd_zero p
theorem EqM.mul2 {p:Int} {d a b c e:List Int} (h:EqM p d a b) (k:EqM p d c e):EqM p d (convL a c) (convL b e) :=
  (h.mul c).trans (((EqM.comm p d b c).trans (k.mul b)).trans (EqM.comm p d e b))
theorem EqM.assoc (p:Int) (d a b c:List Int):EqM p d (convL (convL a b) c) (convL a (convL b c)):=.of fun n=>by
  rw [yQ4,yQ4,yJ5,Int.sub_self]
  exact Int.dvd_zero p
theorem EqM.Tz (p:Int) (d a:List Int):EqM p d a (FM.Tz p a):=.of fun n=>by
  rw [yZX]
  have:=yJ1 p (a.getD n 0)
  have e:a.getD n 0 - pl p (a.getD n 0) = -(pl p (a.getD n 0) - a.getD n 0):=by omega
  rw [e]
  exact Int.dvd_neg.mpr this
theorem EqM.one (p:Int) (d a:List Int):EqM p d (convL a [1]) a:=.of fun n=>by
  rw [yQ4,yQK,yWZ]
  by_cases c:n=0
  . rw [if_pos c,Int.one_mul,Int.add_zero,Int.sub_self]; exact Int.dvd_zero p
  . rw [if_neg c,yYZ,Int.one_mul,Int.add_zero,Int.sub_self]; exact Int.dvd_zero p
structure IsR (p:Int) (d r:List Int):Prop where
  form:InForm r
  red:∀ n,pl p (r.getD n 0)=r.getD n 0
  len:r.length < d.length
theorem yUW {p:Int} {d r s:List Int} (nz:∀ x,p ∣ x * lastI d -> p ∣ x) (hr:IsR p d r) (hs:IsR p d s) (h:EqM p d r s):r=s:=by
  obtain ⟨Q,h⟩:=h
  have hd:0 < d.length:=Nat.lt_of_le_of_lt (Nat.zero_le _) hr.len
  have l1:=hr.len
  have l2:=hs.len
  have top:=topE (z:=p) (E:=Q) (S:=0) hd nz fun n hn=>by
    have:=h n
    rw [yQ6 (xs:=r) (by omega),yQ6 (xs:=s) (by omega)] at this
    have e:(0:Int) - 0 - cm Q d n = -cm Q d n:=by omega
    rw [e] at this
    exact Int.dvd_neg.mp this
  refine yV2 hr.form hs.form fun n=>zXZ (hr.red n) (hs.red n) ?_
  have k:=h n
  have c:p ∣ cm Q d n:=yUQ fun i _=>Int.dvd_mul_of_dvd_left (top i (Nat.zero_le _))
  have e:r.getD n 0 - s.getD n 0=(r.getD n 0 - s.getD n 0 - cm Q d n) + cm Q d n:=by omega
  rw [e]
  exact Int.dvd_add k c
open Classical in
def rm (p:Int) (d a:List Int):List Int:=if h:∃ r,IsR p d r /\ EqM p d a r then Classical.choose h else []
theorem qQ1 {p:Int} {d a r:List Int} (nz:∀ x,p ∣ x * lastI d -> p ∣ x) (hr:IsR p d r) (h:EqM p d a r):rm p d a=r:=by
  have ex:∃ r,IsR p d r /\ EqM p d a r:=⟨r,hr,h⟩
  have e:rm p d a=Classical.choose ex:=by unfold rm; rw [dif_pos ex]
  obtain ⟨h1,h2⟩:=Classical.choose_spec ex
  rw [e]
  exact yUW nz h1 hr (h2.symm.trans h)
def pw (a:List Int):Nat -> List Int
  | 0=>[1]
  | k + 1=>convL (pw a k) a
theorem pw_mod {p:Int} {d a b:List Int} (h:EqM p d a b):∀ k,EqM p d (pw a k) (pw b k)
  | 0=>.refl p d [1]
  | k + 1=>(pw_mod h k).mul2 h
theorem pw_sq (p:Int) (d a:List Int):∀ k,EqM p d (pw (convL a a) k) (pw a (2 * k))
  | 0=>.refl p d [1]
  | k + 1=>by
    have e:2 * (k + 1)=2 * k + 1 + 1:=by omega
    rw [e]
    show EqM p d (convL (pw (convL a a) k) (convL a a)) (convL (convL (pw a (2 * k)) a) a)
    exact ((pw_sq p d a k).mul _).trans (EqM.assoc p d _ a a).symm
theorem pw_even {p:Int} {d P S S':List Int} {h:Nat} (hS:EqM p d S' (convL S S)):EqM p d (convL P (pw S' h)) (convL P (pw S (2 * h))) :=
  (EqM.refl p d P).mul2 ((pw_mod hS h).trans (pw_sq p d S h))
def preO:Int -> List Int -> Prop:=fun z ns=>match ns with
  | [a,b]=>2 <= z /\ z.natAbs < 2 ^ 9000 /\ a.natAbs < 2 ^ 9000
  | _=>False
def F_O (C:Addr):Int -> List Int -> Int ⊕ Addr:=fun z ns=>match ns with
  | [a,b]=>if Int.gcd b z=1 then .inl (pl z (a * tu b z)) else .inr C
  | _=>.inr C
theorem FO_r {C:Addr} {z x y:Int} (g:Int.gcd y z=1):F_O C z [x,y]=.inl (pl z (x * tu y z)):=if_pos g
theorem FO_e {C:Addr} {z x y:Int} (g:¬ Int.gcd y z=1):F_O C z [x,y]=.inr C:=if_neg g
theorem zX8 (T:Top K mg cFE cHP cBA cBL cBP cBT cNO cNW cNP cNN cK cR):KME P w K mg base 2 (KR cR) "over" 2 preO (F_O cNO):=by
  refine ⟨fun H a z ka=>?_⟩
  obtain ⟨q0,dx,fs,e,hz,hm⟩:=id ka
  obtain ⟨f,fd,Fu,b,m1⟩:=T.f_Kind_over
  refine ⟨cR,dx,fs,["self","a","b"],e,hm "over" (by decide +kernel),f,fd,?_,b,m1,T.cl_Rests⟩
  obtain ⟨oc,od,kV,doc,pm,an,cdv,ct,osl,rfl,lk,hcd⟩:=Fu.ex
  refine fn_of lk hcd zV8 (fun vs H Q E h=>?_) fun A outer s H vs Q E hr h=>?_
  . obtain ⟨ns,hl,rfl,_⟩:=h
    show (ns.map V.int).length + 1=3
    rw [List.length_map,hl]
  obtain ⟨ns,hl,rfl,ka2,hp,k,ke⟩:=h
  obtain ⟨x,y,rfl⟩:=len2 hl
  obtain ⟨hz2,h9,hx⟩:=hp
  obtain ⟨_,dx2,fs2,e2,hz',_⟩:=id ka2
  obtain ⟨C3,dx3,fs3,ps3,e3,l3,M3⟩:=(yW8 (P:=P) (w:=w) (base:=base) T).ex H a z ka2
  obtain ⟨f3,fd3,F3,b3,mm3,c3⟩:=M3.ex
  refine ⟨_,(pss_one (ps_ret (pe_meth (pv 0) c3 mm3 F3 hr b3 .nil pass0 (pa_cons (pe_op zWZ (yYJ 1) (zYW (qZH T) passE hr (pa_cons (yYJ 2) (pa_cons (pe_fld (pv 0) rfl) pa_nil)))) pa_nil)))),?_⟩
  refine ⟨_,rfl,a,dx3,fs3,rfl,e3,l3,rfl,rfl,_,rfl,a,cR,dx2,fs2,_,rfl,e2,T.cl_Rests,T.na_Rests_size,hz',[.int y,.int z],fun _=>false,(fun _ z=>by cases z),⟨_,_,rfl,rfl,_,_,rfl,rfl,rfl⟩,⟨y,z,rfl,hz2,h9⟩,fun p hp v H1 s1 a1=>?_,fun er her H1 s1=>?_⟩
  . have hp:F_tu cNO [.int y,.int z]=.val p:=hp
    by_cases g:Int.gcd y z=1
    . rw [show F_tu cNO [.int y,.int z]=.val (.int (tu y z)) from if_pos g] at hp
      cases hp
      have a1:v=.int (tu y z):=a1
      subst a1
      obtain ⟨t0,t1,_⟩:=qZ2 hz2 (jZZ hz2 g)
      have tb:(tu y z).natAbs < 2 ^ 9000:=by
        generalize 2 ^ 9000=B at *
        omega
      refine ⟨x,tu y z,rfl,rfl,yU9 (n:=9000) (m:=9000) hx tb,[x * tu y z],rfl,rfl,ka2.same s1,tJ,?_⟩
      exact k _ (FO_r g) H1 s1
    . rw [show F_tu cNO [.int y,.int z]=.err cNO from if_neg g] at hp
      cases hp
  . have her:F_tu cNO [.int y,.int z]=.err er:=her
    by_cases g:Int.gcd y z=1
    . rw [show F_tu cNO [.int y,.int z]=.val (.int (tu y z)) from if_pos g] at her
      cases her
    . rw [show F_tu cNO [.int y,.int z]=.err cNO from if_neg g] at her
      cases her
      exact ke cNO (FO_e g) H1 s1
def ovp (z a b:Int):Option Int:=some (pl z (a * tu b z))
theorem hov {z b:Int} (z2:2 <= z) (g:Int.gcd b z=1) (a c:Int) (ha:pl z a=a) (h:ovp z a b=some c):pl z (c * b)=a /\ pl z c=c:=by
  have e:=Option.some.inj h
  subst e
  obtain ⟨_,_,t⟩:=qZ2 z2 (jZZ z2 g)
  refine ⟨?_,yUZ _ _⟩
  rw [zKU]
  have e1:pl z (a * tu b z * b)=pl z (a * pl z (tu b z * b)):=by rw [pl_mul',Int.mul_assoc]
  rw [e1,yX6 (n:=tu b z * b) (by omega),t,Int.mul_one,ha]
def dvT (z:Int) (fo d:List Int):Option (List Int × List Int):=dvN z (ovp z) d (fo.length + 1) (List.replicate (fo.length + 1 - d.length) 0) fo
def dvF (z:Int) (fo d:List Int):PV:=match dvT z fo d with
  | none=>.non
  | some p=>.tup [.ints p.1,.ints p.2]
structure DOk (p:Int) (g:List Int):Prop where
  pr:IsP p
  len:g.length <= 200
  ne:Tz p g ≠ []
  gcd:Int.gcd (lastI (Tz p g)) p=1
theorem DOk.nz {p:Int} {g:List Int} (h:DOk p g) (x:Int) (hx:p ∣ x * lastI (Tz p g)):p ∣ x:=by
  obtain ⟨t,_,_,ht⟩:=jZZ h.pr.1 h.gcd
  have h1:=Int.dvd_sub_self_of_emod_eq ht
  have h2:p ∣ x * lastI (Tz p g) * t:=Int.dvd_mul_of_dvd_left hx
  have h3:p ∣ x * (1 - t * lastI (Tz p g)):=Int.dvd_mul_of_dvd_right h1
  have e1:x=x * lastI (Tz p g) * t + x * (1 - t * lastI (Tz p g)):=by
    rw [Int.mul_sub,Int.mul_one,Int.mul_comm t,<- Int.mul_assoc]
    omega
  rw [e1]
  exact Int.dvd_add h2 h3
theorem yJH {p:Int} {g:List Int} (h:DOk p g) (f:List Int):∃ q,dvT p (Tz p f) (Tz p g)=some (q,rm p (Tz p g) f) /\ IsR p (Tz p g) (rm p (Tz p g) f) /\ EqM p (Tz p g) f (rm p (Tz p g) f):=by
  have hd:=lP h.ne
  have p2:2 <= p:=h.pr.1
  obtain ⟨h1,h2⟩:=qJQ (z:=p) (ov:=ovp p) (f:=Tz p f) (d:=Tz p g) hd (fun a c ha hc=>hov p2 h.gcd a c ha hc) ((Tz p f).length + 1) _ _ (DInv.start (yZ0 p f) (yX7 p f)) (Nat.lt_succ_self _)
  cases o:dvN p (ovp p) (Tz p g) ((Tz p f).length + 1) (List.replicate ((Tz p f).length + 1 - (Tz p g).length) 0) (Tz p f) with
  | none =>
    obtain ⟨_,_,_,_,z⟩:=h2 o
    cases z
  | some x =>
    obtain ⟨q,r⟩:=x
    obtain ⟨I,hl⟩:=h1 q r o
    have ir:IsR p (Tz p g) r:=⟨I.rf,I.rr,hl⟩
    have er:EqM p (Tz p g) f r:=(EqM.Tz p (Tz p g) f).trans ⟨q,fun n=>by
      have k:=I.eq n
      have e:(Tz p f).getD n 0 - r.getD n 0 - cm q (Tz p g) n = -(cm q (Tz p g) n + r.getD n 0 - (Tz p f).getD n 0):=by omega
      rw [e]
      exact Int.dvd_neg.mpr k⟩
    have em:=qQ1 h.nz ir er
    rw [em]
    exact ⟨q,o,ir,er⟩
theorem qUJ {p:Int} {g a b:List Int} (h:DOk p g) (e:EqM p (Tz p g) a b):rm p (Tz p g) a=rm p (Tz p g) b:=by
  obtain ⟨_,_,h1,h2⟩:=yJH h b
  exact qQ1 h.nz h1 (e.trans h2)
theorem jJ5 {z:Int} {d q r:List Int} {n:Nat} (hl:d.length <= r.length):dvN z (ovp z) d (n + 1) q r=dvN z (ovp z) d n (q.set (r.length - d.length) (pl z (lastI r * tu (lastI d) z))) (nextR z d r (pl z (lastI r * tu (lastI d) z))):=by
  conv=>lhs; unfold dvN
  rw [if_neg (by omega)]
  rfl
theorem qHH {z:Int} {d q r:List Int} {n:Nat} (hl:r.length < d.length):dvN z (ovp z) d (n + 1) q r=some (q,r):=by
  unfold dvN
  rw [if_pos hl]
theorem zJ2 {p m:Int} (hp:IsP p) (h:pl p m=m):0 <= m /\ m < 9973:=by
  have:=qQ5 (z:=p) (n:=m) (by have:=hp.1; omega)
  have:=hp.2.1
  omega
theorem yKZ (T:Top K mg cFE cHP cBA cBL cBP cBT cNO cNW cNP cNN cK cR):Ok P w K mg base 3 "divided" ["kind","f","g"] (spF K (Gr cR) (fun as=>∃ p f g,as=[.ob 0 p,.ints f,.ints g] /\ DOk p g /\ f.length <= 200) fun as=>match as with
    | [.ob 0 p,.ints f,.ints g]=>dvF p (Tz p f) (Tz p g)
    | _=>.non):=by
  refine okF T.d_divided yY6 (fun as ⟨a,b,c,h,_⟩=>by rw [h]; rfl) (fun f cdv A outer s H E hr=>⟨_,(yQ1 (yWK (i:=3) yY6.nd rfl (Or.inl rfl) (xcl (yZ6 T) hr (yQ0 (xv 0) (yQ0 (xl 1) yQ3))))
 (yQ1 (yZ1 (i:=4) yY6.nd rfl (Or.inl rfl) (newL (xcl (yZ6 T) hr (yQ0 (xv 0) (yQ0 (xl 2) yQ3)))))
 (yQ1 (yY3 (jJJ (qYX 4))
 (yQ5 qJK)
 yZJ)
 (yQ1 (yWK (i:=5) yY6.nd rfl (Or.inl rfl) (zQ6 (yZK (yQ0 yQ2 yQ3)) (yJY (yY5 (yJ2 3 T.b_len) (yJ2 4 T.b_len)) yQ2) (fun _=>rfl)))
 (yQ1 (yW3 PassesOwn.never (jV1 (yJ2 3 T.b_len) (yJ2 4 T.b_len))
 (yQ1 (yQ9 (i:=6) yY6.nd rfl (Or.inl rfl) (yY5 (yJ2 3 T.b_len) (yJ2 4 T.b_len)))
 (yQ1 (yQ9 (i:=7) yY6.nd rfl (Or.inl rfl) (zW5 (xR_V (zW7 0 (zX8 T) hr (yQ0 (yYV 3 (zQ3 yQ2) (fun _ _=>rfl)) (yQ0 (yYV 4 (zQ3 yQ2) (fun _ _=>rfl)) yQ3))))))
 (yQ1 (yU8 5 (xn 6) (xn 7))
 (yQ1 (zQZ (k:=8) (j:=9) PassesOwn.never rfl (by rfl) T.b_enumerate (xl 4) (pg_tup rfl (pgs_cons (pg_name (i:=8) yY6.nd rfl (Or.inl rfl)) (pgs_cons (pg_name (i:=9) yY6.nd rfl (Or.inl rfl)) pgs_nil)))
 (yQ5 (yU8 3 (yJY (xn 6) (xn 8)) (yK3 0 (yW8 T) hr (yQ0 (yY5 (yYV 3 (yJY (xn 6) (xn 8)) (fun _ _=>rfl)) (yX4 (xn 7) (xn 9))) yQ3)))))
 (yQ5 (qYJ 3 (yKV T) hr)))))))
 (yJ4 3 (yJ4 5 (yQ5 (yQX (zQK (yQ0 (xl 5) (yQ0 (xl 3) yQ3)))))))))))),fun as hp=>?_⟩)
  obtain ⟨z,f,g,rfl,ok,hfl⟩:=hp
  have hgl:=ok.len
  have p2:2 <= z:=ok.pr.1
  have h9:z.natAbs < 2 ^ 9000:=by
    have:z.natAbs <= 2 ^ 14:=by have:=ok.pr.2.1; omega
    exact Nat.lt_of_le_of_lt this (Nat.pow_lt_pow_right (by decide) (by decide))
  refine ⟨⟨⟨rfl,rfl,tJ⟩,z,f,rfl,by omega⟩,fun fo efo=>?_⟩
  have efo:fo=Tz z f:=efo
  refine ⟨⟨⟨rfl,rfl,tJ⟩,z,g,rfl,by omega⟩,fun d ed=>?_⟩
  have ed:d=Tz z g:=ed
  have lf:fo.length <= 200:=by rw [efo]; exact Nat.le_trans (yJW _ _) hfl
  have lg:d.length <= 200:=by rw [ed]; exact Nat.le_trans (yJW _ _) hgl
  have ff:InForm fo:=by rw [efo]; exact yZ0 z f
  have fr:∀ n,pl z (fo.getD n 0)=fo.getD n 0:=by rw [efo]; exact yX7 z f
  have dr:∀ n,pl z (d.getD n 0)=d.getD n 0:=by rw [ed]; exact yX7 z g
  have dne:¬ d=[]:=by rw [ed]; exact ok.ne
  have gc:Int.gcd (lastI d) z=1:=by rw [ed]; exact ok.gcd
  have hd:=lP dne
  have goal:∀ q r,dvT z fo d=some (q,r) -> PV.tup [.ints q,.ints r]=dvF z (Tz z f) (Tz z g):=fun q r h=>by
    rw [<- efo,<- ed]
    unfold dvF
    rw [h]
  have pr:=ok.pr
  clear efo ed ok
  refine yZZ (ρ':=[.fr (.ob 0 z),.fr (.ints f),.fr (.ints g),.ow (.ints fo),.fr (.ints d),.un,.un,.un,.un,.un]) rfl ?_
  refine ⟨.inl rfl,fun q=>?_,fun _=>?_⟩
  . have q:¬ ¬ d=[]:=q
    exact q dne
  refine ⟨⟨⟨⟨tJ,tJ⟩,tJ⟩,⟨⟨.inr (.inl rfl),.inl rfl⟩,tJ⟩,?_,?_⟩,fun q0 eq0=>?_⟩
  . show -(2:Int) ^ 63 <= (fo.length:Int) - (d.length:Int) + 1
    omega
  . show ((fo.length:Int) - (d.length:Int) + 1).toNat <= 1000
    omega
  have eq0:q0=List.replicate ((fo.length:Int) - (d.length:Int) + 1).toNat 0:=eq0
  have en:((fo.length:Int) - (d.length:Int) + 1).toNat=fo.length + 1 - d.length:=by omega
  rw [en] at eq0
  refine ⟨fun ρ=>∃ q r v6 v7 v8 v9 fuel,ρ=[.fr (.ob 0 z),.fr (.ints f),.fr (.ints g),.ow (.ints r),.fr (.ints d),.ow (.ints q),v6,v7,v8,v9] /\ DInv z fo d q r /\ r.length < fuel /\ dvN z (ovp z) d fuel q r=dvT z fo d,fun ρ=>(getL ρ 3).length,⟨q0,fo,.un,.un,.un,.un,fo.length + 1,rfl,by rw [eq0]; exact DInv.start ff fr,Nat.lt_succ_self _,by rw [eq0]; rfl⟩,?_⟩
  rintro ρ ⟨q,r,v6,v7,v8,v9,fuel,rfl,I,hfu,hdv⟩
  refine ⟨⟨.inr (.inl rfl),.inl rfl⟩,fun k=>?_,fun k=>?_⟩
  . have k:(d.length:Int) <= (r.length:Int):=k
    have hl:d.length <= r.length:=by omega
    have rl:=I.rl
    obtain ⟨fuel,rfl⟩:∃ n,fuel=n + 1:=⟨fuel - 1,by omega⟩
    rw [jJ5 hl] at hdv
    refine ⟨⟨.inr (.inl rfl),.inl rfl⟩,fun gap egap=>?_⟩
    have egap:gap=(r.length:Int) - (d.length:Int):=egap
    have egap:gap=((r.length - d.length:Nat):Int):=by omega
    subst egap
    have lr:r.getD (ixO r.length (-1)) 0=lastI r:=zXQ r (by omega)
    have ld:d.getD (ixO d.length (-1)) 0=lastI d:=zXQ d hd
    have fo_r:=FO_r (C:=cNO) (z:=z) (x:=lastI r) gc
    have rs:=zJ2 pr (I.rr (r.length - 1))
    have r9:(lastI r).natAbs < 2 ^ 9000:=by
      have:(lastI r).natAbs <= 2 ^ 14:=by unfold lastI; omega
      exact Nat.lt_of_le_of_lt this (Nat.pow_lt_pow_right (by decide) (by decide))
    have eF:F_O cNO z [r.getD (ixO r.length (-1)) 0,d.getD (ixO d.length (-1)) 0]=.inl (pl z (lastI r * tu (lastI d) z)):=by rw [lr,ld]; exact fo_r
    obtain ⟨c,hc⟩:∃ c,c=pl z (lastI r * tu (lastI d) z):=⟨_,rfl⟩
    rw [<- hc] at eF hdv
    refine ⟨⟨⟨⟨rfl,⟨⟨.inr (.inl rfl),tJ,by show -(r.length:Int) <= -1; omega,by show (-1:Int) < (r.length:Int); omega⟩,⟨.inl rfl,tJ,by show -(d.length:Int) <= -1; omega,by show (-1:Int) < (d.length:Int); omega⟩,tJ⟩,tJ,?_⟩,?_⟩,?_⟩,fun c' ec'=>?_⟩
    . show preO z [r.getD (ixO r.length (-1)) 0,d.getD (ixO d.length (-1)) 0]
      rw [lr]
      exact ⟨p2,h9,r9⟩
    . show (toRs (F_O cNO z [r.getD (ixO r.length (-1)) 0,d.getD (ixO d.length (-1)) 0])).isV
      rw [eF]
      exact tJ
    . show (toRs (F_O cNO z [r.getD (ixO r.length (-1)) 0,d.getD (ixO d.length (-1)) 0])).get=.int (pvI (toRs (F_O cNO z [r.getD (ixO r.length (-1)) 0,d.getD (ixO d.length (-1)) 0])).get)
      rw [eF]
      rfl
    have ec':c'=pvI (toRs (F_O cNO z [r.getD (ixO r.length (-1)) 0,d.getD (ixO d.length (-1)) 0])).get:=ec'
    rw [eF] at ec'
    have ec':c'=c:=ec'
    subst ec'
    obtain ⟨h1,h2⟩:=hov p2 gc _ _ (I.rr (r.length - 1)) (show ovp z (lastI r) (lastI d)=some c' by rw [hc]; rfl)
    obtain ⟨J,hlt⟩:=I.step hd hl h1 h2
    have cs:=zJ2 pr h2
    have ql:=I.ql
    refine yZZ (ρ':=[.fr (.ob 0 z),.fr (.ints f),.fr (.ints g),.ow (.ints r),.fr (.ints d),.ow (.ints q),.fr (.int ((r.length - d.length:Nat):Int)),.fr (.int c'),v8,v9]) rfl ?_
    have ix5:ixO q.length ((r.length - d.length:Nat):Int)=r.length - d.length:=by unfold ixO; rw [if_pos (by omega)]; omega
    refine ⟨rfl,rfl,rfl,⟨by show -(q.length:Int) <= ((r.length - d.length:Nat):Int); omega,by show ((r.length - d.length:Nat):Int) < (q.length:Int); omega⟩,?_⟩
    refine yZZ (ρ':=[.fr (.ob 0 z),.fr (.ints f),.fr (.ints g),.ow (.ints r),.fr (.ints d),.ow (.ints (q.set (r.length - d.length) c')),.fr (.int ((r.length - d.length:Nat):Int)),.fr (.int c'),v8,v9]) (by rw [<- ix5]; rfl) ?_
    refine ⟨rfl,fun i ρ=>∃ row v8 v9,ρ=[.fr (.ob 0 z),.fr (.ints f),.fr (.ints g),.ow (.ints row),.fr (.ints d),.ow (.ints (q.set (r.length - d.length) c')),.fr (.int ((r.length - d.length:Nat):Int)),.fr (.int c'),v8,v9] /\ TakeAt z d r c' i row,⟨r,v8,v9,rfl,zHW z d r c'⟩,?_,?_⟩
    . rintro i n ρ hn ⟨row,v8,v9,rfl,ht⟩
      have hn:d[i]?=some n:=hn
      have hi:=(List.getElem?_eq_some_iff.mp hn).1
      have en:d.getD i 0=n:=getD_at' hn
      have l1:-(row.length:Int) <= ((r.length - d.length:Nat):Int) + (i:Int):=by omega
      have l2:((r.length - d.length:Nat):Int) + (i:Int) < (row.length:Int):=by rw [ht.1]; omega
      have ix:ixO row.length (((r.length - d.length:Nat):Int) + (i:Int))=r.length - d.length + i:=by unfold ixO; rw [if_pos (by omega)]; omega
      have ns:=zJ2 pr (dr i)
      rw [en] at ns
      refine ⟨⟨rfl,⟨⟨⟨.inr (.inl rfl),⟨rfl,rfl⟩,l1,l2⟩,rfl,rfl,yHJ ⟨by show -(2:Int) ^ 64 < n; omega,by show n < (2:Int) ^ 64; omega⟩⟩,tJ⟩,tJ,tJ⟩,rfl,⟨rfl,rfl⟩,⟨l1,l2⟩,row.set (r.length - d.length + i) (pl z (row.getD (r.length - d.length + i) 0 - c' * n)),.fr (.int i),.fr (.int n),?_,?_⟩
      . rw [<- ix]; rfl
      . have:=qXW ht hl hi
        rw [en] at this
        exact this
    . rintro ρ ⟨row,v8,v9,rfl,ht⟩
      have ht:TakeAt z d r c' d.length row:=ht
      have et:=qVJ ht hl
      refine ⟨rfl,tJ,⟨q.set (r.length - d.length) c',nextR z d r c',.fr (.int ((r.length - d.length:Nat):Int)),.fr (.int c'),v8,v9,fuel,?_,J,by omega,hdv⟩,?_⟩
      . rw [<- et]; rfl
      . show (trimZ row).length < r.length
        rw [et]
        exact hlt
  . have k:¬ (d.length:Int) <= (r.length:Int):=k
    obtain ⟨fuel,rfl⟩:∃ n,fuel=n + 1:=⟨fuel - 1,by omega⟩
    rw [qHH (by omega)] at hdv
    exact ⟨⟨rfl,rfl,tJ⟩,goal q r hdv.symm⟩
def Bd (r:List Int):Prop:=∀ m ∈ r,m.natAbs < 2 ^ 9000
theorem yV7 {m:Int} (h:0 <= m /\ m < 9973):m.natAbs < 2 ^ 9000:=by
  have:m.natAbs <= 2 ^ 14:=by omega
  exact Nat.lt_of_le_of_lt this (Nat.pow_lt_pow_right (by decide) (by decide))
theorem IsR.bd {p:Int} {d r:List Int} (hp:IsP p) (h:IsR p d r):Bd r:=fun m hm=>by
  obtain ⟨n,_,e⟩:=FM.mem_getD hm
  have:=zJ2 hp (h.red n)
  rw [e] at this
  exact yV7 this
theorem qYV {p:Int} {g:List Int} (h:DOk p g) (f:List Int):∃ q,dvF p (Tz p f) (Tz p g)=.tup [.ints q,.ints (rm p (Tz p g) f)]:=by
  obtain ⟨q,e,_⟩:=yJH h f
  exact ⟨q,by unfold dvF; rw [e]⟩
theorem qZU {p:Int} (hp:IsP p):0 <= p /\ p < ((2 ^ 9000:Nat):Int):=by
  have h1:=hp.1
  have h2:=hp.2.1
  have h3:(2:Nat) ^ 14 <= 2 ^ 9000:=Nat.pow_le_pow_right (by decide) (by decide)
  generalize (2:Nat) ^ 9000=N at *
  omega
theorem yKH (T:Top K mg cFE cHP cBA cBL cBP cBT cNO cNW cNP cNN cK cR):Ok P w K mg base 4 "times_by" ["kind","one","other","g"] (spFL K (Gr cR) (fun as=>∃ p a b g,as=[.ob 0 p,.ints a,.ints b,.ints g] /\ DOk p g /\ a.length + b.length <= 200 /\ Bd a /\ Bd b) fun as=>match as with
    | [.ob 0 p,.ints a,.ints b,.ints g]=>rm p (Tz p g) (convL a b)
    | _=>[]):=by
  refine okF T.d_times_by zK7 (fun as ⟨a,b,c,d,h,_⟩=>by rw [h]; rfl) (fun f cdv A outer s H E hr=>⟨_,(yQ5 (yQX (xl_of (yQJ (xc (yKZ T) hr (yQ0 (xv 0) (yQ0 (newL (xcl (yKQ T) hr (yQ0 (xv 0) (yQ0 (xl 1) (yQ0 (xl 2) yQ3))))) (yQ0 (xl 3) yQ3)))) yQ2 (fun _ _=>rfl))))),fun as hp=>?_⟩)
  obtain ⟨p,a,b,g,rfl,ok,hl,ha,hb⟩:=hp
  obtain ⟨q0,q9⟩:=qZU ok.pr
  have el:(Tz p (convL (Tz p a) (Tz p b))).length <= 200:=by
    rw [zUZ]
    refine Nat.le_trans (yJW _ _) ?_
    unfold convL
    rw [List.length_map,List.length_range]
    exact hl
  obtain ⟨q,e⟩:=qYV ok (Tz p (convL (Tz p a) (Tz p b)))
  refine ⟨⟨⟨⟨⟨rfl,⟨⟨rfl,rfl,rfl,tJ⟩,p,a,b,rfl,q0,q9,by omega,ha,hb⟩,rfl,tJ⟩,p,_,g,rfl,ok,el⟩,tJ,?_⟩,?_⟩,?_⟩
  . show hasIt (dvF p (Tz p (Tz p (convL (Tz p a) (Tz p b)))) (Tz p g)) 1
    rw [e]
    exact ⟨by show (-2:Int) <= 1; decide,by show (1:Int) < 2; decide⟩
  . show itP (dvF p (Tz p (Tz p (convL (Tz p a) (Tz p b)))) (Tz p g)) 1=.ints (pvL (itP (dvF p (Tz p (Tz p (convL (Tz p a) (Tz p b)))) (Tz p g)) 1))
    rw [e]
    rfl
  . show PV.ints (pvL (itP (dvF p (Tz p (Tz p (convL (Tz p a) (Tz p b)))) (Tz p g)) 1))=PV.ints (rm p (Tz p g) (convL a b))
    rw [e]
    show PV.ints (rm p (Tz p g) (Tz p (convL (Tz p a) (Tz p b))))=PV.ints (rm p (Tz p g) (convL a b))
    rw [zUZ,qUJ ok (EqM.Tz p (Tz p g) (convL a b)).symm]
theorem pw_odd1 {p:Int} {d P S P':List Int} (h:Nat) (hP:EqM p d P' (convL P S)):EqM p d (convL P' (pw S (2 * h))) (convL P (pw S (2 * h + 1))):=by
  refine (hP.mul _).trans ((EqM.assoc p d _ _ _).trans ?_)
  refine (EqM.comm p d _ _).trans (EqM.trans ?_ (EqM.comm p d _ _))
  exact (EqM.comm p d S (pw S (2 * h))).mul P
theorem zVZ (T:Top K mg cFE cHP cBA cBL cBP cBT cNO cNW cNP cNN cK cR):Ok P w K mg base 5 "raised" ["kind","f","many","g"] (spFL K (Gr cR) (fun as=>∃ p f,∃ m:Nat,∃ g,as=[.ob 0 p,.ints f,.int (m:Int),.ints g] /\ DOk p g /\ f.length <= 200 /\ (Tz p g).length <= 100) fun as=>match as with
    | [.ob 0 p,.ints f,.int m,.ints g]=>rm p (Tz p g) (pw f m.toNat)
    | _=>[]):=by
  refine okF T.d_raised yXK (fun as ⟨a,b,c,d,h,_⟩=>by rw [h]; rfl) (fun f cdv A outer s H E hr=>⟨_,(yQ1 (yZ1 (i:=4) yXK.nd rfl (Or.inl rfl) (xl_of (yQJ (xc (yKZ T) hr (yQ0 (xv 0) (yQ0 (newL (yZK (yQ0 yQ2 yQ3))) (yQ0 (xl 3) yQ3)))) yQ2 (fun _ _=>rfl))))
 (yQ1 (yZ1 (i:=5) yXK.nd rfl (Or.inl rfl) (xl_of (yQJ (xc (yKZ T) hr (yQ0 (xv 0) (yQ0 (xl 1) (yQ0 (xl 3) yQ3)))) yQ2 (fun _ _=>rfl))))
 (yQ1 (yQ9 (i:=6) yXK.nd rfl (Or.inl rfl) (xn 2))
 (yQ1 (yW3 PassesOwn.never (qQV (xn 6) yQ2)
 (yX9 (yY3 (yKK (yZ4 (xn 6) yQ2) yQ2)
 (yQ5 (yZ1 (i:=4) yXK.nd rfl (Or.inl rfl) (xcL (yKH T) hr (yQ0 (xv 0) (yQ0 (xl 4) (yQ0 (xl 5) (yQ0 (xl 3) yQ3)))))))
 yZJ)
 (yQ1 (yZ1 (i:=5) yXK.nd rfl (Or.inl rfl) (xcL (yKH T) hr (yQ0 (xv 0) (yQ0 (xl 5) (yQ0 (xl 5) (yQ0 (xl 3) yQ3))))))
 (yQ5 (qZV (i:=6) yXK.nd rfl (Or.inl rfl) yQ2 iop_fdiv)))))
 (yQ5 (yQX (xl 4))))))),fun as hp=>?_⟩)
  obtain ⟨p,f,m,g,rfl,ok,hl,hd⟩:=hp
  have one200:([1]:List Int).length <= 200:=by decide
  have item:∀ (x:List Int) (q:List Int),dvF p (Tz p x) (Tz p g)=.tup [.ints q,.ints (rm p (Tz p g) x)] -> hasIt (dvF p (Tz p x) (Tz p g)) 1 /\ itP (dvF p (Tz p x) (Tz p g)) 1=.ints (pvL (itP (dvF p (Tz p x) (Tz p g)) 1)) /\ pvL (itP (dvF p (Tz p x) (Tz p g)) 1)=rm p (Tz p g) x:=fun x q e=>by
    rw [e]
    exact ⟨⟨by show (-2:Int) <= 1; decide,by show (1:Int) < 2; decide⟩,rfl,rfl⟩
  obtain ⟨q1,e1⟩:=qYV ok [1]
  obtain ⟨q2,e2⟩:=qYV ok f
  obtain ⟨a1,a2,a3⟩:=item _ _ e1
  obtain ⟨b1,b2,b3⟩:=item _ _ e2
  refine ⟨⟨⟨⟨⟨rfl,⟨⟨tJ,tJ⟩,tJ⟩,rfl,tJ⟩,p,[1],g,rfl,ok,one200⟩,tJ,a1⟩,a2⟩,fun P0 eP0=>?_⟩
  have eP0:P0=pvL (itP (dvF p (Tz p [1]) (Tz p g)) 1):=eP0
  rw [a3] at eP0
  refine ⟨⟨⟨⟨⟨rfl,rfl,rfl,tJ⟩,p,f,g,rfl,ok,hl⟩,tJ,b1⟩,b2⟩,fun S0 eS0=>?_⟩
  have eS0:S0=pvL (itP (dvF p (Tz p f) (Tz p g)) 1):=eS0
  rw [b3] at eS0
  refine ⟨rfl,fun l0 el0=>?_⟩
  have el0:l0=(m:Int):=el0
  refine yZZ (ρ':=[.fr (.ob 0 p),.fr (.ints f),.fr (.int (m:Int)),.fr (.ints g),.fr (.ints P0),.fr (.ints S0),.fr (.int l0)]) rfl ?_
  obtain ⟨_,_,iP,hP⟩:=yJH ok [1]
  obtain ⟨_,_,iS,hS⟩:=yJH ok f
  rw [<- eP0] at iP hP
  rw [<- eS0] at iS hS
  refine ⟨fun ρ=>∃ (P S:List Int) (L:Nat),ρ=[.fr (.ob 0 p),.fr (.ints f),.fr (.int (m:Int)),.fr (.ints g),.fr (.ints P),.fr (.ints S),.fr (.int (L:Int))] /\ IsR p (Tz p g) P /\ IsR p (Tz p g) S /\ EqM p (Tz p g) (convL P (pw S L)) (pw f m),fun ρ=>(getI ρ 6).toNat,⟨P0,S0,m,by rw [el0],iP,iS,?_⟩,?_⟩
  . refine (hP.symm.mul2 (pw_mod hS.symm m)).trans ((EqM.comm p _ _ _).trans (EqM.one p _ _))
  rintro ρ ⟨P1,S,L,rfl,iP,iS,hE⟩
  have lS:=iS.len
  have lP:=iP.len
  have bS:=iS.bd ok.pr
  have bP:=iP.bd ok.pr
  refine ⟨⟨rfl,tJ⟩,fun k=>?_,fun k=>?_⟩
  . have k:(L:Int) > 0:=k
    refine ⟨fun ρ=>∃ P',ρ=[.fr (.ob 0 p),.fr (.ints f),.fr (.int (m:Int)),.fr (.ints g),.fr (.ints P'),.fr (.ints S),.fr (.int (L:Int))] /\ IsR p (Tz p g) P' /\ EqM p (Tz p g) (convL P' (pw S (2 * (L / 2)))) (pw f m),⟨⟨⟨rfl,tJ,by show (0:Int) < 2; decide⟩,tJ⟩,fun o=>?_,fun o=>?_⟩,?_⟩
    . have o:(L:Int) % 2=1:=o
      refine ⟨⟨⟨rfl,rfl,rfl,rfl,tJ⟩,p,P1,S,g,rfl,ok,by omega,bP,bS⟩,fun P' eP'=>⟨P',rfl,?_,?_⟩⟩
      . have eP':P'=rm p (Tz p g) (convL P1 S):=eP'
        rw [eP']
        exact (yJH ok (convL P1 S)).choose_spec.2.1
      . have eP':P'=rm p (Tz p g) (convL P1 S):=eP'
        have h1:EqM p (Tz p g) P' (convL P1 S):=by rw [eP']; exact (yJH ok (convL P1 S)).choose_spec.2.2.symm
        have e:L=2 * (L / 2) + 1:=by omega
        refine (pw_odd1 (L / 2) h1).trans ?_
        rw [<- e]
        exact hE
    . have o:¬ (L:Int) % 2=1:=o
      refine ⟨P1,rfl,iP,?_⟩
      have e:2 * (L / 2)=L:=by omega
      rw [e]
      exact hE
    rintro ρ ⟨P',rfl,iP',hE'⟩
    refine ⟨⟨⟨rfl,rfl,rfl,rfl,tJ⟩,p,S,S,g,rfl,ok,by omega,bS,bS⟩,fun S' eS'=>?_⟩
    have eS':S'=rm p (Tz p g) (convL S S):=eS'
    have iS':IsR p (Tz p g) S':=by rw [eS']; exact (yJH ok (convL S S)).choose_spec.2.1
    have hS':EqM p (Tz p g) S' (convL S S):=by rw [eS']; exact (yJH ok (convL S S)).choose_spec.2.2.symm
    refine ⟨rfl,tJ,⟨by decide,by decide⟩,fun l el=>⟨⟨P',S',L / 2,?_,iP',iS',(pw_even hS').trans hE'⟩,?_⟩⟩
    . have el:l=(L:Int) / 2:=el
      have e:(L:Int) / 2=((L / 2:Nat):Int):=by omega
      rw [e] at el
      rw [el]
      rfl
    . have el:l=(L:Int) / 2:=el
      show l.toNat < ((L:Nat):Int).toNat
      omega
  . have k:¬ (L:Int) > 0:=k
    have e:L=0:=by omega
    subst e
    refine ⟨rfl,?_⟩
    show PV.ints P1=PV.ints (rm p (Tz p g) (pw f ((m:Nat):Int).toNat))
    rw [Int.toNat_natCast,qQ1 ok.nz iP (hE.symm.trans (EqM.one p _ _))]
theorem jZ4 {p:Int} (h:IsP p) {d:Nat} (hd:(d:Int) ∣ p):d=1 \/ (d:Int)=p:=by
  obtain ⟨h2,_,hn⟩:=h
  obtain ⟨c,hc⟩:=hd
  by_cases d1:d=1
  . exact .inl d1
  have d0:d ≠ 0:=fun z=>by rw [z] at hc; simp at hc; omega
  have c0:0 < c:=by
    rcases Int.lt_or_le 0 c with h | h
    . exact h
    . have:=Int.mul_nonpos_of_nonneg_of_nonpos (show (0:Int) <= d by omega) h
      omega
  by_cases c1:c=1
  . right; rw [hc,c1,Int.mul_one]
  exfalso
  by_cases le:(d:Int) <= c
  . have sq:(d:Int) * d <= p:=by rw [hc]; exact Int.mul_le_mul_of_nonneg_left le (by omega)
    exact hn d (by omega) sq (by rw [hc]; exact Int.mul_emod_right _ _)
  . have sq:c * c <= p:=by rw [hc]; exact Int.mul_le_mul_of_nonneg_right (by omega) (by omega)
    exact hn c (by omega) sq (by rw [hc]; exact Int.mul_emod_left _ _)
theorem zW8 {p b:Int} (h:IsP p) (hb:¬ b % p=0) (m:Nat):Int.gcd b (p ^ m)=1:=by
  have g1:Int.gcd b p=1:=by
    rcases jZ4 h (d:=Int.gcd b p) (Int.gcd_dvd_right ..) with g | g
    . exact g
    . exfalso
      have:=Int.gcd_dvd_left b p
      rw [g] at this
      exact hb (Int.emod_eq_zero_of_dvd this)
  unfold Int.gcd at g1 ⊢
  rw [Int.natAbs_pow]
  exact Nat.Coprime.pow_right m g1
theorem isP3:IsP 3:=⟨by omega,by omega,fun d h1 h2=>by have:=zYK (d:=2) (e:=d) (by omega) h1; omega⟩
theorem yH0 (f:List Int) (n:Nat):cm f [1] n=f.getD n 0:=by
  rw [yQK,yWZ]
  by_cases c:n=0
  . rw [if_pos c,Int.one_mul,Int.add_zero]
  . rw [if_neg c,yYZ,Int.one_mul,Int.add_zero]
def Sm (a b:List Int):Prop:=∀ n,a.getD n 0=b.getD n 0
theorem Sm.eqm {p:Int} {d a b:List Int} (h:Sm a b):EqM p d a b:=.of fun n=>by rw [h n,Int.sub_self]; exact Int.dvd_zero p
def scl (c:Int) (a:List Int):List Int:=a.map fun x=>c * x
theorem yV8 (c:Int) (a:List Int) (n:Nat):(scl c a).getD n 0=c * a.getD n 0:=yJU _ (Int.mul_zero c) a n
theorem EqM.add {p:Int} {d a b c e:List Int} (h:EqM p d a b) (k:EqM p d c e):EqM p d (addL a c) (addL b e):=by
  obtain ⟨Q,h⟩:=h
  obtain ⟨S,k⟩:=k
  refine ⟨addL Q S,fun n=>?_⟩
  rw [yWU,yZ2,yZ2]
  have e:a.getD n 0 + c.getD n 0 - (b.getD n 0 + e.getD n 0) - (cm Q d n + cm S d n)=(a.getD n 0 - b.getD n 0 - cm Q d n) + (c.getD n 0 - e.getD n 0 - cm S d n):=by omega
  rw [e]
  exact Int.dvd_add (h n) (k n)
theorem EqM.sclE {p:Int} {d a b:List Int} (c:Int) (h:EqM p d a b):EqM p d (scl c a) (scl c b):=by
  obtain ⟨Q,h⟩:=h
  refine ⟨scl c Q,fun n=>?_⟩
  have e1:cm (scl c Q) d n=c * cm Q d n:=by
    unfold cm
    rw [<- yVZ]
    exact yQ7 fun i _=>by rw [yV8,Int.mul_assoc]
  rw [e1,yV8,yV8,<- Int.mul_sub,<- Int.mul_sub]
  exact Int.dvd_mul_of_dvd_right (h n)
def Dv (p:Int) (d a:List Int):Prop:=EqM p d a []
def Lc (p:Int) (f g r:List Int):Prop:=∃ s t:List Int,∀ n,p ∣ r.getD n 0 - (cm s f n + cm t g n)
theorem cm_1 (f:List Int) (n:Nat):cm [1] f n=f.getD n 0:=by rw [yQK,yH0]
theorem cm_c (c:Int) (f:List Int) (n:Nat):cm [c] f n=c * f.getD n 0:=by
  rw [yWZ]
  by_cases h:n=0
  . rw [if_pos h,Int.add_zero]
  . rw [if_neg h,yYZ,Int.add_zero]
theorem Lc.left (p:Int) (f g:List Int):Lc p f g f:=⟨[1],[],fun n=>by rw [cm_1,yYZ,Int.add_zero,Int.sub_self]; exact Int.dvd_zero p⟩
theorem Lc.right (p:Int) (f g:List Int):Lc p f g g:=⟨[],[1],fun n=>by rw [cm_1,yYZ,Int.zero_add,Int.sub_self]; exact Int.dvd_zero p⟩
theorem Lc.add {p:Int} {f g r s:List Int} (h:Lc p f g r) (k:Lc p f g s):Lc p f g (addL r s):=by
  obtain ⟨a,b,h⟩:=h
  obtain ⟨c,d,k⟩:=k
  refine ⟨addL a c,addL b d,fun n=>?_⟩
  rw [yWU,yWU,yZ2]
  have e:r.getD n 0 + s.getD n 0 - (cm a f n + cm c f n + (cm b g n + cm d g n))=(r.getD n 0 - (cm a f n + cm b g n)) + (s.getD n 0 - (cm c f n + cm d g n)):=by omega
  rw [e]
  exact Int.dvd_add (h n) (k n)
theorem Lc.congr {p:Int} {f g r s:List Int} (h:Lc p f g r) (k:∀ n,p ∣ s.getD n 0 - r.getD n 0):Lc p f g s:=by
  obtain ⟨a,b,h⟩:=h
  refine ⟨a,b,fun n=>?_⟩
  have e:s.getD n 0 - (cm a f n + cm b g n)=(s.getD n 0 - r.getD n 0) + (r.getD n 0 - (cm a f n + cm b g n)):=by omega
  rw [e]
  exact Int.dvd_add (k n) (h n)
theorem Lc.mul {p:Int} {f g r:List Int} (q:List Int) (h:Lc p f g r):Lc p f g (convL q r):=by
  obtain ⟨a,b,h⟩:=h
  refine ⟨convL q a,convL q b,fun n=>?_⟩
  have k:=yHY (p:=p) (a:=r) (b:=addL (convL a f) (convL b g)) (c:=q) (fun i=>by rw [yZ2,yQ4,yQ4]; exact h i) n
  rw [yWU,yQK r q,yQK (convL a f) q,yQK (convL b g) q] at k
  rw [yQ4,yJ5,yJ5]
  exact k
theorem Lc.trans {p:Int} {f g b r x:List Int} (hb:Lc p f g b) (hr:Lc p f g r) (hx:Lc p b r x):Lc p f g x:=by
  obtain ⟨s,t,hx⟩:=hx
  refine ((hb.mul s).add (hr.mul t)).congr fun n=>?_
  rw [yZ2,yQ4,yQ4]
  exact hx n
theorem Dv.of_lc {p:Int} {d f g r:List Int} (hf:Dv p d f) (hg:Dv p d g) (h:Lc p f g r):Dv p d r:=by
  obtain ⟨s,t,h⟩:=h
  have z:∀ s:List Int,EqM p d (convL [] s) []:=fun s=>Sm.eqm fun n=>by rw [yQ4,yYZ]; rfl
  have k:∀ {f:List Int},Dv p d f -> ∀ s,EqM p d (convL s f) []:=fun {f} hf s=>(EqM.comm p d s f).trans ((EqM.mul hf s).trans (z s))
  have e:EqM p d r (addL (convL s f) (convL t g)):=.of fun n=>by rw [yZ2,yQ4,yQ4]; exact h n
  exact e.trans (((k hf s).add (k hg t)).trans (.refl p d _))
theorem Lc.dv {p:Int} {b f:List Int} (h:Lc p b [] f):Dv p b f:=by
  obtain ⟨s,t,h⟩:=h
  refine ⟨s,fun n=>?_⟩
  have k:=h n
  rw [yQK t [],yYZ,Int.add_zero] at k
  show p ∣ f.getD n 0 - 0 - cm s b n
  rw [Int.sub_zero]
  exact k
theorem Dv.self (p:Int) (d:List Int):Dv p d d:=(Lc.left p d []).dv
theorem yW6:InForm []:=fun h=>absurd rfl h
theorem qX6 {r:List Int} (h:lastI r=1):r ≠ []:=fun e=>by
  rw [e] at h
  exact absurd h (by decide)
theorem qVQ {p:Int} {r s:List Int} (fr:InForm r) (rr:∀ n,pl p (r.getD n 0)=r.getD n 0) (r1:r=[] \/ lastI r=1) (fs:InForm s) (rs:∀ n,pl p (s.getD n 0)=s.getD n 0) (s1:s=[] \/ lastI s=1) (h:Dv p r s) (k:Dv p s r):r=s:=by
  have nilE:∀ {s:List Int},InForm s -> (∀ n,pl p (s.getD n 0)=s.getD n 0) -> Dv p [] s -> s=[]:=fun {s} fs rs h=>by
    obtain ⟨Q,h⟩:=h
    refine yV2 fs yW6 fun n=>zXZ (rs n) (by show pl p 0=0; exact pl_0 p) ?_
    have:=h n
    rw [yQK,yYZ,Int.sub_zero] at this
    exact this
  rcases r1 with r1 | r1
  . subst r1
    exact (nilE fs rs h).symm
  rcases s1 with s1 | s1
  . subst s1
    exact nilE fr rr k
  have shorter:∀ {r s:List Int},InForm r -> (∀ n,pl p (r.getD n 0)=r.getD n 0) -> lastI r=1 -> lastI s=1 -> Dv p s r -> s.length <= r.length:=fun {r s} fr rr r1 s1 k=>by
    by_cases c:s.length <= r.length
    . exact c
    . have nz:∀ x,p ∣ x * lastI s -> p ∣ x:=fun x h=>by rw [s1,Int.mul_one] at h; exact h
      exact absurd (yUW nz ⟨fr,rr,by omega⟩ ⟨yW6,fun n=>by show pl p 0=0; exact pl_0 p,by show 0 < s.length; omega⟩ k) (qX6 r1)
  have l1:=shorter fr rr r1 s1 k
  have l2:=shorter fs rs s1 r1 h
  have l0:=lP (qX6 r1)
  have nz:∀ x,p ∣ x * lastI s -> p ∣ x:=fun x h=>by rw [s1,Int.mul_one] at h; exact h
  have e0:r.getD (r.length - 1) 0=1:=r1
  have e1:s.getD (s.length - 1) 0=1:=s1
  have le:r.length=s.length:=by omega
  have tl:(Tz p (subL r s)).length <= r.length - 1:=yKY (yZ0 p _) fun n hn=>by
    rw [yZX,yWQ]
    by_cases c:n=r.length - 1
    . rw [c,e0,le,e1]
      exact pl_0 p
    . rw [yQ6 (xs:=r) (by omega),yQ6 (xs:=s) (by omega)]
      exact pl_0 p
  have d:EqM p s (subL r s) []:=by
    have a:Sm (subL r s) (addL r (scl (-1) s)):=fun n=>by rw [yWQ,yZ2,yV8]; omega
    exact a.eqm.trans ((EqM.add k ((Dv.self p s).sclE (-1))).trans (.refl p s _))
  have z:=yUW nz ⟨yZ0 p (subL r s),yX7 p _,by omega⟩ ⟨yW6,fun n=>by show pl p 0=0; exact pl_0 p,by show 0 < s.length; omega⟩ ((EqM.Tz p s _).symm.trans d)
  refine yV2 fr fs fun n=>zXZ (rr n) (rs n) ?_
  have e2:(Tz p (subL r s)).getD n 0=0:=by rw [z]; rfl
  rw [yZX,yWQ] at e2
  have:=yJ1 p (r.getD n 0 - s.getD n 0)
  rw [e2,Int.zero_sub] at this
  exact Int.dvd_neg.mp this
structure GC (p:Int) (f g r:List Int):Prop where
  form:InForm r
  red:∀ n,pl p (r.getD n 0)=r.getD n 0
  one:r=[] \/ lastI r=1
  lc:Lc p f g r
  d1:Dv p r f
  d2:Dv p r g
theorem GC.uniq {p:Int} {f g r s:List Int} (h:GC p f g r) (k:GC p f g s):r=s :=
  qVQ h.form h.red h.one k.form k.red k.one (Dv.of_lc h.d1 h.d2 k.lc) (Dv.of_lc k.d1 k.d2 h.lc)
open Classical in
def pick (A:List Int -> Prop):List Int:=if h:∃ r,A r then Classical.choose h else []
def gc (p:Int) (f g:List Int):List Int:=pick (GC p f g)
theorem qVU {p:Int} {f g r:List Int} (h:GC p f g r):gc p f g=r:=by
  have ex:∃ r,GC p f g r:=⟨r,h⟩
  have e:gc p f g=Classical.choose ex:=by unfold gc pick; rw [dif_pos ex]
  rw [e]
  exact (Classical.choose_spec ex).uniq h
structure Idl (p:Int) (f g b r:List Int):Prop where
  i1:Lc p f g b
  i2:Lc p f g r
  i3:Lc p b r f
  i4:Lc p b r g
theorem Idl.symm {p:Int} {f g b r:List Int} (h:Idl p f g b r):Idl p b r f g:=⟨h.i3,h.i4,h.i1,h.i2⟩
theorem Idl.gc {p:Int} {f g b r x:List Int} (h:Idl p f g b r) (k:GC p b r x):GC p f g x:=⟨k.form,k.red,k.one,Lc.trans h.i1 h.i2 k.lc,Dv.of_lc k.d1 k.d2 h.i3,Dv.of_lc k.d1 k.d2 h.i4⟩
theorem qY2 {p:Int} {f g b r:List Int} (h:Idl p f g b r):gc p f g=gc p b r:=by
  have e:GC p f g=GC p b r:=funext fun x=>propext ⟨h.symm.gc,h.gc⟩
  show pick (GC p f g)=pick (GC p b r)
  rw [e]
theorem Idl.step {p:Int} {b r c:List Int} (h:EqM p r b c):Idl p b r r c:=by
  obtain ⟨Q,h⟩:=h
  refine ⟨.right p b r,⟨[1],scl (-1) Q,fun n=>?_⟩,⟨Q,[1],fun n=>?_⟩,.left p r c⟩
  . have e:cm (scl (-1) Q) r n = -cm Q r n:=by
      have k:=yVZ (-1) (fun i=>Q.getD i 0 * r.getD (n - i) 0) (n + 1)
      unfold cm
      rw [Int.neg_one_mul] at k
      rw [<- k]
      exact yQ7 fun i _=>by rw [yV8,Int.mul_assoc]
    rw [cm_1,e]
    have e2:c.getD n 0 - (b.getD n 0 + -cm Q r n) = -(b.getD n 0 - c.getD n 0 - cm Q r n):=by omega
    rw [e2]
    exact Int.dvd_neg.mpr (h n)
  . rw [cm_1]
    have e2:b.getD n 0 - (cm Q r n + c.getD n 0)=b.getD n 0 - c.getD n 0 - cm Q r n:=by omega
    rw [e2]
    exact h n
theorem Idl.cong {p:Int} {f g b r:List Int} (h:∀ n,p ∣ f.getD n 0 - b.getD n 0) (k:∀ n,p ∣ g.getD n 0 - r.getD n 0):Idl p f g b r:=by
  have neg:∀ {x y:Int},p ∣ x - y -> p ∣ y - x:=fun {x y} h=>by
    have e:y - x = -(x - y):=by omega
    rw [e]
    exact Int.dvd_neg.mpr h
  exact ⟨(Lc.left p f g).congr fun n=>neg (h n),(Lc.right p f g).congr fun n=>neg (k n),(Lc.left p b r).congr h,(Lc.right p b r).congr k⟩
def tlF (p:Int) (b:List Int):Int:=if b=[] then 1 else pl p (1 * tu (lastI b) p)
def nrm (p:Int) (b:List Int):List Int:=Tz p (b.map fun m=>tlF p b * m)
theorem zYH {p:Int} {b:List Int} (hp:IsP p) (fb:InForm b) (rb:∀ n,pl p (b.getD n 0)=b.getD n 0) (hb:b ≠ []):Int.gcd (lastI b) p=1:=by
  have h1:=fb hb
  have h2:=rb (b.length - 1)
  have p2:2 <= p:=hp.1
  rw [yX6 (by omega)] at h2
  have h3:¬ lastI b % p=0:=by
    show ¬ b.getD (b.length - 1) 0 % p=0
    rw [h2]
    exact h1
  have:=zW8 hp h3 1
  rw [Int.pow_one] at this
  exact this
theorem yU2 {p:Int} {b:List Int} (fb:InForm b) (rb:∀ n,pl p (b.getD n 0)=b.getD n 0):Tz p b=b:=yV2 (yZ0 p b) fb fun n=>by rw [yZX,rb n]
theorem qKV {p:Int} {b:List Int} (hp:IsP p) (fb:InForm b) (rb:∀ n,pl p (b.getD n 0)=b.getD n 0):GC p b [] (nrm p b):=by
  by_cases hb:b=[]
  . subst hb
    have e:nrm p []=[]:=rfl
    rw [e]
    exact ⟨yW6,rb,.inl rfl,.left p [] [],.self p [],.self p []⟩
  have p2:2 <= p:=hp.1
  have g:=zYH hp fb rb hb
  have one:pl p 1=1:=by rw [yX6 (by omega)]; exact Int.emod_eq_of_lt (by decide) (by omega)
  have e0:tlF p b=pl p (1 * tu (lastI b) p):=if_neg hb
  obtain ⟨h1,_⟩:=hov p2 g 1 (tlF p b) one (by rw [e0]; rfl)
  have ng:∀ n,(nrm p b).getD n 0=pl p (tlF p b * b.getD n 0):=fun n=>by
    unfold nrm
    rw [yZX,yJU _ (Int.mul_zero _)]
  have l0:=lP hb
  have k1:(nrm p b).getD (b.length - 1) 0=1:=(ng _).trans h1
  have l1:(nrm p b).length <= b.length:=by
    unfold nrm
    refine Nat.le_trans (yJW _ _) ?_
    rw [List.length_map]
    exact Nat.le_refl _
  have l2:b.length <= (nrm p b).length:=by
    by_cases c:b.length <= (nrm p b).length
    . exact c
    . rw [yQ6 (by omega)] at k1
      exact absurd k1 (by decide)
  have le:(nrm p b).length=b.length:=by omega
  generalize tlF p b=t at *
  have ht:p ∣ t * lastI b - 1:=by
    have:=yJ1 p (t * lastI b)
    rw [h1] at this
    have e:t * lastI b - 1 = -(1 - t * lastI b):=by omega
    rw [e]
    exact Int.dvd_neg.mpr this
  refine ⟨yZ0 p _,yX7 p _,.inr ?_,⟨[t],[],fun n=>?_⟩,⟨[lastI b],fun n=>?_⟩,.refl p _ _⟩
  . show (nrm p b).getD ((nrm p b).length - 1) 0=1
    rw [le]
    exact k1
  . rw [cm_c,yYZ,Int.add_zero,ng]
    exact yJ1 p _
  . rw [cm_c,ng]
    show p ∣ b.getD n 0 - 0 - lastI b * pl p (t * b.getD n 0)
    have h2:=yJ1 p (t * b.getD n 0)
    generalize pl p (t * b.getD n 0)=u at *
    generalize b.getD n 0=x at *
    generalize lastI b=l at *
    have e:x - 0 - l * u = -((t * l - 1) * x + l * (u - t * x)):=by
      rw [Int.sub_mul,Int.mul_sub,Int.one_mul,Int.mul_comm t l,Int.mul_assoc]
      omega
    rw [e]
    exact Int.dvd_neg.mpr (Int.dvd_add (Int.dvd_mul_of_dvd_left ht) (Int.dvd_mul_of_dvd_right h2))
theorem zQX {p:Int} {r:List Int} (hp:IsP p) (fr:InForm r) (rr:∀ n,pl p (r.getD n 0)=r.getD n 0) (hr:r ≠ []) (hl:r.length <= 200):DOk p r:=by
  have e:=yU2 fr rr
  exact ⟨hp,hl,by rw [e]; exact hr,by rw [e]; exact zYH hp fr rr hr⟩
theorem jY4 {p:Int} (hp:IsP p):∀ (k:Nat) (b r:List Int),r.length <= k -> InForm b -> (∀ n,pl p (b.getD n 0)=b.getD n 0) -> InForm r -> (∀ n,pl p (r.getD n 0)=r.getD n 0) -> r.length <= 200 -> GC p b r (gc p b r)
  | k,b,[],_,fb,rb,_,_,_=>by
    have h:=qKV hp fb rb
    rw [qVU h]
    exact h
  | k + 1,b,y :: r,hk,fb,rb,fr,rr,hl=>by
    have ok:=zQX hp fr rr (fun z=>by cases z) hl
    have e:=yU2 fr rr
    obtain ⟨_,_,ir,er⟩:=yJH ok b
    rw [e] at ir er
    have il:=ir.len
    have ih:=jY4 hp k (y :: r) (rm p (y :: r) b) (by omega) fr rr ir.form ir.red (by omega)
    have h:=(Idl.step er).gc ih
    rw [qVU h]
    exact h
theorem Idl.tz (p:Int) (f g:List Int):Idl p f g (Tz p f) (Tz p g):=by
  have k:∀ (f:List Int) n,p ∣ f.getD n 0 - (Tz p f).getD n 0:=fun f n=>by
    rw [yZX]
    have:=yJ1 p (f.getD n 0)
    have e:f.getD n 0 - pl p (f.getD n 0) = -(pl p (f.getD n 0) - f.getD n 0):=by omega
    rw [e]
    exact Int.dvd_neg.mpr this
  exact Idl.cong (k f) (k g)
theorem jX9 {p:Int} (hp:IsP p) {f g:List Int} (hg:g.length <= 200):GC p f g (gc p f g):=by
  have tl:=yJW p g
  have h:=jY4 hp _ (Tz p f) (Tz p g) (Nat.le_refl _) (yZ0 p f) (yX7 p f) (yZ0 p g) (yX7 p g) (by omega)
  have h:=(Idl.tz p f g).gc h
  rw [qVU h]
  exact h
theorem zJ6 (T:Top K mg cFE cHP cBA cBL cBP cBT cNO cNW cNP cNN cK cR):Ok P w K mg base 3 "turned_lead" ["kind","f"] (spFI K (Gr cR) (fun as=>∃ p b,as=[.ob 0 p,.ints b] /\ IsP p /\ InForm b /\ ∀ n,pl p (b.getD n 0)=b.getD n 0) fun as=>match as with
    | [.ob 0 p,.ints b]=>tlF p b
    | _=>0):=by
  refine okF T.d_turned_lead zJ4 (fun as ⟨a,b,h,_⟩=>by rw [h]; rfl) (fun f cdv A outer s H E hr=>⟨_,(yQ5 (yQX (jZ8 (qYX 1) (zW5 (xR_V (zW7 0 (zX8 T) hr (yQ0 yQ2 (yQ0 (yYV 1 (zQ3 yQ2) (fun _ _=>rfl)) yQ3))))) yQ2))),fun as hp=>?_⟩)
  obtain ⟨p,b,rfl,hp,fb,rb⟩:=hp
  have p2:2 <= p:=hp.1
  have h9:p.natAbs < 2 ^ 9000:=by
    have:p.natAbs <= 2 ^ 14:=by have:=hp.2.1; omega
    exact Nat.lt_of_le_of_lt this (Nat.pow_lt_pow_right (by decide) (by decide))
  have o9:(1:Int).natAbs < 2 ^ 9000:=Nat.lt_of_le_of_lt (show (1:Int).natAbs <= 2 ^ 14 by decide) (Nat.pow_lt_pow_right (by decide) (by decide))
  have eF:¬ b=[] -> F_O cNO p [1,b.getD (ixO b.length (-1)) 0]=.inl (tlF p b):=fun c=>by
    have l0:=lP c
    have ld:b.getD (ixO b.length (-1)) 0=lastI b:=zXQ b l0
    have e:tlF p b=pl p (1 * tu (lastI b) p):=if_neg c
    rw [ld,e]
    exact FO_r (zYH hp fb rb c)
  refine ⟨⟨.inl rfl,fun c=>⟨⟨⟨rfl,⟨tJ,⟨.inl rfl,tJ,?_,?_⟩,tJ⟩,tJ,?_⟩,?_⟩,?_⟩,fun _=>tJ⟩,?_⟩
  . have c:¬ b=[]:=c
    have l0:=lP c
    show -(b.length:Int) <= -1
    omega
  . have c:¬ b=[]:=c
    have l0:=lP c
    show (-1:Int) < (b.length:Int)
    omega
  . show preO p [1,b.getD (ixO b.length (-1)) 0]
    exact ⟨p2,h9,o9⟩
  . have c:¬ b=[]:=c
    show (toRs (F_O cNO p [1,b.getD (ixO b.length (-1)) 0])).isV
    rw [eF c]
    exact tJ
  . have c:¬ b=[]:=c
    show (toRs (F_O cNO p [1,b.getD (ixO b.length (-1)) 0])).get=.int (pvI (toRs (F_O cNO p [1,b.getD (ixO b.length (-1)) 0])).get)
    rw [eF c]
    rfl
  . show (if ¬ b=[] then PV.int (pvI (toRs (F_O cNO p [1,b.getD (ixO b.length (-1)) 0])).get) else .int 1)=.int (tlF p b)
    by_cases c:b=[]
    . rw [if_neg (fun z=>z c)]
      subst c
      rfl
    . rw [if_pos c,eF c]
      rfl
theorem jV9 {p:Int} {b:List Int} (hp:IsP p):(tlF p b).natAbs < 2 ^ 9000:=by
  have h:(tlF p b).natAbs <= 2 ^ 14:=by
    unfold tlF
    split
    . decide
    . have:=zJ2 hp (yUZ p (1 * tu (lastI b) p))
      omega
  exact Nat.lt_of_le_of_lt h (Nat.pow_lt_pow_right (by decide) (by decide))
structure Fo (p:Int) (f:List Int):Prop where
  form:InForm f
  red:∀ n,pl p (f.getD n 0)=f.getD n 0
theorem Fo.tz (p:Int) (f:List Int):Fo p (Tz p f):=⟨yZ0 p f,yX7 p f⟩
theorem Fo.bd {p:Int} {f:List Int} (hp:IsP p) (h:Fo p f):Bd f:=fun m hm=>by
  obtain ⟨n,_,e⟩:=FM.mem_getD hm
  have:=zJ2 hp (h.red n)
  rw [e] at this
  exact yV7 this
theorem zZ8 (p:Int) (a b:List Int):(Tz p (convL a b)).length <= a.length + b.length:=by
  refine Nat.le_trans (yJW _ _) ?_
  unfold convL
  rw [List.length_map,List.length_range]
  exact Nat.le_refl _
theorem qQH (p:Int) (f:List Int) (n:Nat):p ∣ (Tz p f).getD n 0 - f.getD n 0:=by rw [yZX]; exact yJ1 p _
theorem dvd_tz' (p:Int) (f:List Int) (n:Nat):p ∣ f.getD n 0 - (Tz p f).getD n 0:=by
  have:=qQH p f n
  have e:f.getD n 0 - (Tz p f).getD n 0 = -((Tz p f).getD n 0 - f.getD n 0):=by omega
  rw [e]
  exact Int.dvd_neg.mpr this
abbrev Row3:=List Int × List Int × List Int
def trP (x:Row3):PV:=.tup [.ints x.1,.ints x.2.1,.ints x.2.2]
theorem jZQ {p:Int} {g:List Int} (h:DOk p g) (f:List Int):∃ q,dvF p (Tz p f) (Tz p g)=.tup [.ints q,.ints (rm p (Tz p g) f)] /\ DInv p (Tz p f) (Tz p g) q (rm p (Tz p g) f) /\ (rm p (Tz p g) f).length < (Tz p g).length:=by
  have hd:=lP h.ne
  have p2:2 <= p:=h.pr.1
  obtain ⟨h1,_⟩:=qJQ (z:=p) (ov:=ovp p) (f:=Tz p f) (d:=Tz p g) hd (fun a c ha hc=>hov p2 h.gcd a c ha hc) ((Tz p f).length + 1) _ _ (DInv.start (yZ0 p f) (yX7 p f)) (Nat.lt_succ_self _)
  obtain ⟨q,e,_,_⟩:=yJH h f
  obtain ⟨I,hl⟩:=h1 _ _ e
  exact ⟨q,by unfold dvF; rw [e],I,hl⟩
def lsF (p:Int) (a q b:List Int):List Int:=Tz p (addL a ((Tz p (convL (Tz p q) (Tz p b))).map fun n=>-n))
theorem qJ8 (p:Int) (q b:List Int) (n:Nat):(Tz p (convL (Tz p q) (Tz p b))).getD n 0=pl p (cm q b n):=by
  rw [yZX,yQ4]
  exact jY0 (fun n=>by rw [yZX,yUZ]) (fun n=>by rw [yZX,yUZ]) n
theorem qJ7 (p:Int) (a q b:List Int) (n:Nat):(lsF p a q b).getD n 0=pl p (a.getD n 0 + -pl p (cm q b n)):=by
  unfold lsF
  rw [yZX,yZ2,yJU _ (by decide),qJ8]
theorem qJ5 (p:Int) (a q b:List Int) (n:Nat):p ∣ (lsF p a q b).getD n 0 - (a.getD n 0 - cm q b n):=by
  rw [qJ7]
  have h1:=yJ1 p (a.getD n 0 + -pl p (cm q b n))
  have h2:=yJ1 p (cm q b n)
  generalize pl p (a.getD n 0 + -pl p (cm q b n))=u at *
  generalize pl p (cm q b n)=y at *
  have e:u - (a.getD n 0 - cm q b n)=(u - (a.getD n 0 + -y)) + -(y - cm q b n):=by omega
  rw [e]
  exact Int.dvd_add h1 (Int.dvd_neg.mpr h2)
theorem jX5 (p:Int) (a q b:List Int):(lsF p a q b).length <= max a.length (q.length + b.length - 1):=yKY (yZ0 p _) fun n hn=>by
  rw [qJ7,yQ6 (xs:=a) (by omega),qHV (by omega),pl_0]
  exact pl_0 p
theorem jZJ (p:Int) (a b:List Int):(lsF p a [] b).length <= a.length:=yKY (yZ0 p _) fun n hn=>by
  rw [qJ7,yQ6 (xs:=a) hn,yYZ,pl_0]
  exact pl_0 p
def rlF (p:Int) (x:Row3) (q:List Int) (y:Row3):Row3:=(lsF p x.1 q y.1,lsF p x.2.1 q y.2.1,lsF p x.2.2 q y.2.2)
def dqF (p:Int) (b r:List Int):List Int:=pvL (itP (dvF p (Tz p b) (Tz p r)) 0)
open Classical in
def shN (p:Int):Nat -> Row3 -> Row3 -> Row3
  | 0,b,_=>b
  | n + 1,b,r=>if r.1=[] then b else shN p n r (rlF p b (dqF p b.1 r.1) r)
structure RI (p:Int) (f g:List Int) (x:Row3):Prop where
  f1:Fo p x.1
  f2:Fo p x.2.1
  f3:Fo p x.2.2
  eq:∀ n,p ∣ x.1.getD n 0 - (cm x.2.1 f n + cm x.2.2 g n)
theorem jY3 (p:Int) (a q b f:List Int) (n:Nat):p ∣ cm (lsF p a q b) f n - (cm a f n - cm q (convL b f) n):=by
  have h:=yHY (p:=p) (a:=lsF p a q b) (b:=subL a (convL q b)) (c:=f) (fun i=>by rw [yWQ,yQ4]; exact qJ5 p a q b i) n
  rw [qZ7,yJ5] at h
  exact h
theorem RI.step {p:Int} {f g:List Int} {b r:Row3} (hb:RI p f g b) (hr:RI p f g r) (q:List Int):RI p f g (rlF p b q r):=by
  refine ⟨.tz p _,.tz p _,.tz p _,fun n=>?_⟩
  have h1:=qJ5 p b.1 q r.1 n
  have h2:=jY3 p b.2.1 q r.2.1 f n
  have h3:=jY3 p b.2.2 q r.2.2 g n
  have h4:=hb.eq n
  have h5:=yHY (p:=p) (a:=r.1) (b:=addL (convL r.2.1 f) (convL r.2.2 g)) (c:=q) (fun i=>by rw [yZ2,yQ4,yQ4]; exact hr.eq i) n
  rw [yWU,yQK r.1 q,yQK (convL r.2.1 f) q,yQK (convL r.2.2 g) q] at h5
  show p ∣ (lsF p b.1 q r.1).getD n 0 - (cm (lsF p b.2.1 q r.2.1) f n + cm (lsF p b.2.2 q r.2.2) g n)
  generalize (lsF p b.1 q r.1).getD n 0=x1 at *
  generalize cm (lsF p b.2.1 q r.2.1) f n=x2 at *
  generalize cm (lsF p b.2.2 q r.2.2) g n=x3 at *
  generalize b.1.getD n 0=y1 at *
  generalize cm b.2.1 f n=y2 at *
  generalize cm b.2.2 g n=y3 at *
  generalize cm q r.1 n=z1 at *
  generalize cm q (convL r.2.1 f) n=z2 at *
  generalize cm q (convL r.2.2 g) n=z3 at *
  have e:x1 - (x2 + x3)=(x1 - (y1 - z1)) + -(x2 - (y2 - z2)) + -(x3 - (y3 - z3)) + (y1 - (y2 + y3)) + -(z1 - (z2 + z3)):=by omega
  rw [e]
  exact Int.dvd_add (Int.dvd_add (Int.dvd_add (Int.dvd_add h1 (Int.dvd_neg.mpr h2)) (Int.dvd_neg.mpr h3)) h4) (Int.dvd_neg.mpr h5)
structure SI (p:Int) (f g:List Int) (N:Nat) (b r:Row3):Prop where
  rb:RI p f g b
  rr:RI p f g r
  gcd:gc p b.1 r.1=gc p f g
  l1:r.2.1.length + b.1.length <= N
  l2:b.2.1.length + r.1.length <= N
  l3:r.2.2.length + b.1.length <= N
  l4:b.2.2.length + r.1.length <= N
theorem SI.step {p:Int} {f g:List Int} {N:Nat} {b r:Row3} (hp:IsP p) (h:SI p f g N b r) (hne:r.1 ≠ []) (hN:N <= 200):SI p f g N r (rlF p b (dqF p b.1 r.1) r) /\ (rlF p b (dqF p b.1 r.1) r).1.length < r.1.length /\ dvF p (Tz p b.1) (Tz p r.1)=.tup [.ints (dqF p b.1 r.1),.ints (rm p r.1 b.1)] /\ (dqF p b.1 r.1).length <= b.1.length /\ Bd (dqF p b.1 r.1):=by
  have a1:=h.l1
  have a2:=h.l2
  have a3:=h.l3
  have a4:=h.l4
  have ok:=zQX hp h.rr.f1.form h.rr.f1.red hne (by omega)
  have et:=yU2 h.rr.f1.form h.rr.f1.red
  have eb:=yU2 h.rb.f1.form h.rb.f1.red
  obtain ⟨q,e,I,hl⟩:=jZQ ok b.1
  have eq0:dqF p b.1 r.1=q:=by unfold dqF; rw [e]; rfl
  rw [eq0]
  rw [et] at I hl
  rw [eb] at I
  have e:dvF p (Tz p b.1) (Tz p r.1)=.tup [.ints q,.ints (rm p r.1 b.1)]:=by rw [e,et]
  obtain ⟨_,_,_,er⟩:=yJH ok b.1
  rw [et] at er
  have e1:lsF p b.1 q r.1=rm p r.1 b.1:=yV2 (yZ0 p _) I.rf fun n=>zXZ (yX7 p _ n) (I.rr n) (by
    have k1:=qJ5 p b.1 q r.1 n
    have k2:=I.eq n
    show p ∣ (lsF p b.1 q r.1).getD n 0 - (rm p r.1 b.1).getD n 0
    generalize (lsF p b.1 q r.1).getD n 0=x at *
    generalize (rm p r.1 b.1).getD n 0=y at *
    generalize cm q r.1 n=z at *
    have e:x - y=(x - (b.1.getD n 0 - z)) + -(z + y - b.1.getD n 0):=by omega
    rw [e]
    exact Int.dvd_add k1 (Int.dvd_neg.mpr k2))
  have r0:=lP hne
  have ql:=I.ql
  have rl:=I.rl
  have len:∀ {a c:List Int},c.length + b.1.length <= N -> a.length + r.1.length <= N -> (lsF p a q c).length + r.1.length <= N:=fun {a c} k1 k2=>by
    by_cases z:q=[]
    . subst z
      have:=jZJ p a c
      omega
    . have:=lP z
      have:=jX5 p a q c
      omega
  refine ⟨⟨h.rr,h.rb.step h.rr q,?_,len a1 a2,?_,len a3 a4,?_⟩,?_,e,by omega,fun m hm=>?_⟩
  . show gc p r.1 (lsF p b.1 q r.1)=gc p f g
    rw [e1,<- h.gcd]
    exact (qY2 (Idl.step er)).symm
  . show r.2.1.length + (lsF p b.1 q r.1).length <= N
    rw [e1]; omega
  . show r.2.2.length + (lsF p b.1 q r.1).length <= N
    rw [e1]; omega
  . show (lsF p b.1 q r.1).length < r.1.length
    rw [e1]; exact hl
  . obtain ⟨n,_,k⟩:=FM.mem_getD hm
    have:=zJ2 hp (I.qr n)
    rw [k] at this
    exact yV7 this
theorem SI.start {p:Int} {f g:List Int} {N:Nat} (hp:IsP p) (hf:f.length + 1 <= N) (hg:g.length + 1 <= N):SI p f g N (Tz p f,[1],[]) (Tz p g,[],[1]):=by
  have p2:2 <= p:=hp.1
  have one:Fo p [1]:=by
    refine ⟨fun _=>by decide,fun n=>?_⟩
    match n with
    | 0 =>
      show pl p 1=1
      rw [yX6 (by omega)]
      exact Int.emod_eq_of_lt (by decide) (by omega)
    | n + 1 =>
      have e:([1]:List Int).getD (n + 1) 0=0:=yQ6 (by show 1 <= n + 1; omega)
      rw [e,pl_0]
  have nil:Fo p []:=⟨yW6,fun n=>by show pl p 0=0; exact pl_0 p⟩
  have l1:=yJW p f
  have l2:=yJW p g
  refine ⟨⟨.tz p f,one,nil,fun n=>?_⟩,⟨.tz p g,nil,one,fun n=>?_⟩,(qY2 (Idl.tz p f g)).symm,?_,?_,?_,?_⟩
  . show p ∣ (Tz p f).getD n 0 - (cm [1] f n + cm [] g n)
    rw [cm_1,yYZ,Int.add_zero]
    exact qQH p f n
  . show p ∣ (Tz p g).getD n 0 - (cm [] f n + cm [1] g n)
    rw [cm_1,yYZ,Int.zero_add]
    exact qQH p g n
  . show 0 + (Tz p f).length <= N
    omega
  . show 1 + (Tz p g).length <= N
    omega
  . show 1 + (Tz p f).length <= N
    omega
  . show 0 + (Tz p g).length <= N
    omega
theorem qUU {p:Int} {f g:List Int} {N:Nat} (hp:IsP p) (hN:N <= 200):∀ (k:Nat) (b r:Row3),SI p f g N b r -> r.1.length < k -> RI p f g (shN p k b r) /\ gc p f g=nrm p (shN p k b r).1 /\ (shN p k b r).1.length <= N /\ (shN p k b r).2.1.length <= N /\ (shN p k b r).2.2.length <= N
  | 0,_,_,_,h=>by omega
  | k + 1,b,r,h,hk=>by
    unfold shN
    by_cases c:r.1=[]
    . rw [if_pos c]
      have e:=h.gcd
      have a1:=h.l1
      have a2:=h.l2
      have a4:=h.l4
      rw [c,qVU (qKV hp h.rb.f1.form h.rb.f1.red)] at e
      exact ⟨h.rb,e.symm,by omega,by omega,by omega⟩
    . rw [if_neg c]
      obtain ⟨h2,hl,_⟩:=h.step hp c hN
      exact qUU hp hN k _ _ h2 (by omega)
def scF (t p:Int) (x:List Int):List Int:=Tz p (x.map fun m=>t * m)
def shE (p:Int) (f g:List Int):Row3:=shN p ((Tz p g).length + 1) (Tz p f,[1],[]) (Tz p g,[],[1])
def shF (p:Int) (f g:List Int):Row3:=(scF (tlF p (shE p f g).1) p (shE p f g).1,scF (tlF p (shE p f g).1) p (shE p f g).2.1,scF (tlF p (shE p f g).1) p (shE p f g).2.2)
theorem qXZ (t p:Int) (x:List Int) (n:Nat):(scF t p x).getD n 0=pl p (t * x.getD n 0):=by
  unfold scF
  rw [yZX,yJU _ (Int.mul_zero t)]
theorem zW6 (t p:Int) (x:List Int):(scF t p x).length <= x.length:=by
  unfold scF
  refine Nat.le_trans (yJW _ _) ?_
  rw [List.length_map]
  exact Nat.le_refl _
theorem qU0 {p:Int} {f g:List Int} {N:Nat} (hp:IsP p) (hN:N <= 200) (hf:f.length + 1 <= N) (hg:g.length + 1 <= N):RI p f g (shF p f g) /\ (shF p f g).1=gc p f g /\ (shF p f g).1.length <= N /\ (shF p f g).2.1.length <= N /\ (shF p f g).2.2.length <= N:=by
  obtain ⟨h1,h2,h3,h4,h5⟩:=qUU hp hN ((Tz p g).length + 1) _ _ (SI.start hp hf hg) (Nat.lt_succ_self _)
  have h1:RI p f g (shE p f g):=h1
  have h2:gc p f g=nrm p (shE p f g).1:=h2
  have h3:(shE p f g).1.length <= N:=h3
  have h4:(shE p f g).2.1.length <= N:=h4
  have h5:(shE p f g).2.2.length <= N:=h5
  refine ⟨?_,h2.symm,Nat.le_trans (zW6 _ _ _) h3,Nat.le_trans (zW6 _ _ _) h4,Nat.le_trans (zW6 _ _ _) h5⟩
  unfold shF
  generalize shE p f g=x at *
  generalize tlF p x.1=t at *
  refine ⟨.tz p _,.tz p _,.tz p _,fun n=>?_⟩
  have sc:∀ (a f:List Int),p ∣ cm (scF t p a) f n - t * cm a f n:=fun a f=>by
    have h:=yHY (p:=p) (a:=scF t p a) (b:=scl t a) (c:=f) (fun i=>by rw [qXZ,yV8]; exact yJ1 p _) n
    have e:cm (scl t a) f n=t * cm a f n:=by
      unfold cm
      rw [<- yVZ]
      exact yQ7 fun i _=>by rw [yV8,Int.mul_assoc]
    rw [e] at h
    exact h
  have k1:p ∣ (scF t p x.1).getD n 0 - t * x.1.getD n 0:=by rw [qXZ]; exact yJ1 p _
  have k2:=sc x.2.1 f
  have k3:=sc x.2.2 g
  have k4:p ∣ t * (x.1.getD n 0 - (cm x.2.1 f n + cm x.2.2 g n)):=Int.dvd_mul_of_dvd_right (h1.eq n)
  rw [Int.mul_sub,Int.mul_add] at k4
  show p ∣ (scF t p x.1).getD n 0 - (cm (scF t p x.2.1) f n + cm (scF t p x.2.2) g n)
  generalize (scF t p x.1).getD n 0=y1 at *
  generalize cm (scF t p x.2.1) f n=y2 at *
  generalize cm (scF t p x.2.2) g n=y3 at *
  generalize t * x.1.getD n 0=z1 at *
  generalize t * cm x.2.1 f n=z2 at *
  generalize t * cm x.2.2 g n=z3 at *
  have e:y1 - (y2 + y3)=(y1 - z1) + -(y2 - z2) + -(y3 - z3) + (z1 - (z2 + z3)):=by omega
  rw [e]
  exact Int.dvd_add (Int.dvd_add (Int.dvd_add k1 (Int.dvd_neg.mpr k2)) (Int.dvd_neg.mpr k3)) k4
theorem tr_0 (x:Row3):hasIt (trP x) 0:=⟨by show -(3:Int) <= 0; decide,by show (0:Int) < 3; decide⟩
theorem tr_1 (x:Row3):hasIt (trP x) 1:=⟨by show -(3:Int) <= 1; decide,by show (1:Int) < 3; decide⟩
theorem tr_2 (x:Row3):hasIt (trP x) 2:=⟨by show -(3:Int) <= 2; decide,by show (2:Int) < 3; decide⟩
theorem zK2 (T:Top K mg cFE cHP cBA cBL cBP cBT cNO cNW cNP cNN cK cR):Ok P w K mg base 5 "row_less" ["kind","row","often","other"] (spF K (Gr cR) (fun as=>∃ p x q y,as=[.ob 0 p,trP x,.ints q,trP y] /\ IsP p /\ (x.1.length <= 400 /\ x.2.1.length <= 400 /\ x.2.2.length <= 400) /\ (q.length + y.1.length <= 400 /\ q.length + y.2.1.length <= 400 /\ q.length + y.2.2.length <= 400) /\ Bd q /\ Bd y.1 /\ Bd y.2.1 /\ Bd y.2.2) fun as=>match as with
    | [.ob 0 p,.tup [.ints a,.ints b,.ints c],.ints q,.tup [.ints d,.ints e,.ints f]]=>trP (rlF p (a,b,c) q (d,e,f))
    | _=>.non):=by
  refine okF T.d_row_less zWV (fun as ⟨a,b,c,d,h,_⟩=>by rw [h]; rfl) (fun f cdv A outer s H E hr=>⟨_,(yQ5 (yQX (zQK (yQ0 (newL (xcl (zK4 T) hr (yQ0 (xv 0) (yQ0 (xl_of (yQJ (xv 1) yQ2 (fun _ _=>rfl))) (yQ0 (newL (xcl (yKQ T) hr (yQ0 (xv 0) (yQ0 (xl 2) (yQ0 (xl_of (yQJ (xv 3) yQ2 (fun _ _=>rfl))) yQ3))))) yQ3))))) (yQ0 (newL (xcl (zK4 T) hr (yQ0 (xv 0) (yQ0 (xl_of (yQJ (xv 1) yQ2 (fun _ _=>rfl))) (yQ0 (newL (xcl (yKQ T) hr (yQ0 (xv 0) (yQ0 (xl 2) (yQ0 (xl_of (yQJ (xv 3) yQ2 (fun _ _=>rfl))) yQ3))))) yQ3))))) (yQ0 (newL (xcl (zK4 T) hr (yQ0 (xv 0) (yQ0 (xl_of (yQJ (xv 1) yQ2 (fun _ _=>rfl))) (yQ0 (newL (xcl (yKQ T) hr (yQ0 (xv 0) (yQ0 (xl 2) (yQ0 (xl_of (yQJ (xv 3) yQ2 (fun _ _=>rfl))) yQ3))))) yQ3))))) yQ3)))))),fun as hp=>?_⟩)
  obtain ⟨p,x,q,y,rfl,hp,⟨x1,x2,x3⟩,⟨q1,q2,q3⟩,bq,b1,b2,b3⟩:=hp
  obtain ⟨h0,h9⟩:=qZU hp
  have len:∀ d:List Int,q.length + d.length <= 400 -> (Tz p (convL (Tz p q) (Tz p d))).length <= 500:=fun d h=>by
    have k1:=yJW p (convL (Tz p q) (Tz p d))
    have k2:=yJW p q
    have k3:=yJW p d
    have k4:(convL (Tz p q) (Tz p d)).length=(Tz p q).length + (Tz p d).length:=by unfold convL; rw [List.length_map,List.length_range]
    omega
  exact ⟨⟨⟨⟨rfl,⟨⟨rfl,tJ,tr_0 x⟩,rfl⟩,⟨⟨rfl,rfl,⟨⟨rfl,tJ,tr_0 y⟩,rfl⟩,tJ⟩,p,q,y.1,rfl,h0,h9,by omega,bq,b1⟩,tJ⟩,p,x.1,_,rfl,by omega,len _ q1⟩,⟨⟨rfl,⟨⟨rfl,tJ,tr_1 x⟩,rfl⟩,⟨⟨rfl,rfl,⟨⟨rfl,tJ,tr_1 y⟩,rfl⟩,tJ⟩,p,q,y.2.1,rfl,h0,h9,by omega,bq,b2⟩,tJ⟩,p,x.2.1,_,rfl,by omega,len _ q2⟩,⟨⟨rfl,⟨⟨rfl,tJ,tr_2 x⟩,rfl⟩,⟨⟨rfl,rfl,⟨⟨rfl,tJ,tr_2 y⟩,rfl⟩,tJ⟩,p,q,y.2.2,rfl,h0,h9,by omega,bq,b3⟩,tJ⟩,p,x.2.2,_,rfl,by omega,len _ q3⟩,tJ⟩,rfl⟩
theorem zZ1 (T:Top K mg cFE cHP cBA cBL cBP cBT cNO cNW cNP cNN cK cR):Ok P w K mg base 6 "shares" ["kind","f","g"] (spF K (Gr cR) (fun as=>∃ p f g,as=[.ob 0 p,.ints f,.ints g] /\ IsP p /\ f.length <= 150 /\ g.length <= 150) fun as=>match as with
    | [.ob 0 p,.ints f,.ints g]=>trP (shF p f g)
    | _=>.non):=by
  refine okF T.d_shares yX2 (fun as ⟨a,b,c,h,_⟩=>by rw [h]; rfl) (fun f cdv A outer s H E hr=>⟨_,(yQ1 (yZQ (i:=3) yX2.nd rfl (Or.inl rfl) (zQK (yQ0 (newL (xcl (yZ6 T) hr (yQ0 (xv 0) (yQ0 (xl 1) yQ3)))) (yQ0 (newL (yZK (yQ0 yQ2 yQ3))) (yQ0 (newL (yZK yQ3)) yQ3)))))
 (yQ1 (yZQ (i:=4) yX2.nd rfl (Or.inl rfl) (zQK (yQ0 (newL (xcl (yZ6 T) hr (yQ0 (xv 0) (yQ0 (xl 2) yQ3)))) (yQ0 (newL (yZK yQ3)) (yQ0 (newL (yZK (yQ0 yQ2 yQ3))) yQ3)))))
 (yQ1 (yW3 PassesOwn.never (jV0 (xl_of (yQJ (xv 4) yQ2 (fun _ _=>rfl))))
 (yQ1 (yZ1 (i:=5) yX2.nd rfl (Or.inl rfl) (xl_of (yQJ (xc (yKZ T) hr (yQ0 (xv 0) (yQ0 (xl_of (yQJ (xv 3) yQ2 (fun _ _=>rfl))) (yQ0 (xl_of (yQJ (xv 4) yQ2 (fun _ _=>rfl))) yQ3)))) yQ2 (fun _ _=>rfl))))
 (yQ1 (yZQ (i:=6) yX2.nd rfl (Or.inl rfl) (xc (zK2 T) hr (yQ0 (xv 0) (yQ0 (xv 3) (yQ0 (xl 5) (yQ0 (xv 4) yQ3))))))
 (yQ1 (yZQ (i:=3) yX2.nd rfl (Or.inl rfl) (xv 4))
 (yQ5 (yZQ (i:=4) yX2.nd rfl (Or.inl rfl) (xv 6)))))))
 (yQ1 (yQ9 (i:=7) yX2.nd rfl (Or.inl rfl) (xci (zJ6 T) hr (yQ0 (xv 0) (yQ0 (xl_of (yQJ (xv 3) yQ2 (fun _ _=>rfl))) yQ3))))
 (yQ5 (yQX (zQK (yQ0 (newL (xcl (zZ7 T) hr (yQ0 (xv 0) (yQ0 (xl_of (yQJ (xv 3) yQ2 (fun _ _=>rfl))) (yQ0 (xn 7) yQ3))))) (yQ0 (newL (xcl (zZ7 T) hr (yQ0 (xv 0) (yQ0 (xl_of (yQJ (xv 3) yQ2 (fun _ _=>rfl))) (yQ0 (xn 7) yQ3))))) (yQ0 (newL (xcl (zZ7 T) hr (yQ0 (xv 0) (yQ0 (xl_of (yQJ (xv 3) yQ2 (fun _ _=>rfl))) (yQ0 (xn 7) yQ3))))) yQ3)))))))))),fun as hp=>?_⟩)
  obtain ⟨p,f,g,rfl,hp,hf,hg⟩:=hp
  obtain ⟨N,hN⟩:∃ N,N=max f.length g.length + 1:=⟨_,rfl⟩
  have N2:N <= 200:=by omega
  have S0:SI p f g N (Tz p f,[1],[]) (Tz p g,[],[1]):=SI.start hp (by omega) (by omega)
  refine ⟨⟨⟨⟨rfl,rfl,tJ⟩,p,f,rfl,by omega⟩,⟨⟨tJ,tJ⟩,tJ⟩,⟨tJ,tJ⟩,tJ⟩,fun b0 eb0=>?_⟩
  have eb0:b0=trP (Tz p f,[1],[]):=eb0
  refine ⟨⟨⟨⟨rfl,rfl,tJ⟩,p,g,rfl,by omega⟩,⟨tJ,tJ⟩,⟨⟨tJ,tJ⟩,tJ⟩,tJ⟩,fun r0 er0=>?_⟩
  have er0:r0=trP (Tz p g,[],[1]):=er0
  refine yZZ (ρ':=[.fr (.ob 0 p),.fr (.ints f),.fr (.ints g),.fr b0,.fr r0,.un,.un,.un]) rfl ?_
  refine ⟨fun ρ=>∃ b r v5 v6 k,ρ=[.fr (.ob 0 p),.fr (.ints f),.fr (.ints g),.fr (trP b),.fr (trP r),v5,v6,.un] /\ SI p f g N b r /\ r.1.length < k /\ shN p k b r=shE p f g,fun ρ=>(pvL (itP (getP ρ 4) 0)).length,⟨_,_,.un,.un,(Tz p g).length + 1,by rw [eb0,er0],S0,Nat.lt_succ_self _,rfl⟩,?_⟩
  rintro ρ ⟨b,r,v5,v6,k,rfl,S,hk,ek⟩
  refine ⟨⟨⟨rfl,tJ,tr_0 r⟩,rfl⟩,fun c=>?_,fun c=>?_⟩
  . have c:¬ r.1=[]:=c
    obtain ⟨S2,l2,e,ql,qb⟩:=S.step hp c N2
    have a1:=S.l1
    have a2:=S.l2
    have a3:=S.l3
    have a4:=S.l4
    have ok:=zQX hp S.rr.f1.form S.rr.f1.red c (by omega)
    obtain ⟨k,rfl⟩:∃ n,k=n + 1:=⟨k - 1,by omega⟩
    have ek2:shN p k r (rlF p b (dqF p b.1 r.1) r)=shE p f g:=by
      rw [<- ek]
      conv=>rhs; unfold shN
      rw [if_neg c]
    refine ⟨⟨⟨⟨⟨rfl,⟨⟨rfl,tJ,tr_0 b⟩,rfl⟩,⟨⟨rfl,tJ,tr_0 r⟩,rfl⟩,tJ⟩,p,b.1,r.1,rfl,ok,by omega⟩,tJ,?_⟩,?_⟩,fun q eq=>?_⟩
    . show hasIt (dvF p (Tz p b.1) (Tz p r.1)) 0
      rw [e]
      exact ⟨by show (-2:Int) <= 0; decide,by show (0:Int) < 2; decide⟩
    . show itP (dvF p (Tz p b.1) (Tz p r.1)) 0=.ints (pvL (itP (dvF p (Tz p b.1) (Tz p r.1)) 0))
      rw [e]
      rfl
    have eq:q=dqF p b.1 r.1:=eq
    rw [<- eq] at S2 l2 ql qb ek2
    clear e eq
    refine yZZ (ρ':=[.fr (.ob 0 p),.fr (.ints f),.fr (.ints g),.fr (trP b),.fr (trP r),.fr (.ints q),v6,.un]) rfl ?_
    refine ⟨⟨⟨rfl,rfl,rfl,rfl,tJ⟩,p,b,q,r,rfl,hp,⟨by omega,by omega,by omega⟩,⟨by omega,by omega,by omega⟩,qb,S.rr.f1.bd hp,S.rr.f2.bd hp,S.rr.f3.bd hp⟩,fun n en=>?_⟩
    have en:n=trP (rlF p b q r):=en
    refine yZZ (ρ':=[.fr (.ob 0 p),.fr (.ints f),.fr (.ints g),.fr (trP b),.fr (trP r),.fr (.ints q),.fr n,.un]) rfl ?_
    refine ⟨rfl,fun b1 eb1=>⟨rfl,fun r1 er1=>⟨⟨r,rlF p b q r,.fr (.ints q),.fr n,k,?_,S2,by omega,ek2⟩,?_⟩⟩⟩
    . have eb1:b1=trP r:=eb1
      have er1:r1=n:=er1
      rw [eb1,er1,en]
      rfl
    . have er1:r1=n:=er1
      show (pvL (itP r1 0)).length < r.1.length
      rw [er1,en]
      exact l2
  . have c:¬ ¬ r.1=[]:=c
    have c:r.1=[]:=Classical.not_not.mp c
    have a1:=S.l1
    have a2:=S.l2
    have a4:=S.l4
    obtain ⟨k,rfl⟩:∃ n,k=n + 1:=⟨k - 1,by omega⟩
    have ek2:b=shE p f g:=by
      rw [<- ek]
      unfold shN
      rw [if_pos c]
    refine ⟨⟨⟨rfl,⟨⟨rfl,tJ,tr_0 b⟩,rfl⟩,tJ⟩,p,b.1,rfl,hp,S.rb.f1.form,S.rb.f1.red⟩,fun t et=>?_⟩
    have et:t=tlF p b.1:=et
    have tb:t.natAbs < 2 ^ 9000:=by rw [et]; exact jV9 hp
    refine yZZ (ρ':=[.fr (.ob 0 p),.fr (.ints f),.fr (.ints g),.fr (trP b),.fr (trP r),v5,v6,.fr (.int t)]) rfl ?_
    refine ⟨⟨⟨⟨rfl,⟨⟨rfl,tJ,tr_0 b⟩,rfl⟩,rfl,tJ⟩,p,b.1,t,rfl,by omega,tb,S.rb.f1.bd hp⟩,⟨⟨rfl,⟨⟨rfl,tJ,tr_1 b⟩,rfl⟩,rfl,tJ⟩,p,b.2.1,t,rfl,by omega,tb,S.rb.f2.bd hp⟩,⟨⟨rfl,⟨⟨rfl,tJ,tr_2 b⟩,rfl⟩,rfl,tJ⟩,p,b.2.2,t,rfl,by omega,tb,S.rb.f3.bd hp⟩,tJ⟩,?_⟩
    show PV.tup [.ints (scF t p b.1),.ints (scF t p b.2.1),.ints (scF t p b.2.2)]=trP (shF p f g)
    unfold shF
    rw [<- ek2,et]
    rfl
theorem yJK (t:List (List Int)):(t.map PV.ints).map pvL=t:=by
  rw [List.map_map]
  have:pvL ∘ PV.ints=id:=rfl
  rw [this,List.map_id]
theorem zH1 {R:List (List Int)} {k:Nat} (h:k < R.length):(R.map PV.ints).getD k .non=.ints (R.getD k []):=by
  rw [gQ,gQ,List.getElem?_map,List.getElem?_eq_getElem h]
  rfl
theorem qK5 {t:List (List Int)} {i:Nat} (h:i < t.length):itP (tabP t) (i:Int)=.ints (t.getD i []):=by
  show (t.map PV.ints).getD (ixO (t.map PV.ints).length (i:Int)) .non=_
  have e:ixO (t.map PV.ints).length (i:Int)=i:=by unfold ixO; rw [if_pos (by omega)]; omega
  rw [e,zH1 h]
theorem zXW {t:List (List Int)} {i:Nat} (h:i < t.length):hasIt (tabP t) (i:Int):=by
  show -((t.map PV.ints).length:Int) <= (i:Int) /\ (i:Int) < ((t.map PV.ints).length:Int)
  rw [List.length_map]
  omega
theorem zKY {t:List (List Int)} {i:Nat} (h:i < t.length):pvL (itP (tabP t) (i:Int))=t.getD i []:=by rw [qK5 h]; rfl
theorem zVY {t:List (List Int)} {i:Nat} (h:i < t.length):itP (tabP t) (i:Int)=.ints (pvL (itP (tabP t) (i:Int))):=by rw [qK5 h]; rfl
theorem qY9 {r:List Int} {j:Nat} (h:j < r.length):hasIt (.ints r) (j:Int):=⟨by show -(r.length:Int) <= (j:Int); omega,by show (j:Int) < (r.length:Int); omega⟩
theorem ix_n {n j:Nat} (h:j < n):ixO n (j:Int)=j:=by unfold ixO; rw [if_pos (by omega)]; omega
def wd (m:Int) (r:List Int):List Int:=r ++ List.replicate (m - (r.length:Int)).toNat 0
theorem qX0 (m:Int) (r:List Int) (n:Nat):(wd m r).getD n 0=r.getD n 0:=zUV r _ n
theorem jY8 {m:Int} {r:List Int} (h:(r.length:Int) <= m):((wd m r).length:Int)=m:=by
  unfold wd
  rw [List.length_append,List.length_replicate]
  omega
def rowsF (p:Int) (d f:List Int) (n:Nat):List (List Int):=(List.range n).map fun k=>wd ((d.length:Int) - 1) (rm p d (pw f k))
theorem qQ2 (p:Int) (d f:List Int) (n:Nat):rowsF p d f (n + 1)=rowsF p d f n ++ [wd ((d.length:Int) - 1) (rm p d (pw f n))]:=by
  unfold rowsF
  rw [List.range_succ,List.map_append]
  rfl
theorem zW0 (p:Int) (d f:List Int) (n:Nat):(rowsF p d f n).length=n:=by unfold rowsF; rw [List.length_map,List.length_range]
theorem zX4 (T:Top K mg cFE cHP cBA cBL cBP cBT cNO cNW cNP cNN cK cR):Ok P w K mg base 6 "power_rows" ["kind","f","count","g"] (spF K (Gr cR) (fun as=>∃ p f,∃ n:Nat,∃ g,as=[.ob 0 p,.ints f,.int (n:Int),.ints g] /\ DOk p g /\ f.length <= 50 /\ Bd f /\ (Tz p g).length <= 100 /\ n <= 100) fun as=>match as with
    | [.ob 0 p,.ints f,.int n,.ints g]=>tabP (rowsF p (Tz p g) f n.toNat)
    | _=>.non):=by
  refine okF T.d_power_rows yJ3 (fun as ⟨a,b,c,d,h,_⟩=>by rw [h]; rfl) (fun f cdv A outer s H E hr=>⟨_,(yQ1 (yQ9 (i:=4) yJ3.nd rfl (Or.inl rfl) (yY5 (yV0 T.b_len (newL (xcl (yZ6 T) hr (yQ0 (xv 0) (yQ0 (xl 3) yQ3))))) yQ2))
 (yQ1 (yZ1 (i:=5) yJ3.nd rfl (Or.inl rfl) (xcL (zVZ T) hr (yQ0 (xv 0) (yQ0 (xl 1) (yQ0 yQ2 (yQ0 (xl 3) yQ3))))))
 (yQ1 (zUH (i:=6) yJ3.nd rfl (Or.inl rfl) (zUK yQ3))
 (yQ1 (yWY (k:=7) PassesOwn.never rfl (by rfl) T.b_range (xn 2) yJ3.nd rfl (Or.inl rfl)
 (yQ1 (zU8 6 (newL (zQU (xl 5) (newL (zQ6 (yZK (yQ0 yQ2 yQ3)) (yY5 (xn 4) (yJ2 5 T.b_len)) (fun _=>rfl))))))
 (yQ5 (yZ1 (i:=5) yJ3.nd rfl (Or.inl rfl) (xcL (yKH T) hr (yQ0 (xv 0) (yQ0 (xl 5) (yQ0 (xl 1) (yQ0 (xl 3) yQ3)))))))))
 (yJ4 6 (yQ5 (yQX (xv 6)))))))),fun as hp=>?_⟩)
  obtain ⟨p,f,n,g,rfl,ok,hl,hb,hd,hn⟩:=hp
  have gl:=ok.len
  refine ⟨⟨⟨⟨⟨rfl,rfl,tJ⟩,p,g,rfl,by omega⟩,tJ⟩,tJ⟩,fun dg edg=>?_⟩
  have edg:dg=((Tz p g).length:Int) - 1:=edg
  subst edg
  refine ⟨⟨⟨rfl,rfl,tJ,rfl,tJ⟩,p,f,0,g,rfl,ok,by omega,hd⟩,fun r0 er0=>?_⟩
  have er0:r0=rm p (Tz p g) (pw f 0):=er0
  refine ⟨tJ,fun l0 el0=>?_⟩
  have el0:l0=[]:=el0
  refine yZZ (ρ':=[.fr (.ob 0 p),.fr (.ints f),.fr (.int (n:Int)),.fr (.ints g),.fr (.int (((Tz p g).length:Int) - 1)),.fr (.ints r0),.ow (.lst l0),.un]) rfl ?_
  refine ⟨rfl,⟨by show -(2:Int) ^ 62 <= (n:Int); omega,by show (n:Int) < 2 ^ 62; omega⟩,fun i ρ=>∃ v7,ρ=[.fr (.ob 0 p),.fr (.ints f),.fr (.int (n:Int)),.fr (.ints g),.fr (.int (((Tz p g).length:Int) - 1)),.fr (.ints (rm p (Tz p g) (pw f i))),.ow (tabP (rowsF p (Tz p g) f i)),v7],⟨.un,by rw [er0,el0]; rfl⟩,?_,?_⟩
  . rintro i ρ hi ⟨v7,rfl⟩
    have hi:i < ((n:Nat):Int).toNat:=hi
    obtain ⟨_,_,ir,er⟩:=yJH ok (pw f i)
    have e1:rm p (Tz p g) (pw f (i + 1))=rm p (Tz p g) (convL (rm p (Tz p g) (pw f i)) f):=qUJ ok (er.mul f)
    generalize hR:rm p (Tz p g) (pw f i)=R at *
    have rl:=ir.len
    refine ⟨rfl,⟨rfl,⟨⟨⟨tJ,tJ⟩,tJ⟩,⟨rfl,.inl rfl⟩,?_,?_⟩,?_⟩,?_,?_⟩
    . show -(2:Int) ^ 63 <= ((Tz p g).length:Int) - 1 - (R.length:Int)
      omega
    . show (((Tz p g).length:Int) - 1 - (R.length:Int)).toNat <= 1000
      omega
    . refine Nat.le_of_lt (small1000 ?_)
      show R.length + (List.replicate (((Tz p g).length:Int) - 1 - (R.length:Int)).toNat (0:Int)).length <= 1000
      rw [List.length_replicate]
      omega
    . show ((rowsF p (Tz p g) f i).map PV.ints).length < sizeLine
      rw [List.length_map,zW0]
      exact small1000 (by omega)
    refine yZZ (ρ':=[.fr (.ob 0 p),.fr (.ints f),.fr (.int (n:Int)),.fr (.ints g),.fr (.int (((Tz p g).length:Int) - 1)),.fr (.ints R),.ow (tabP (rowsF p (Tz p g) f (i + 1))),.fr (.int (i:Int))]) ?_ ?_
    . have e:tabP (rowsF p (Tz p g) f (i + 1))=.lst ((rowsF p (Tz p g) f i).map PV.ints ++ [.ints (wd (((Tz p g).length:Int) - 1) R)]):=by
        rw [qQ2,hR]
        unfold tabP
        rw [List.map_append]
        rfl
      rw [e]
      rfl
    refine ⟨⟨⟨rfl,rfl,rfl,rfl,tJ⟩,p,R,f,g,rfl,ok,by omega,ir.bd ok.pr,hb⟩,fun r1 er1=>⟨.fr (.int (i:Int)),?_⟩⟩
    have er1:r1=rm p (Tz p g) (convL R f):=er1
    rw [e1,<- er1]
    rfl
  . rintro ρ ⟨v7,rfl⟩
    exact ⟨rfl,rfl⟩
theorem zWJ (T:Top K mg cFE cHP cBA cBL cBP cBT cNO cNW cNP cNN cK cR):Ok P w K mg base 7 "powering" ["kind","g"] (spF K (Gr cR) (fun as=>∃ p g,as=[.ob 0 p,.ints g] /\ DOk p g /\ (Tz p g).length <= 40) fun as=>match as with
    | [.ob 0 p,.ints g]=>tabP (rowsF p (Tz p g) (rm p (Tz p g) (pw [0,1] p.toNat)) ((Tz p g).length - 1))
    | _=>.non):=by
  refine okF T.d_powering zZ5 (fun as ⟨a,b,h,_⟩=>by rw [h]; rfl) (fun f cdv A outer s H E hr=>⟨_,(yQ1 (yQ9 (i:=2) zZ5.nd rfl (Or.inl rfl) (yY5 (yV0 T.b_len (newL (xcl (yZ6 T) hr (yQ0 (xv 0) (yQ0 (xl 1) yQ3))))) yQ2))
 (yQ5 (yQX (xc (zX4 T) hr (yQ0 (xv 0) (yQ0 (xcL (zVZ T) hr (yQ0 (xv 0) (yQ0 (newL (yZK (yQ0 yQ2 (yQ0 yQ2 yQ3)))) (yQ0 (jX1 (ksz T) (xv 0)) (yQ0 (xl 1) yQ3))))) (yQ0 (xn 2) (yQ0 (xl 1) yQ3)))))))),fun as hp=>?_⟩)
  obtain ⟨p,g,rfl,ok,hd⟩:=hp
  have gl:=ok.len
  have p2:2 <= p:=ok.pr.1
  have d1:=lP ok.ne
  refine ⟨⟨⟨⟨⟨rfl,rfl,tJ⟩,p,g,rfl,by omega⟩,tJ⟩,tJ⟩,fun dg edg=>?_⟩
  have edg:dg=((Tz p g).length:Int) - 1:=edg
  have edg:dg=(((Tz p g).length - 1:Nat):Int):=by omega
  subst edg
  obtain ⟨_,_,ir,er⟩:=yJH ok (pw [0,1] p.toNat)
  have rl:=ir.len
  have ep:((p.toNat:Nat):Int)=p:=by omega
  refine ⟨⟨⟨rfl,⟨⟨rfl,⟨⟨tJ,tJ,tJ⟩,tJ⟩,⟨rfl,rfl⟩,rfl,tJ⟩,p,[0,1],p.toNat,g,?_,ok,by decide,by omega⟩,rfl,rfl,tJ⟩,p,rm p (Tz p g) (pw [0,1] p.toNat),(Tz p g).length - 1,g,rfl,ok,by omega,ir.bd ok.pr,by omega,by omega⟩,rfl⟩
  show [PV.ob 0 p,.ints [0,1],.int p,.ints g]=[.ob 0 p,.ints [0,1],.int ((p.toNat:Nat):Int),.ints g]
  rw [ep]
theorem jZX {p:Int} {d f:List Int} {n k:Nat} (h:k < n):(rowsF p d f n).getD k []=wd ((d.length:Int) - 1) (rm p d (pw f k)):=by
  unfold rowsF
  rw [gQ,List.getElem?_map,List.getElem?_range h]
  rfl
def chs:Nat -> Nat -> Int
  | _,0=>1
  | 0,_ + 1=>0
  | n + 1,k + 1=>chs n k + chs n (k + 1)
theorem yUK (n:Nat):chs n 0=1:=by cases n <;> rfl
theorem yHU:∀ {n k:Nat},n < k -> chs n k=0
  | 0,k + 1,_=>rfl
  | n + 1,k + 1,h=>by
    show chs n k + chs n (k + 1)=0
    rw [yHU (by omega),yHU (by omega)]
    rfl
theorem zUY:∀ n,chs n n=1
  | 0=>rfl
  | n + 1=>by
    show chs n n + chs n (n + 1)=1
    rw [zUY n,yHU (by omega)]
    rfl
theorem zX2:∀ n k:Nat,((k:Int) + 1) * chs (n + 1) (k + 1)=((n:Int) + 1) * chs n k
  | 0,0=>by rfl
  | 0,k + 1=>by
    have e1:chs (0 + 1) (k + 1 + 1)=0:=yHU (by omega)
    have e2:chs 0 (k + 1)=0:=rfl
    rw [e1,e2,Int.mul_zero,Int.mul_zero]
  | n + 1,0=>by
    have h:=zX2 n 0
    have e:chs (n + 1 + 1) (0 + 1)=chs (n + 1) 0 + chs (n + 1) (0 + 1):=rfl
    rw [e,Int.mul_add,h,yUK,yUK]
    omega
  | n + 1,j + 1=>by
    have h1:=zX2 n (j + 1)
    have h2:=zX2 n j
    have e:chs (n + 1 + 1) (j + 1 + 1)=chs (n + 1) (j + 1) + chs (n + 1) (j + 1 + 1):=rfl
    have e2:chs (n + 1) (j + 1)=chs n j + chs n (j + 1):=rfl
    rw [e,Int.mul_add,h1]
    have e3:(((j + 1:Nat):Int) + 1) * chs (n + 1) (j + 1)=((j:Int) + 1) * chs (n + 1) (j + 1) + chs (n + 1) (j + 1):=by
      rw [Int.add_mul,Int.one_mul]
      rfl
    rw [e3,h2]
    have e4:(((n + 1:Nat):Int) + 1) * chs (n + 1) (j + 1)=((n:Int) + 1) * chs (n + 1) (j + 1) + chs (n + 1) (j + 1):=by
      rw [Int.add_mul (((n + 1:Nat):Int)),Int.one_mul]
      rfl
    have e5:((n:Int) + 1) * chs (n + 1) (j + 1)=((n:Int) + 1) * chs n j + ((n:Int) + 1) * chs n (j + 1):=by rw [e2,Int.mul_add]
    rw [e4,e5]
    omega
theorem jQJ {p:Int} (hp:IsP p) {n j:Nat} (hn:(n:Int) + 1=p) (hj:j < n):p ∣ chs (n + 1) (j + 1):=by
  have h:=zX2 n j
  have g:Int.gcd ((j:Int) + 1) (p ^ 1)=1:=zW8 hp (by rw [Int.emod_eq_of_lt (by omega) (by omega)]; omega) 1
  rw [Int.pow_one] at g
  have d:p ∣ ((j:Int) + 1) * chs (n + 1) (j + 1):=by
    rw [h,hn]
    exact Int.dvd_mul_right _ _
  have d2:=Int.natAbs_dvd_natAbs.mpr d
  rw [Int.natAbs_mul] at d2
  have g2:Nat.Coprime p.natAbs ((j:Int) + 1).natAbs:=by
    show Nat.gcd p.natAbs ((j:Int) + 1).natAbs=1
    rw [Nat.gcd_comm]
    exact g
  exact Int.natAbs_dvd_natAbs.mp (g2.dvd_of_dvd_mul_left d2)
theorem binom {F:Nat -> Nat -> Nat -> Int} (h:∀ i j n,F i j (n + 1)=F (i + 1) j n + F i (j + 1) n):∀ n i j,F i j n=sm (n + 1) fun k=>chs n k * F (i + k) (j + (n - k)) 0
  | 0,i,j=>by
    show F i j 0=0 + 1 * F (i + 0) (j + (0 - 0)) 0
    rw [Int.one_mul,Int.zero_add]
    rfl
  | n + 1,i,j=>by
    rw [h,binom h n (i + 1) j,binom h n i (j + 1),yV1 (fun k=>chs (n + 1) k * F (i + k) (j + (n + 1 - k)) 0) (n + 1)]
    have e0:sm (n + 1) (fun k=>chs n k * F (i + k) (j + 1 + (n - k)) 0)=sm (n + 2) (fun k=>chs n k * F (i + k) (j + 1 + (n - k)) 0) :=
      (zZ0 (by omega) fun k h1 h2=>by rw [yHU (by omega),Int.zero_mul]).symm
    rw [e0,yV1 (fun k=>chs n k * F (i + k) (j + 1 + (n - k)) 0) (n + 1)]
    have e1:chs (n + 1) 0 * F (i + 0) (j + (n + 1 - 0)) 0=chs n 0 * F (i + 0) (j + 1 + (n - 0)) 0:=by
      rw [yUK,yUK]
      have:j + (n + 1 - 0)=j + 1 + (n - 0):=by omega
      rw [this]
    have e2:sm (n + 1) (fun k=>chs (n + 1) (k + 1) * F (i + (k + 1)) (j + (n + 1 - (k + 1))) 0)=sm (n + 1) (fun k=>chs n k * F (i + 1 + k) (j + (n - k)) 0) + sm (n + 1) (fun k=>chs n (k + 1) * F (i + (k + 1)) (j + 1 + (n - (k + 1))) 0):=by
      rw [<- zQ8]
      refine yQ7 fun k hk=>?_
      have a1:i + 1 + k=i + (k + 1):=by omega
      have a2:j + (n + 1 - (k + 1))=j + (n - k):=by omega
      have a3:chs (n + 1) (k + 1)=chs n k + chs n (k + 1):=rfl
      rw [a1,a2,a3,Int.add_mul]
      by_cases c:k=n
      . rw [yHU (show n < k + 1 by omega),Int.zero_mul,Int.zero_mul]
      . have a4:j + 1 + (n - (k + 1))=j + (n - k):=by omega
        rw [a4]
    rw [e1,e2]
    omega
theorem qW9 {p:Int} (hp:IsP p) {F:Nat -> Nat -> Nat -> Int} (h:∀ i j n,F i j (n + 1)=F (i + 1) j n + F i (j + 1) n):p ∣ F 0 0 p.toNat - (F p.toNat 0 0 + F 0 p.toNat 0):=by
  have p2:2 <= p:=hp.1
  obtain ⟨n,hn⟩:∃ n,p.toNat=n + 1:=⟨p.toNat - 1,by omega⟩
  have hn2:(n:Int) + 1=p:=by omega
  rw [hn,binom h (n + 1) 0 0]
  have e:sm (n + 1 + 1) (fun k=>chs (n + 1) k * F (0 + k) (0 + (n + 1 - k)) 0)=chs (n + 1) 0 * F (0 + 0) (0 + (n + 1 - 0)) 0 + sm n (fun k=>chs (n + 1) (k + 1) * F (0 + (k + 1)) (0 + (n + 1 - (k + 1))) 0) + chs (n + 1) (n + 1) * F (0 + (n + 1)) (0 + (n + 1 - (n + 1))) 0:=by
    show sm (n + 1) _ + _=_
    rw [yV1]
  rw [e,yUK,zUY,Int.one_mul,Int.one_mul]
  have a1:0 + (n + 1 - 0)=n + 1:=by omega
  have a2:0 + (n + 1 - (n + 1))=0:=by omega
  have a3:0 + (n + 1)=n + 1:=by omega
  rw [a1,a2,a3]
  have d:p ∣ sm n (fun k=>chs (n + 1) (k + 1) * F (0 + (k + 1)) (0 + (n + 1 - (k + 1))) 0):=yUQ fun k hk=>Int.dvd_mul_of_dvd_left (jQJ hp hn2 hk)
  have e2:F (0 + 0) (n + 1) 0=F 0 (n + 1) 0:=rfl
  rw [e2]
  generalize sm n (fun k=>chs (n + 1) (k + 1) * F (0 + (k + 1)) (0 + (n + 1 - (k + 1))) 0)=S at *
  have e3:F 0 (n + 1) 0 + S + F (n + 1) 0 0 - (F (n + 1) 0 0 + F 0 (n + 1) 0)=S:=by omega
  rw [e3]
  exact d
theorem dream {p:Int} (hp:IsP p) (d a b:List Int):EqM p d (pw (addL a b) p.toNat) (addL (pw a p.toNat) (pw b p.toNat)):=.of fun x=>by
  have h:=qW9 hp (F:=fun i j n=>cm (convL (pw a i) (pw b j)) (pw (addL a b) n) x) fun i j n=>by
    show cm (convL (pw a i) (pw b j)) (convL (pw (addL a b) n) (addL a b)) x=cm (convL (convL (pw a i) a) (pw b j)) (pw (addL a b) n) x + cm (convL (pw a i) (convL (pw b j) b)) (pw (addL a b) n) x
    generalize pw (addL a b) n=W
    generalize pw a i=A
    generalize pw b j=B
    rw [<- yJ5,yQK,yWU]
    have k1:cm a (convL (convL A B) W) x=cm (convL (convL A a) B) W x:=by
      rw [<- yJ5]
      refine zZ9 (fun n=>?_) (fun _=>rfl) x
      rw [yQ4,yQ4,<- yJ5]
      exact zZ9 (fun n=>by rw [yQ4,yQ4,yQK]) (fun _=>rfl) n
    have k2:cm b (convL (convL A B) W) x=cm (convL A (convL B b)) W x:=by
      rw [<- yJ5]
      refine zZ9 (fun n=>?_) (fun _=>rfl) x
      rw [yQ4,yQ4,yQK,yJ5]
    rw [k1,k2]
  have e1:cm (convL (pw a 0) (pw b 0)) (pw (addL a b) p.toNat) x=(pw (addL a b) p.toNat).getD x 0:=by
    rw [yQK,<- yH0 (pw (addL a b) p.toNat) x]
    refine zZ9 (fun _=>rfl) (fun n=>?_) x
    rw [yQ4]
    exact yH0 _ n
  have e2:cm (convL (pw a p.toNat) (pw b 0)) (pw (addL a b) 0) x=(pw a p.toNat).getD x 0:=by
    show cm (convL (pw a p.toNat) [1]) [1] x=_
    rw [yH0,yQ4,yH0]
  have e3:cm (convL (pw a 0) (pw b p.toNat)) (pw (addL a b) 0) x=(pw b p.toNat).getD x 0:=by
    show cm (convL [1] (pw b p.toNat)) [1] x=_
    rw [yH0,yQ4,yQK,yH0]
  have h:p ∣ cm (convL (pw a 0) (pw b 0)) (pw (addL a b) p.toNat) x - (cm (convL (pw a p.toNat) (pw b 0)) (pw (addL a b) 0) x + cm (convL (pw a 0) (pw b p.toNat)) (pw (addL a b) 0) x):=h
  rw [e1,e2,e3] at h
  rw [yZ2]
  exact h
theorem pw_1 (p:Int) (d:List Int):∀ n,EqM p d (pw [1] n) [1]
  | 0=>.refl p d _
  | n + 1=>(EqM.one p d (pw [1] n)).trans (pw_1 p d n)
theorem pw_c {p:Int} (hp:IsP p) (d:List Int):∀ c:Nat,EqM p d (pw [(c:Int)] p.toNat) [(c:Int)]
  | 0=>by
    have p2:2 <= p:=hp.1
    obtain ⟨n,hn⟩:∃ n,p.toNat=n + 1:=⟨p.toNat - 1,by omega⟩
    rw [hn]
    have z:∀ n,([((0:Nat):Int)]:List Int).getD n 0=0:=fun n=>by cases n <;> rfl
    refine Sm.eqm fun k=>?_
    show (convL (pw [((0:Nat):Int)] n) [((0:Nat):Int)]).getD k 0=_
    rw [yQ4,yQK,zW9 z,z]
  | c + 1=>by
    have e:([((c + 1:Nat):Int)]:List Int)=addL [(c:Int)] [1]:=rfl
    rw [e]
    exact (dream hp d [(c:Int)] [1]).trans ((pw_c hp d c).add (pw_1 p d _))
theorem pw_mul (p:Int) (d a b:List Int):∀ n,EqM p d (pw (convL a b) n) (convL (pw a n) (pw b n))
  | 0=>(EqM.one p d [1]).symm
  | n + 1=>by
    show EqM p d (convL (pw (convL a b) n) (convL a b)) (convL (convL (pw a n) a) (convL (pw b n) b))
    refine ((pw_mul p d a b n).mul _).trans ?_
    generalize pw a n=A
    generalize pw b n=B
    have x:EqM p d (convL B (convL a b)) (convL a (convL B b)):=(EqM.assoc p d B a b).symm.trans (((EqM.comm p d B a).mul b).trans (EqM.assoc p d a B b))
    exact (EqM.assoc p d A B (convL a b)).trans (((EqM.refl p d A).mul2 x).trans (EqM.assoc p d A a (convL B b)).symm)
def lcb (X:Nat -> List Int):List Int -> Nat -> List Int
  | [],_=>[]
  | c :: t,s=>addL (scl c (X s)) (lcb X t (s + 1))
theorem qJV {p:Int} {d:List Int} {X Y:Nat -> List Int}:∀ (f:List Int) (s:Nat),(∀ k,s <= k -> k < s + f.length -> EqM p d (X k) (Y k)) -> EqM p d (lcb X f s) (lcb Y f s)
  | [],_,_=>.refl p d _
  | c :: t,s,h=>((h s (Nat.le_refl s) (by show s < s + (t.length + 1); omega)).sclE c).add (qJV t (s + 1) fun k h1 h2=>h k (by omega) (by show k < s + (t.length + 1); omega))
theorem qZJ (X:Nat -> List Int) (j:Nat):∀ (f:List Int) (s:Nat),(lcb X f s).getD j 0=sm f.length fun k=>f.getD k 0 * (X (s + k)).getD j 0
  | [],s=>by show ([]:List Int).getD j 0=0; rfl
  | c :: t,s=>by
    show (addL (scl c (X s)) (lcb X t (s + 1))).getD j 0=sm (t.length + 1) _
    rw [yZ2,yV8,qZJ X j t (s + 1),yV1]
    have e:sm t.length (fun k=>t.getD k 0 * (X (s + 1 + k)).getD j 0)=sm t.length fun i=>(c :: t).getD (i + 1) 0 * (X (s + (i + 1))).getD j 0:=yQ7 fun i _=>by
      have a:s + 1 + i=s + (i + 1):=by omega
      rw [a]
      rfl
    rw [e]
    rfl
theorem frob {p:Int} (hp:IsP p) (d:List Int):∀ (f:List Int),(∀ m ∈ f,0 <= m) -> ∀ s,EqM p d (convL (pw (pw [0,1] p.toNat) s) (pw f p.toNat)) (lcb (pw (pw [0,1] p.toNat)) f s)
  | [],_,s=>by
    have p2:2 <= p:=hp.1
    obtain ⟨n,hn⟩:∃ n,p.toNat=n + 1:=⟨p.toNat - 1,by omega⟩
    refine Sm.eqm fun k=>?_
    have z:∀ k,(pw [] p.toNat).getD k 0=0:=fun k=>by
      rw [hn]
      show (convL (pw [] n) []).getD k 0=0
      rw [yQ4,yQK,yYZ]
    rw [yQ4,yQK,zW9 z]
    rfl
  | c :: t,h,s=>by
    have hc:0 <= c:=h c (List.mem_cons_self ..)
    obtain ⟨cn,ec⟩:∃ cn:Nat,c=(cn:Int):=⟨c.toNat,by omega⟩
    have ih:=frob hp d t (fun m hm=>h m (List.mem_cons_of_mem _ hm)) (s + 1)
    have e0:Sm (c :: t) (addL [c] (convL [0,1] t)):=fun n=>by
      rw [yZ2,yQ4,yWZ,Int.zero_mul,Int.zero_add]
      match n with
      | 0=>rw [if_pos rfl,Int.add_zero]; rfl
      | n + 1 =>
        have e:([c]:List Int).getD (n + 1) 0=0:=by rfl
        rw [if_neg (by omega),e,Int.zero_add,yQK,Nat.add_sub_cancel,yH0]
        rfl
    have e1:EqM p d (pw (c :: t) p.toNat) (addL [c] (convL (pw [0,1] p.toNat) (pw t p.toNat))):=by
      refine (pw_mod e0.eqm _).trans ((dream hp d _ _).trans (EqM.add ?_ (pw_mul p d _ _ _)))
      rw [ec]
      exact pw_c hp d cn
    refine ((EqM.refl p d (pw (pw [0,1] p.toNat) s)).mul2 e1).trans ?_
    have e2:Sm (convL (pw (pw [0,1] p.toNat) s) (addL [c] (convL (pw [0,1] p.toNat) (pw t p.toNat)))) (addL (scl c (pw (pw [0,1] p.toNat) s)) (convL (pw (pw [0,1] p.toNat) s) (convL (pw [0,1] p.toNat) (pw t p.toNat)))):=fun n=>by
      rw [yQ4,yQK,yWU,yZ2,yV8,yQ4,yQK (pw (pw [0,1] p.toNat) s),yWZ]
      by_cases k:n=0
      . rw [if_pos k,Int.add_zero]
      . rw [if_neg k,yYZ,Int.add_zero]
    refine e2.eqm.trans ?_
    show EqM p d _ (addL (scl c (pw (pw [0,1] p.toNat) s)) (lcb (pw (pw [0,1] p.toNat)) t (s + 1)))
    exact (EqM.refl p d _).add ((EqM.assoc p d _ _ _).symm.trans ih)
def cmbL (row:List Int) (R:List (List Int)):List Int:=(List.range R.length).map fun j=>sm row.length fun k=>row.getD k 0 * (R.getD k []).getD j 0
theorem zK0 (row:List Int) (R:List (List Int)):(cmbL row R).length=R.length:=by unfold cmbL; rw [List.length_map,List.length_range]
theorem qJ0 (row:List Int) (R:List (List Int)) {j:Nat} (h:j < R.length):(cmbL row R).getD j 0=sm row.length fun k=>row.getD k 0 * (R.getD k []).getD j 0:=by
  rw [yQQ (by rw [zK0]; exact h)]
  unfold cmbL
  rw [List.getElem_map,List.getElem_range]
theorem jVY {p:Int} {b f:List Int} {R:List (List Int)} {D:Nat} (hp:IsP p) (bl:b.length=D + 1) (bla:lastI b=1) (Rl:R.length=D) (rowl:∀ k,k < D -> (R.getD k []).length=D) (RX:∀ k,k < D -> EqM p b (pw (pw [0,1] p.toNat) k) (R.getD k [])) (hf:IsR p b f):Tz p (cmbL f R)=rm p b (pw f p.toNat):=by
  have nz:∀ x,p ∣ x * lastI b -> p ∣ x:=fun x h=>by rw [bla,Int.mul_one] at h; exact h
  have cl:=yJW p (cmbL f R)
  have fl:=hf.len
  rw [zK0] at cl
  refine (qQ1 nz ⟨yZ0 p _,yX7 p _,by omega⟩ ?_).symm
  refine EqM.trans ?_ (EqM.Tz p b _)
  have pos:∀ m ∈ f,0 <= m:=fun m hm=>by
    obtain ⟨n,_,e⟩:=FM.mem_getD hm
    have:=zJ2 hp (hf.red n)
    rw [e] at this
    exact this.1
  have a:=frob hp b f pos 0
  have a0:EqM p b (pw f p.toNat) (convL (pw (pw [0,1] p.toNat) 0) (pw f p.toNat)):=((EqM.comm p b [1] _).trans (EqM.one p b _)).symm
  refine a0.trans (a.trans ((qJV (Y:=fun k=>R.getD k []) f 0 fun k _ hk=>RX k (by omega)).trans ?_))
  refine Sm.eqm fun j=>?_
  rw [qZJ]
  by_cases c:j < R.length
  . rw [qJ0 f R c]
    exact yQ7 fun k _=>by rw [Nat.zero_add]
  . rw [yQ6 (xs:=cmbL f R) (by rw [zK0]; omega)]
    refine yXU fun k hk=>?_
    have:=rowl k (by omega)
    show f.getD k 0 * (R.getD (0 + k) []).getD j 0=0
    rw [Nat.zero_add,yQ6 (xs:=R.getD k []) (by omega),Int.mul_zero]
def dl (f:List Int):List Int:=(List.range f.length).map fun (n:Nat)=>((n:Int) + 1) * f.getD (n + 1) 0
theorem zJK (f:List Int) (n:Nat):(dl f).getD n 0=((n:Int) + 1) * f.getD (n + 1) 0:=by
  unfold dl
  by_cases h:n < f.length
  . rw [yQQ (by rw [List.length_map,List.length_range]; exact h),List.getElem_map,List.getElem_range]
  . rw [yQ6 (by rw [List.length_map,List.length_range]; omega),yQ6 (by omega),Int.mul_zero]
theorem jV8 (u v:List Int) (n:Nat):((n:Int) + 1) * cm u v (n + 1)=cm (dl u) v n + cm u (dl v) n:=by
  have e1:cm (dl u) v n=sm (n + 1 + 1) fun i=>(i:Int) * (u.getD i 0 * v.getD (n + 1 - i) 0):=by
    rw [yV1]
    unfold cm
    rw [show ((0:Nat):Int) * (u.getD 0 0 * v.getD (n + 1 - 0) 0)=0 by rw [Int.natCast_zero,Int.zero_mul],Int.zero_add]
    refine yQ7 fun i _=>?_
    rw [zJK,show n + 1 - (i + 1)=n - i by omega,Int.mul_assoc]
    rfl
  have e2:cm u (dl v) n=sm (n + 1 + 1) fun i=>((n:Int) + 1 - (i:Int)) * (u.getD i 0 * v.getD (n + 1 - i) 0):=by
    show sm (n + 1) _=sm (n + 1) _ + ((n:Int) + 1 - ((n + 1:Nat):Int)) * _
    rw [show (n:Int) + 1 - ((n + 1:Nat):Int)=0 by omega,Int.zero_mul,Int.add_zero]
    refine yQ7 fun i hi=>?_
    rw [zJK,show n - i + 1=n + 1 - i by omega,show ((n - i:Nat):Int) + 1=(n:Int) + 1 - (i:Int) by omega,Int.mul_left_comm]
  rw [e1,e2,<- zQ8]
  unfold cm
  rw [<- yVZ]
  refine yQ7 fun i _=>?_
  rw [<- Int.add_mul]
  congr 1
  omega
theorem jX3 (u v:List Int) (n:Nat):(dl (convL u v)).getD n 0=cm (dl u) v n + cm u (dl v) n:=by rw [zJK,yQ4,jV8]
def Co (p:Int) (f g:List Int):Prop:=Lc p f g [1]
def Sq (p:Int) (f:List Int):Prop:=Co p f (dl f)
theorem Co.congr {p:Int} {f g b r:List Int} (h:∀ n,p ∣ f.getD n 0 - b.getD n 0) (k:∀ n,p ∣ g.getD n 0 - r.getD n 0) (c:Co p f g):Co p b r:=by
  have i:=Idl.cong h k
  exact Lc.trans i.i3 i.i4 c
theorem jXV {p:Int} {f g r:List Int} (hp:2 <= p) (h:GC p f g r):r=[1] ↔ Co p f g:=by
  refine ⟨fun e=>by rw [e] at h; exact h.lc,fun c=>?_⟩
  have o1:pl p 1=1:=by
    rw [yX6 (by omega)]
    exact Int.emod_eq_of_lt (by omega) (by omega)
  have dv1:∀ a:List Int,Dv p [1] a:=fun a=>⟨a,fun n=>by
    show p ∣ a.getD n 0 - 0 - cm a [1] n
    rw [yH0,Int.sub_zero,Int.sub_self]
    exact Int.dvd_zero p⟩
  refine h.uniq ⟨fun _=>by show (1:Int) ≠ 0; decide,fun n=>?_,.inr rfl,c,dv1 f,dv1 g⟩
  match n with
  | 0=>exact o1
  | n + 1=>exact pl_0 p
structure Ser where
  at':Nat -> Int
namespace Ser
theorem ext {a b:Ser} (h:∀ n,a.at' n=b.at' n):a=b:=by
  cases a; cases b
  congr 1
  exact funext h
def tr (a:Ser) (n:Nat):List Int:=(List.range (n + 1)).map a.at'
theorem zH0 {a:Ser} {n i:Nat} (h:i <= n):(tr a n).getD i 0=a.at' i:=by
  unfold tr
  rw [yQQ (by rw [List.length_map,List.length_range]; omega),List.getElem_map,List.getElem_range]
def mul (a b:Ser):Ser:=⟨fun n=>sm (n + 1) fun i=>a.at' i * b.at' (n - i)⟩
def con (c:Int):Ser:=⟨fun n=>if n=0 then c else 0⟩
instance:Add Ser:=⟨fun a b=>⟨fun n=>a.at' n + b.at' n⟩⟩
instance:Mul Ser:=⟨mul⟩
instance:Neg Ser:=⟨fun a=>⟨fun n=>-a.at' n⟩⟩
instance:Sub Ser:=⟨fun a b=>⟨fun n=>a.at' n - b.at' n⟩⟩
instance:NatCast Ser:=⟨fun k=>con (k:Int)⟩
instance:IntCast Ser:=⟨con⟩
instance (k:Nat):OfNat Ser k:=⟨con (k:Int)⟩
instance:SMul Nat Ser:=⟨fun k a=>con (k:Int) * a⟩
instance:SMul Int Ser:=⟨fun k a=>con k * a⟩
def pw (a:Ser):Nat -> Ser
  | 0=>con 1
  | n + 1=>pw a n * a
instance:HPow Ser Nat Ser:=⟨pw⟩
theorem qUX (a b:Ser) (n:Nat):(a + b).at' n=a.at' n + b.at' n:=rfl
theorem zZ4 (a b:Ser) (n:Nat):(a * b).at' n=sm (n + 1) fun i=>a.at' i * b.at' (n - i):=rfl
theorem zU3 (a b:Ser) {n m:Nat} (h:n <= m):(a * b).at' n=cm (tr a m) (tr b m) n:=by
  rw [zZ4]
  unfold cm
  exact yQ7 fun i hi=>by rw [zH0 (by omega),zH0 (by omega)]
theorem mul_comm (a b:Ser):a * b=b * a:=ext fun n=>by rw [zU3 a b (Nat.le_refl n),zU3 b a (Nat.le_refl n),yQK]
theorem mul_assoc (a b c:Ser):a * b * c=a * (b * c):=ext fun n=>by
  have e1:(a * b * c).at' n=cm (convL (tr a n) (tr b n)) (tr c n) n:=by
    rw [zZ4]
    unfold cm
    exact yQ7 fun i hi=>by rw [yQ4,<- zU3 a b (show i <= n by omega),zH0 (by omega)]
  have e2:(a * (b * c)).at' n=cm (tr a n) (convL (tr b n) (tr c n)) n:=by
    rw [zZ4]
    unfold cm
    exact yQ7 fun i hi=>by rw [yQ4,<- zU3 b c (show n - i <= n by omega),zH0 (by omega)]
  rw [e1,e2,yJ5]
theorem yW5 (c:Int) (a:Ser) (n:Nat):(con c * a).at' n=c * a.at' n:=by
  rw [zZ4,yV1]
  have z:(sm n fun i=>(con c).at' (i + 1) * a.at' (n - (i + 1)))=0:=yXU fun i _=>by
    show (if i + 1=0 then c else 0) * _=0
    rw [if_neg (by omega),Int.zero_mul]
  rw [z,Int.add_zero]
  show (if 0=0 then c else 0) * a.at' (n - 0)=c * a.at' n
  rw [if_pos rfl]
  rfl
theorem distrib (a b c:Ser):a * (b + c)=a * b + a * c:=ext fun n=>by
  rw [qUX,zZ4,zZ4,zZ4,<- zQ8]
  exact yQ7 fun i _=>by rw [qUX,Int.mul_add]
instance:Lean.Grind.CommRing Ser where
  add_zero a:=ext fun n=>by
    show a.at' n + (if n=0 then ((0:Nat):Int) else 0)=a.at' n
    split <;> omega
  add_comm a b:=ext fun n=>Int.add_comm _ _
  add_assoc a b c:=ext fun n=>Int.add_assoc _ _ _
  mul_assoc:=mul_assoc
  mul_one a:=by
    rw [mul_comm]
    exact ext fun n=>by
      show (con ((1:Nat):Int) * a).at' n=a.at' n
      rw [yW5]
      exact Int.one_mul _
  one_mul a:=ext fun n=>by
    show (con ((1:Nat):Int) * a).at' n=a.at' n
    rw [yW5]
    exact Int.one_mul _
  left_distrib:=distrib
  right_distrib a b c:=by rw [mul_comm,distrib,mul_comm c,mul_comm c]
  mul_zero a:=by
    rw [mul_comm]
    exact ext fun n=>by
      show (con ((0:Nat):Int) * a).at' n=(con ((0:Nat):Int)).at' n
      rw [yW5]
      show ((0:Nat):Int) * a.at' n=if n=0 then ((0:Nat):Int) else 0
      split <;> simp
  zero_mul a:=ext fun n=>by
    show (con ((0:Nat):Int) * a).at' n=(con ((0:Nat):Int)).at' n
    rw [yW5]
    show ((0:Nat):Int) * a.at' n=if n=0 then ((0:Nat):Int) else 0
    split <;> simp
  pow_zero _:=rfl
  pow_succ _ _:=rfl
  ofNat_succ k:=ext fun n=>by
    show (if n=0 then ((k + 1:Nat):Int) else 0)=(if n=0 then ((k:Nat):Int) else 0) + if n=0 then ((1:Nat):Int) else 0
    split <;> omega
  ofNat_eq_natCast _:=rfl
  nsmul_eq_natCast_mul _ _:=rfl
  neg_add_cancel a:=ext fun n=>by
    show -a.at' n + a.at' n=if n=0 then ((0:Nat):Int) else 0
    split <;> omega
  sub_eq_add_neg a b:=ext fun n=>Int.sub_eq_add_neg
  neg_zsmul i a:=ext fun n=>by
    show (con (-i) * a).at' n = -(con i * a).at' n
    rw [yW5,yW5,Int.neg_mul]
  zsmul_natCast_eq_nsmul _ _:=rfl
  intCast_ofNat _:=rfl
  intCast_neg i:=ext fun n=>by
    show (if n=0 then -i else 0) = -(if n=0 then i else 0)
    split <;> omega
  mul_comm:=mul_comm
end Ser
def sr (l:List Int):Ser:=⟨fun n=>l.getD n 0⟩
theorem zQH (a b:List Int):sr (addL a b)=sr a + sr b:=Ser.ext fun n=>yZ2 a b n
theorem yYQ (a b:List Int):sr (convL a b)=sr a * sr b:=Ser.ext fun n=>yQ4 a b n
theorem zHY (c:Int) (a:List Int):sr (scl c a)=Ser.con c * sr a:=Ser.ext fun n=>by
  rw [Ser.yW5]
  exact yV8 c a n
theorem qKW:sr [1]=1:=Ser.ext fun n=>by
  show ([1]:List Int).getD n 0=if n=0 then ((1:Nat):Int) else 0
  match n with
  | 0=>rfl
  | n + 1=>rfl
theorem qJY:sr []=0:=Ser.ext fun n=>by
  show ([]:List Int).getD n 0=if n=0 then ((0:Nat):Int) else 0
  split <;> exact yQ6 (Nat.zero_le _)
theorem qQW {q:Int} {a:Ser}:(∀ n,q ∣ a.at' n) ↔ ∃ y,a=Ser.con q * y:=by
  refine ⟨fun h=>?_,fun ⟨y,e⟩ n=>?_⟩
  . refine ⟨⟨fun n=>a.at' n / q⟩,Ser.ext fun n=>?_⟩
    rw [Ser.yW5]
    exact (Int.mul_ediv_cancel' (h n)).symm
  . rw [e,Ser.yW5]
    exact Int.dvd_mul_right _ _
theorem qZY {q:Int} {d a b:List Int}:EqM q d a b ↔ ∃ o:List Int,∃ y:Ser,sr a=sr b + sr o * sr d + Ser.con q * y:=by
  refine ⟨fun ⟨o,h⟩=>?_,fun ⟨o,y,e⟩=>⟨o,fun n=>?_⟩⟩
  . obtain ⟨y,e⟩:=(qQW (a:=sr a - sr b - sr o * sr d)).mp h
    exact ⟨o,y,by grind⟩
  . have:sr a - sr b - sr o * sr d=Ser.con q * y:=by grind
    exact qQW.mpr ⟨y,this⟩ n
theorem zHZ {q:Int} (h:2 <= q):pl q 1=1:=by
  rw [yX6 (by omega)]
  exact Int.emod_eq_of_lt (by omega) (by omega)
theorem qK6 {r:List Int} (h:Bd r) (k:Nat):(r.getD k 0).natAbs < 2 ^ 9000:=by
  by_cases c:k < r.length
  . exact h _ (FM.getD_mem c)
  . rw [yQ6 (by omega)]
    exact Nat.pow_pos (by decide)
theorem zWW (f:Nat -> Nat -> Int) (m:Nat):∀ n,sm n (fun i=>sm m fun j=>f i j)=sm m fun j=>sm n fun i=>f i j
  | 0=>by
    show 0=_
    exact (yXU fun j _=>rfl).symm
  | n + 1=>by
    show sm n (fun i=>sm m fun j=>f i j) + sm m (fun j=>f n j)=_
    rw [zWW f m n,<- zQ8]
    rfl
theorem qX4 (l:Int) (f:Nat -> Int) (n:Nat):sm n (fun i=>f i * l)=sm n f * l:=by
  rw [Int.mul_comm,<- yVZ]
  exact yQ7 fun i _=>Int.mul_comm _ _
abbrev Mx:=Nat -> Nat -> Int
def mm (n:Nat) (A B:Mx):Mx:=fun i j=>sm n fun k=>A i k * B k j
theorem qV5 (m n:Nat) (A B C:Mx) (i j:Nat):mm n (mm m A B) C i j=mm m A (mm n B C) i j:=by
  show sm n (fun k=>sm m (fun l=>A i l * B l k) * C k j)=sm m fun l=>A i l * sm n fun k=>B l k * C k j
  have h1:sm n (fun k=>sm m (fun l=>A i l * B l k) * C k j)=sm n fun k=>sm m fun l=>A i l * B l k * C k j:=yQ7 fun k _=>(qX4 _ _ _).symm
  have h2:sm m (fun l=>A i l * sm n fun k=>B l k * C k j)=sm m fun l=>sm n fun k=>A i l * B l k * C k j:=yQ7 fun l _=>by
    rw [<- yVZ]
    exact yQ7 fun k _=>(Int.mul_assoc _ _ _).symm
  rw [h1,h2]
  exact zWW _ _ _
def unM (i j:Nat):Int:=if i=j then 1 else 0
theorem yU0 {f:Nat -> Int} {k:Nat}:∀ {n:Nat},k < n -> (∀ i,i < n -> i ≠ k -> f i=0) -> sm n f=f k
  | 0,h,_=>by omega
  | n + 1,h,z=>by
    show sm n f + f n=f k
    by_cases c:k=n
    . subst c
      rw [yXU fun i hi=>z i (by omega) (by omega),Int.zero_add]
    . rw [yU0 (by omega) fun i hi hne=>z i (by omega) hne,z n (by omega) (fun e=>c e.symm),Int.add_zero]
theorem yK0 {n:Nat} (A:Mx) {i:Nat} (h:i < n) (j:Nat):mm n unM A i j=A i j:=by
  show sm n (fun k=>unM i k * A k j)=A i j
  rw [yU0 h fun k _ hne=>by unfold unM; rw [if_neg (fun e=>hne e.symm),Int.zero_mul]]
  unfold unM
  rw [if_pos rfl,Int.one_mul]
theorem zW1 {n:Nat} (A:Mx) (i:Nat) {j:Nat} (h:j < n):mm n A unM i j=A i j:=by
  show sm n (fun k=>A i k * unM k j)=A i j
  rw [yU0 h fun k _ hne=>by unfold unM; rw [if_neg hne,Int.mul_zero]]
  unfold unM
  rw [if_pos rfl,Int.mul_one]
def Al (p:Int) (n m:Nat) (A B:Mx):Prop:=∀ i j,i < n -> j < m -> p ∣ A i j - B i j
theorem Al.refl (p:Int) (n m:Nat) (A:Mx):Al p n m A A:=fun i j _ _=>by rw [Int.sub_self]; exact Int.dvd_zero p
theorem Al.symm {p:Int} {n m:Nat} {A B:Mx} (h:Al p n m A B):Al p n m B A:=fun i j hi hj=>by
  have e:B i j - A i j = -(A i j - B i j):=by omega
  rw [e]
  exact Int.dvd_neg.mpr (h i j hi hj)
theorem Al.trans {p:Int} {n m:Nat} {A B C:Mx} (h:Al p n m A B) (k:Al p n m B C):Al p n m A C:=fun i j hi hj=>by
  have e:A i j - C i j=(A i j - B i j) + (B i j - C i j):=by omega
  rw [e]
  exact Int.dvd_add (h i j hi hj) (k i j hi hj)
theorem Al.mul {p:Int} {n l m:Nat} {A B C D:Mx} (h:Al p n l A B) (k:Al p l m C D):Al p n m (mm l A C) (mm l B D):=fun i j hi hj=>by
  show p ∣ sm l (fun x=>A i x * C x j) - sm l fun x=>B i x * D x j
  rw [<- zJZ]
  refine yUQ fun x hx=>?_
  have e:A i x * C x j - B i x * D x j=(A i x - B i x) * C x j + B i x * (C x j - D x j):=by
    rw [Int.sub_mul,Int.mul_sub]
    omega
  rw [e]
  exact Int.dvd_add (Int.dvd_mul_of_dvd_left (h i x hi hx)) (Int.dvd_mul_of_dvd_right (k x j hx hj))
theorem Al.of {p:Int} {n m:Nat} {A B:Mx} (h:∀ i j,i < n -> j < m -> A i j=B i j):Al p n m A B:=fun i j hi hj=>by rw [h i j hi hj,Int.sub_self]; exact Int.dvd_zero p
theorem Al.assoc (p:Int) (n l x m:Nat) (A B C:Mx):Al p n m (mm x (mm l A B) C) (mm l A (mm x B C)):=.of fun i j _ _=>qV5 l x A B C i j
structure Inv2 (p:Int) (n:Nat) (A B:Mx):Prop where
  ab:Al p n n (mm n A B) unM
  ba:Al p n n (mm n B A) unM
theorem Inv2.unit (p:Int) (n:Nat):Inv2 p n unM unM:=⟨.of fun i j hi _=>yK0 unM hi j,.of fun i j hi _=>yK0 unM hi j⟩
theorem Inv2.mul {p:Int} {n:Nat} {A B C D:Mx} (h:Inv2 p n A B) (k:Inv2 p n C D):Inv2 p n (mm n A C) (mm n D B):=by
  have key:∀ {A B C D:Mx},Al p n n (mm n A B) unM -> Al p n n (mm n C D) unM -> Al p n n (mm n (mm n A C) (mm n D B)) unM:=fun {A B C D} h k=>by
    have s1:Al p n n (mm n C (mm n D B)) B:=(Al.assoc p n n n n C D B).symm.trans ((Al.mul k (.refl p n n B)).trans (.of fun i j hi _=>yK0 B hi j))
    exact (Al.assoc p n n n n A C (mm n D B)).trans ((Al.mul (.refl p n n A) s1).trans h)
  exact ⟨key h.ab k.ab,key k.ba h.ba⟩
theorem Inv2.left {p:Int} {n:Nat} {A B C:Mx} (h:Inv2 p n A B) (k:Al p n n (mm n C A) unM):Al p n n (mm n A C) unM:=by
  have e1:Al p n n C B:=by
    have s1:Al p n n (mm n (mm n C A) B) B:=(Al.mul k (.refl p n n B)).trans (.of fun i j hi _=>yK0 B hi j)
    have s2:Al p n n (mm n C (mm n A B)) C:=(Al.mul (.refl p n n C) h.ab).trans (.of fun i j _ hj=>zW1 C i hj)
    exact s2.symm.trans ((Al.assoc p n n n n C A B).symm.trans s1)
  exact (Al.mul (.refl p n n A) e1).trans h.ab
def clm (d:Nat) (c:Nat -> Int):Mx:=fun i k=>(if i=d then 0 else unM i k) + if k=d then c i else 0
theorem qKX {n d:Nat} (c:Nat -> Int) (A:Mx) {i:Nat} (hi:i < n) (hd:d < n) (j:Nat):mm n (clm d c) A i j=(if i=d then 0 else A i j) + c i * A d j:=by
  show sm n (fun k=>((if i=d then 0 else unM i k) + if k=d then c i else 0) * A k j)=_
  have h:sm n (fun k=>((if i=d then 0 else unM i k) + if k=d then c i else 0) * A k j)=sm n (fun k=>(if i=d then 0 else unM i k) * A k j) + sm n (fun k=>(if k=d then c i else 0) * A k j):=by
    rw [<- zQ8]
    exact yQ7 fun k _=>Int.add_mul _ _ _
  rw [h,yU0 (f:=fun k=>(if k=d then c i else 0) * A k j) hd fun k _ hne=>by show (if k=d then c i else 0) * A k j=0; rw [if_neg hne,Int.zero_mul],if_pos rfl]
  congr 1
  by_cases e:i=d
  . rw [if_pos e]
    exact yXU fun k _=>by rw [if_pos e,Int.zero_mul]
  . rw [if_neg e]
    have k1:sm n (fun k=>(if i=d then 0 else unM i k) * A k j)=mm n unM A i j:=yQ7 fun k _=>by rw [if_neg e]
    rw [k1,yK0 A hi j]
theorem qJ9 {p:Int} {n d:Nat} {c e:Nat -> Int} (hd:d < n) (h1:p ∣ c d * e d - 1) (h2:∀ i,i < n -> i ≠ d -> p ∣ e i + c i * e d):Al p n n (mm n (clm d c) (clm d e)) unM:=fun i j hi hj=>by
  rw [qKX c _ hi hd]
  have ed:clm d e d j=if j=d then e d else 0:=by
    show (if d=d then 0 else unM d j) + (if j=d then e d else 0)=_
    rw [if_pos rfl,Int.zero_add]
  rw [ed]
  by_cases x:i=d
  . subst x
    rw [if_pos rfl,Int.zero_add]
    by_cases y:j=i
    . subst y
      have u:unM j j=1:=if_pos rfl
      rw [if_pos rfl,u]
      exact h1
    . have u:unM i j=0:=if_neg fun z=>y z.symm
      rw [if_neg y,Int.mul_zero,u]
      exact Int.dvd_zero p
  . rw [if_neg x]
    have ei:clm d e i j=unM i j + if j=d then e i else 0:=by
      show (if i=d then 0 else unM i j) + (if j=d then e i else 0)=_
      rw [if_neg x]
    rw [ei]
    by_cases y:j=d
    . rw [if_pos y,if_pos y]
      have z:=h2 i hi x
      generalize c i * e d=w at *
      have q:unM i j + e i + w - unM i j=e i + w:=by omega
      rw [q]
      exact z
    . rw [if_neg y,if_neg y,Int.mul_zero,Int.add_zero,Int.add_zero,Int.sub_self]
      exact Int.dvd_zero p
def pmx (σ:Nat -> Nat):Mx:=fun i j=>unM (σ i) j
theorem qKQ {n:Nat} {σ:Nat -> Nat} (A:Mx) {i:Nat} (h:σ i < n) (j:Nat):mm n (pmx σ) A i j=A (σ i) j:=yK0 A h j
theorem qXQ {p:Int} {n:Nat} {σ τ:Nat -> Nat} (hs:∀ i,i < n -> σ i < n) (h:∀ i,i < n -> τ (σ i)=i):Al p n n (mm n (pmx σ) (pmx τ)) unM:=.of fun i j hi _=>by
  rw [qKQ _ (hs i hi)]
  show unM (τ (σ i)) j=unM i j
  rw [h i hi]
abbrev Tab:=List (List Int)
def movT (t:Tab) (found done:Nat):Tab:=t.take done ++ [t.getD found []] ++ (t.drop done).take (found - done) ++ t.drop (found + 1)
def sgm (found done i:Nat):Nat:=if i < done then i else if i=done then found else if i <= found then i - 1 else i
def tau (found done i:Nat):Nat:=if i < done then i else if i=found then done else if i < found then i + 1 else i
theorem qHU {found done:Nat} (h:done <= found) (i:Nat):tau found done (sgm found done i)=i:=by
  unfold sgm tau
  repeat' split
  all_goals omega
theorem qHW {found done:Nat} (h:done <= found) (i:Nat):sgm found done (tau found done i)=i:=by
  unfold sgm tau
  repeat' split
  all_goals omega
theorem zUW {found done n i:Nat} (h:done <= found) (hf:found < n) (hi:i < n):sgm found done i < n:=by
  unfold sgm
  repeat' split
  all_goals omega
theorem jYH {found done n i:Nat} (h:done <= found) (hf:found < n) (hi:i < n):tau found done i < n:=by
  unfold tau
  repeat' split
  all_goals omega
theorem zKJ {t:Tab} {found done:Nat} (h:done <= found) (hf:found < t.length):(movT t found done).length=t.length:=by
  unfold movT
  simp only [List.length_append,List.length_take,List.length_drop,List.length_cons,List.length_nil]
  omega
theorem zX0 {t:Tab} {found done i:Nat} (h:done <= found) (hf:found < t.length) (hi:i < t.length):(movT t found done).getD i []=t.getD (sgm found done i) []:=by
  unfold movT sgm
  simp only [gQ]
  by_cases c1:i < done
  . rw [if_pos c1,List.getElem?_append_left (by simp only [List.length_append,List.length_take,List.length_drop,List.length_cons,List.length_nil]; omega),List.getElem?_append_left (by simp only [List.length_append,List.length_take,List.length_cons,List.length_nil]; omega),List.getElem?_append_left (by simp only [List.length_take]; omega),List.getElem?_take_of_lt c1]
  . rw [if_neg c1]
    by_cases c2:i=done
    . rw [if_pos c2,List.getElem?_append_left (by simp only [List.length_append,List.length_take,List.length_drop,List.length_cons,List.length_nil]; omega),List.getElem?_append_left (by simp only [List.length_append,List.length_take,List.length_cons,List.length_nil]; omega),List.getElem?_append_right (by simp only [List.length_take]; omega)]
      have e:i - (List.take done t).length=0:=by simp only [List.length_take]; omega
      rw [e]
      simp
    . rw [if_neg c2]
      by_cases c3:i <= found
      . rw [if_pos c3,List.getElem?_append_left (by simp only [List.length_append,List.length_take,List.length_drop,List.length_cons,List.length_nil]; omega),List.getElem?_append_right (by simp only [List.length_append,List.length_take,List.length_cons,List.length_nil]; omega)]
        have e:i - (List.take done t ++ [t[found]?.getD []]).length=i - done - 1:=by simp only [List.length_append,List.length_take,List.length_cons,List.length_nil]; omega
        rw [e,List.getElem?_take_of_lt (by omega),List.getElem?_drop]
        have e2:done + (i - done - 1)=i - 1:=by omega
        rw [e2]
      . rw [if_neg c3,List.getElem?_append_right (by simp only [List.length_append,List.length_take,List.length_drop,List.length_cons,List.length_nil]; omega)]
        have e:i - (List.take done t ++ [t[found]?.getD []] ++ List.take (found - done) (List.drop done t)).length=i - found - 1:=by simp only [List.length_append,List.length_take,List.length_drop,List.length_cons,List.length_nil]; omega
        rw [e,List.getElem?_drop]
        have e2:found + 1 + (i - found - 1)=i:=by omega
        rw [e2]
def ent (t:Tab):Mx:=fun i j=>(t.getD i []).getD j 0
theorem jQ8 {p:Int} {t:Tab} {found done m:Nat} (h:done <= found) (hf:found < t.length):Al p t.length m (ent (movT t found done)) (mm t.length (pmx (sgm found done)) (ent t)):=.of fun i j hi _=>by
  rw [qKQ _ (zUW h hf hi)]
  unfold ent
  rw [zX0 h hf hi]
def fstR (p fac:Int) (row:List Int):List Int:=(row.map fun n=>fac * n).map (pl p)
def wout (p:Int) (row first:List Int) (at':Nat):List Int:=List.zipWith (fun n o=>pl p (n - row.getD at' 0 * o)) row first
def clrT (p fac:Int) (t:Tab) (at' done:Nat):Tab:=t.mapIdx fun place row=>if place=done then fstR p fac (t.getD done []) else wout p row (fstR p fac (t.getD done [])) at'
theorem qWV (p fac:Int) (t:Tab) (at' done:Nat):(clrT p fac t at' done).length=t.length:=by unfold clrT; rw [List.length_mapIdx]
theorem zQJ (p fac:Int) (row:List Int) (j:Nat):(fstR p fac row).getD j 0=pl p (fac * row.getD j 0):=by
  unfold fstR
  rw [yJU _ (pl_0 p),yJU _ (Int.mul_zero fac)]
theorem zKW {p:Int} {row first:List Int} {at' j:Nat} (h1:j < row.length) (h2:j < first.length):(wout p row first at').getD j 0=pl p (row.getD j 0 - row.getD at' 0 * first.getD j 0):=by
  unfold wout
  rw [yQQ (by rw [List.length_zipWith]; omega),List.getElem_zipWith,yQQ h1,yQQ h2]
theorem zW2 {p fac:Int} {t:Tab} {at' done i:Nat} (hi:i < t.length):(clrT p fac t at' done).getD i []=if i=done then fstR p fac (t.getD done []) else wout p (t.getD i []) (fstR p fac (t.getD done [])) at':=by
  unfold clrT
  simp only [gQ,List.getElem?_mapIdx,List.getElem?_eq_getElem hi,Option.map_some,Option.getD_some]
def clrC (fac:Int) (t:Tab) (at' done:Nat):Nat -> Int:=fun i=>if i=done then fac else -(ent t i at' * fac)
theorem qH7 {p fac:Int} {t:Tab} {at' done m:Nat} (hd:done < t.length) (hm:∀ i,i < t.length -> (t.getD i []).length=m):Al p t.length m (ent (clrT p fac t at' done)) (mm t.length (clm done (clrC fac t at' done)) (ent t)):=fun i j hi hj=>by
  rw [qKX _ _ hi hd]
  show p ∣ ((clrT p fac t at' done).getD i []).getD j 0 - _
  rw [zW2 hi]
  have f0:=yJ1 p (fac * (t.getD done []).getD j 0)
  by_cases c:i=done
  . rw [if_pos c,if_pos c,zQJ,Int.zero_add]
    unfold clrC
    rw [if_pos c]
    exact f0
  . rw [if_neg c,if_neg c]
    have l1:=hm i hi
    have l2:(fstR p fac (t.getD done [])).length=m:=by unfold fstR; rw [List.length_map,List.length_map]; exact hm done hd
    rw [zKW (by omega) (by omega),zQJ]
    unfold clrC
    rw [if_neg c]
    show p ∣ _ - ((t.getD i []).getD j 0 + -((t.getD i []).getD at' 0 * fac) * (t.getD done []).getD j 0)
    have f1:=yJ1 p ((t.getD i []).getD j 0 - (t.getD i []).getD at' 0 * pl p (fac * (t.getD done []).getD j 0))
    generalize pl p ((t.getD i []).getD j 0 - (t.getD i []).getD at' 0 * pl p (fac * (t.getD done []).getD j 0))=u at *
    generalize pl p (fac * (t.getD done []).getD j 0)=v at *
    generalize (t.getD i []).getD j 0=x at *
    generalize (t.getD i []).getD at' 0=y at *
    generalize (t.getD done []).getD j 0=z at *
    have e:u - (x + -(y * fac) * z)=(u - (x - y * v)) + -(y * (v - fac * z)):=by
      rw [Int.neg_mul,Int.mul_assoc,Int.mul_sub]
      omega
    rw [e]
    exact Int.dvd_add f1 (Int.dvd_neg.mpr (Int.dvd_mul_of_dvd_right f0))
theorem jQ9 {p fac:Int} {t:Tab} {at' done:Nat} (hd:done < t.length) (hf:p ∣ fac * ent t done at' - 1):Inv2 p t.length (clm done (clrC fac t at' done)) (clm done fun i=>ent t i at'):=by
  have c0:clrC fac t at' done done=fac:=if_pos rfl
  refine ⟨qJ9 hd (by rw [c0]; exact hf) fun i _ hne=>?_,qJ9 hd (by rw [c0,Int.mul_comm]; exact hf) fun i _ hne=>?_⟩
  . have ci:clrC fac t at' done i = -(ent t i at' * fac):=if_neg hne
    rw [ci]
    generalize ent t i at'=y
    generalize ent t done at'=z at *
    have e:y + -(y * fac) * z = -(y * (fac * z - 1)):=by
      rw [Int.neg_mul,Int.mul_assoc,Int.mul_sub,Int.mul_one]
      omega
    rw [e]
    exact Int.dvd_neg.mpr (Int.dvd_mul_of_dvd_right hf)
  . have ci:clrC fac t at' done i = -(ent t i at' * fac):=if_neg hne
    rw [ci,c0]
    have e:-(ent t i at' * fac) + ent t i at' * fac=0:=by omega
    rw [e]
    exact Int.dvd_zero p
def ffn (t:Tab) (at' d:Nat):Option Nat:=((List.range (t.length - d)).map fun k=>d + k).find? fun i=>decide (ent t i at' ≠ 0)
theorem zQW {t:Tab} {at' d f:Nat} (h:ffn t at' d=some f):d <= f /\ f < t.length /\ ent t f at' ≠ 0:=by
  unfold ffn at h
  have h1:=List.find?_some h
  have h2:=List.mem_of_find?_eq_some h
  obtain ⟨k,hk,e⟩:=List.mem_map.mp h2
  have hk:=List.mem_range.mp hk
  exact ⟨by omega,by omega,of_decide_eq_true h1⟩
theorem zUJ {t:Tab} {at' d:Nat} (h:ffn t at' d=none) {i:Nat} (h1:d <= i) (h2:i < t.length):ent t i at'=0:=by
  unfold ffn at h
  have:=List.find?_eq_none.mp h i (List.mem_map.mpr ⟨i - d,List.mem_range.mpr (by omega),by omega⟩)
  simpa using this
def clT (p:Int) (iv:Int -> Int) (t:Tab) (at' done:Nat):Tab:=clrT p (iv (ent t done at')) t at' done
def clN (p:Int) (iv:Int -> Int) (at':Nat) (s:Tab × Nat):Tab × Nat:=match ffn s.1 at' s.2 with
  | none=>s
  | some f=>(clT p iv (movT s.1 f s.2) at' s.2,s.2 + 1)
def clS (p:Int) (iv:Int -> Int) (t0:Tab):Nat -> Tab × Nat
  | 0=>(t0,0)
  | k + 1=>clN p iv k (clS p iv t0 k)
structure EI (p:Int) (n m:Nat) (t0:Tab) (k:Nat) (t:Tab) (d:Nat):Prop where
  len:t.length=n
  row:∀ i,i < n -> (t.getD i []).length=m
  red:∀ i j,pl p (ent t i j)=ent t i j
  mul:∃ A B,Inv2 p n A B /\ Al p n m (ent t) (mm n A (ent t0))
  dn:d <= n
  piv:∃ v:Nat -> Nat,(∀ i,i < d -> v i < k) /\ (∀ i j,i < j -> j < d -> v i < v j) /\ (∀ i,i < d -> ent t i (v i)=1) /\ (∀ i r,i < d -> r < n -> r ≠ i -> ent t r (v i)=0) /\ ∀ i c,i < d -> c < v i -> ent t i c=0
  low:∀ i c,d <= i -> i < n -> c < k -> ent t i c=0
theorem qZ4 {t:Tab} {found done i j:Nat} (h:done <= found) (hf:found < t.length) (hi:i < t.length):ent (movT t found done) i j=ent t (sgm found done i) j:=by
  unfold ent
  rw [zX0 h hf hi]
theorem jQH {p fac:Int} {t:Tab} {at' done i j m:Nat} (hi:i < t.length) (hd:done < t.length) (hm:∀ i,i < t.length -> (t.getD i []).length=m) (hj:j < m):ent (clrT p fac t at' done) i j=if i=done then pl p (fac * ent t done j) else pl p (ent t i j - ent t i at' * pl p (fac * ent t done j)):=by
  unfold ent
  rw [zW2 hi]
  split
  . exact zQJ _ _ _ _
  . rw [zKW (by rw [hm i hi]; exact hj) (by unfold fstR; rw [List.length_map,List.length_map,hm done hd]; exact hj),zQJ]
theorem qYW {t:Tab} {i j m:Nat} (hm:∀ i,i < t.length -> (t.getD i []).length=m) (hj:m <= j):ent t i j=0:=by
  unfold ent
  by_cases c:i < t.length
  . exact yQ6 (by rw [hm i c]; exact hj)
  . rw [List.getD_eq_getElem?_getD (l:=t),List.getElem?_eq_none (by omega)]
    rfl
theorem yX8 {t:Tab} {i j:Nat} (h:t.length <= i):ent t i j=0:=by
  unfold ent
  rw [List.getD_eq_getElem?_getD (l:=t),List.getElem?_eq_none h]
  rfl
theorem qZ6 {p fac:Int} {t:Tab} {at' done i m:Nat} (hd:done < t.length) (hm:∀ i,i < t.length -> (t.getD i []).length=m) (hi:i < t.length):((clrT p fac t at' done).getD i []).length=m:=by
  rw [zW2 hi]
  have l2:(fstR p fac (t.getD done [])).length=m:=by unfold fstR; rw [List.length_map,List.length_map]; exact hm done hd
  split
  . exact l2
  . unfold wout
    rw [List.length_zipWith,l2,hm i hi,Nat.min_self]
theorem EI.step {p:Int} {n m:Nat} {t0:Tab} {k:Nat} {t:Tab} {d:Nat} {iv:Int -> Int} (hp:2 <= p) (hiv:∀ x,0 < x -> x < p -> p ∣ iv x * x - 1) (hk:k < m) (I:EI p n m t0 k t d):EI p n m t0 (k + 1) (clN p iv k (t,d)).1 (clN p iv k (t,d)).2:=by
  obtain ⟨v,v1,v2,v3,v4,v5⟩:=I.piv
  unfold clN
  cases hf:ffn t k d with
  | none =>
    show EI p n m t0 (k + 1) t d
    refine ⟨I.len,I.row,I.red,I.mul,I.dn,⟨v,fun i hi=>Nat.lt_succ_of_lt (v1 i hi),v2,v3,v4,v5⟩,fun i c h1 h2 h3=>?_⟩
    by_cases c':c=k
    . rw [c']
      exact zUJ hf h1 (by rw [I.len]; exact h2)
    . exact I.low i c h1 h2 (by omega)
  | some f =>
    show EI p n m t0 (k + 1) (clT p iv (movT t f d) k d) (d + 1)
    obtain ⟨f1,f2,f3⟩:=zQW hf
    have tl:=I.len
    have ml:(movT t f d).length=n:=by rw [zKJ f1 f2,tl]
    have mr:∀ i,i < (movT t f d).length -> ((movT t f d).getD i []).length=m:=fun i hi=>by
      rw [ml] at hi
      rw [zX0 f1 f2 (by omega)]
      exact I.row _ (by have:=zUW (i:=i) f1 f2 (by omega); omega)
    have me:∀ i j,i < n -> ent (movT t f d) i j=ent t (sgm f d i) j:=fun i j hi=>qZ4 f1 f2 (by omega)
    have sd:sgm f d d=f:=by unfold sgm; rw [if_neg (by omega),if_pos rfl]
    have slo:∀ i,i < d -> sgm f d i=i:=fun i hi=>if_pos hi
    have shi:∀ i,d <= i -> d <= sgm f d i:=fun i hi=>by
      unfold sgm
      rw [if_neg (by omega)]
      repeat' split
      all_goals omega
    have sn:∀ i,i < n -> sgm f d i < n:=fun i hi=>by rw [<- tl]; exact zUW f1 f2 (by omega)
    have dn:d < n:=by omega
    have xr:=I.red f k
    have x0:0 < ent t f k /\ ent t f k < p:=by
      have:=qQ5 (z:=p) (n:=ent t f k) (by omega)
      rw [xr] at this
      omega
    have hx:=hiv _ x0.1 x0.2
    unfold clT
    rw [me d k dn,sd]
    generalize hfac:iv (ent t f k)=fac at hx
    generalize hM:movT t f d=M at *
    have el:(clrT p fac M k d).length=n:=by rw [qWV,ml]
    have ee:∀ i j,i < n -> j < m -> ent (clrT p fac M k d) i j=if i=d then pl p (fac * ent M d j) else pl p (ent M i j - ent M i k * pl p (fac * ent M d j)):=fun i j hi hj=>jQH (by omega) (by omega) mr hj
    have lowM:∀ c,c < k -> ent M d c=0:=fun c hc=>by rw [me d c dn,sd]; exact I.low f c f1 (by omega) hc
    have e1:∀ i c,i < n -> c < k -> ent (clrT p fac M k d) i c=if i=d then 0 else ent t (sgm f d i) c:=fun i c hi hc=>by
      rw [ee i c hi (by omega),lowM c hc,Int.mul_zero,pl_0,Int.mul_zero,Int.sub_zero,me i c hi,I.red]
    have e2:∀ i,i < n -> ent (clrT p fac M k d) i k=if i=d then 1 else 0:=fun i hi=>by
      have one:pl p (fac * ent M d k)=1:=by
        rw [me d k dn,sd]
        have h1:pl p 1=1:=by
          rw [yX6 (by omega)]
          exact Int.emod_eq_of_lt (by omega) (by omega)
        rw [<- h1]
        exact (zZY p _ _).mpr hx
      rw [ee i k hi hk,one,Int.mul_one,Int.sub_self,pl_0]
    refine ⟨el,fun i hi=>qZ6 (by omega) mr (by omega),fun i j=>?_,?_,by omega,⟨fun i=>if i < d then v i else k,fun i hi=>?_,fun i j h1 h2=>?_,fun i hi=>?_,fun i r h1 h2 h3=>?_,fun i c h1 h2=>?_⟩,fun i c h1 h2 h3=>?_⟩
    . by_cases c1:i < n
      . by_cases c2:j < m
        . rw [ee i j c1 c2]
          split <;> exact yUZ _ _
        . rw [qYW (m:=m) (fun i hi=>qZ6 (by omega) mr (by rw [el] at hi; omega)) (by omega),pl_0]
      . rw [yX8 (by omega),pl_0]
    . obtain ⟨A,B,hi,ha⟩:=I.mul
      have i1:Inv2 p n (pmx (sgm f d)) (pmx (tau f d)):=⟨qXQ sn fun i _=>qHU f1 i,qXQ (fun i h=>by rw [<- tl]; exact jYH f1 f2 (by omega)) fun i _=>qHW f1 i⟩
      have hxM:p ∣ fac * ent M d k - 1:=by rw [me d k dn,sd]; exact hx
      have i2:Inv2 p M.length (clm d (clrC fac M k d)) (clm d fun i=>ent M i k):=jQ9 (by omega) hxM
      rw [ml] at i2
      have a1:Al p n m (ent M) (mm n (pmx (sgm f d)) (ent t)):=by
        rw [<- hM,<- tl]
        exact jQ8 f1 f2
      have a2:Al p n m (ent (clrT p fac M k d)) (mm n (clm d (clrC fac M k d)) (ent M)):=by
        have:=qH7 (p:=p) (fac:=fac) (t:=M) (at':=k) (done:=d) (m:=m) (by omega) mr
        rw [ml] at this
        exact this
      refine ⟨mm n (clm d (clrC fac M k d)) (mm n (pmx (sgm f d)) A),_,i2.mul (i1.mul hi),a2.trans ?_⟩
      refine ((Al.refl p n n _).mul (a1.trans (((Al.refl p n n _).mul ha).trans (Al.assoc p n n n m _ _ _).symm))).trans (Al.assoc p n n n m _ _ _).symm
    . show (if i < d then v i else k) < k + 1
      split
      . rename_i q
        have:=v1 i q
        omega
      . omega
    . show (if i < d then v i else k) < (if j < d then v j else k)
      rw [if_pos (by omega)]
      split
      . rename_i q
        exact v2 i j h1 q
      . exact v1 i (by omega)
    . show ent _ i (if i < d then v i else k)=1
      split
      . rename_i q
        rw [e1 i _ (by omega) (v1 i q),if_neg (by omega),slo i q]
        exact v3 i q
      . rw [e2 i (by omega),if_pos (by omega)]
    . show ent _ r (if i < d then v i else k)=0
      split
      . rename_i q
        rw [e1 r _ h2 (v1 i q)]
        split
        . rfl
        . refine v4 i _ q (sn r h2) fun z=>?_
          by_cases c:r < d
          . rw [slo r c] at z
            exact h3 z
          . have:=shi r (by omega)
            omega
      . rw [e2 r h2,if_neg (by omega)]
    . have h2:c < (if i < d then v i else k):=h2
      by_cases q:i < d
      . rw [if_pos q] at h2
        rw [e1 i c (by omega) (by have:=v1 i q; omega),if_neg (by omega),slo i q]
        exact v5 i c q h2
      . rw [if_neg q] at h2
        rw [e1 i c (by omega) h2,if_pos (by omega)]
    . by_cases q:c=k
      . rw [q,e2 i h2,if_neg (by omega)]
      . rw [e1 i c h2 (by omega),if_neg (by omega)]
        exact I.low _ c (shi i (by omega)) (sn i h2) (by omega)
theorem EI.start {p:Int} {n m:Nat} {t0:Tab} (h1:t0.length=n) (h2:∀ i,i < n -> (t0.getD i []).length=m) (h3:∀ i j,pl p (ent t0 i j)=ent t0 i j):EI p n m t0 0 t0 0 :=
  ⟨h1,h2,h3,⟨unM,unM,.unit p n,(Al.of fun i j hi _=>yK0 (ent t0) hi j).symm⟩,Nat.zero_le n,⟨fun _=>0,fun _ h=>absurd h (Nat.not_lt_zero _),fun _ _ _ h=>absurd h (Nat.not_lt_zero _),fun _ h=>absurd h (Nat.not_lt_zero _),fun _ _ h=>absurd h (Nat.not_lt_zero _),fun _ _ h=>absurd h (Nat.not_lt_zero _)⟩,fun _ _ _ _ h=>absurd h (Nat.not_lt_zero _)⟩
theorem EI.all {p:Int} {n m:Nat} {t0:Tab} {iv:Int -> Int} (hp:2 <= p) (hiv:∀ x,0 < x -> x < p -> p ∣ iv x * x - 1) (h1:t0.length=n) (h2:∀ i,i < n -> (t0.getD i []).length=m) (h3:∀ i j,pl p (ent t0 i j)=ent t0 i j):∀ k,k <= m -> EI p n m t0 k (clS p iv t0 k).1 (clS p iv t0 k).2
  | 0,_=>EI.start h1 h2 h3
  | k + 1,h=>EI.step hp hiv (by omega) (EI.all hp hiv h1 h2 h3 k (by omega))
def unR (n i:Nat):List Int:=(List.replicate n (0:Int)).set i 1
theorem zK9 (n i:Nat):(unR n i).length=n:=by unfold unR; rw [List.length_set,List.length_replicate]
theorem qXU {n i j:Nat} (h:j < n):(unR n i).getD j 0=unM i j:=by
  unfold unR unM
  rw [yQQ (by rw [List.length_set,List.length_replicate]; exact h),List.getElem_set]
  split
  . rfl
  . exact List.getElem_replicate ..
def unT (n:Nat):Tab:=(List.range n).map fun i=>unR n i
theorem zX1 (n:Nat):(unT n).length=n:=by unfold unT; rw [List.length_map,List.length_range]
theorem qU9 {n i:Nat} (h:i < n):(unT n).getD i []=unR n i:=by
  unfold unT
  rw [gQ,List.getElem?_map,List.getElem?_range h]
  rfl
def besT (p:Int) (rows:Tab):Tab:=List.zipWith (fun row unit=>(row ++ unit).map (pl p)) rows (unT rows.length)
theorem zYY (p:Int) (rows:Tab):(besT p rows).length=rows.length:=by unfold besT; rw [List.length_zipWith,zX1,Nat.min_self]
theorem zXJ {p:Int} {rows:Tab} {i:Nat} (h:i < rows.length):(besT p rows).getD i []=(rows.getD i [] ++ unR rows.length i).map (pl p):=by
  unfold besT
  have u:=qU9 h
  rw [gQ,List.getElem?_eq_getElem (by rw [zX1]; exact h)] at u
  have u:(unT rows.length)[i]'(by rw [zX1]; exact h)=unR rows.length i:=u
  rw [gQ,List.getElem?_eq_getElem (by rw [List.length_zipWith,zX1,Nat.min_self]; exact h),Option.getD_some,List.getElem_zipWith,u,gQ,List.getElem?_eq_getElem h,Option.getD_some]
theorem jQV {a b:List Int} {j:Nat}:(a ++ b).getD j 0=if j < a.length then a.getD j 0 else b.getD (j - a.length) 0:=by
  rw [gQ]
  split
  . rename_i h
    rw [List.getElem?_append_left h,gQ]
  . rename_i h
    rw [List.getElem?_append_right (by omega),gQ]
theorem zUQ {p:Int} {rows:Tab} {w i j:Nat} (hi:i < rows.length) (hw:∀ i,i < rows.length -> (rows.getD i []).length=w):ent (besT p rows) i j=pl p (if j < w then ent rows i j else (unR rows.length i).getD (j - w) 0):=by
  show ((besT p rows).getD i []).getD j 0=_
  rw [zXJ hi,yJU _ (pl_0 p),jQV,hw i hi]
  rfl
theorem zH2 {p:Int} {rows:Tab} {i j:Nat}:pl p (ent (besT p rows) i j)=ent (besT p rows) i j:=by
  by_cases h:i < rows.length
  . unfold ent
    rw [zXJ h,yJU _ (pl_0 p),yUZ]
  . rw [yX8 (by rw [zYY]; omega),pl_0]
def cbuT (p:Int) (iv:Int -> Int) (rows:Tab) (w:Nat):Tab:=(clS p iv (besT p rows) w).1
structure Cbu (p:Int) (n w:Nat) (rows t:Tab) (d:Nat):Prop where
  len:t.length=n
  row:∀ i,i < n -> (t.getD i []).length=w + n
  red:∀ i j,pl p (ent t i j)=ent t i j
  inv:∃ B,Inv2 p n (fun i j=>ent t i (w + j)) B
  mul:Al p n w (ent t) (mm n (fun i j=>ent t i (w + j)) (ent rows))
  dn:d <= n
  piv:∃ v:Nat -> Nat,(∀ i,i < d -> v i < w) /\ (∀ i j,i < j -> j < d -> v i < v j) /\ (∀ i,i < d -> ent t i (v i)=1) /\ (∀ i r,i < d -> r < n -> r ≠ i -> ent t r (v i)=0) /\ ∀ i c,i < d -> c < v i -> ent t i c=0
  low:∀ i c,d <= i -> i < n -> c < w -> ent t i c=0
theorem Inv2.congr {p:Int} {n:Nat} {A B A':Mx} (h:Inv2 p n A B) (e:Al p n n A A'):Inv2 p n A' B :=
  ⟨(e.symm.mul (.refl p n n B)).trans h.ab,((Al.refl p n n B).mul e.symm).trans h.ba⟩
theorem zKX {p:Int} {iv:Int -> Int} {rows:Tab} {n w:Nat} (hp:2 <= p) (hiv:∀ x,0 < x -> x < p -> p ∣ iv x * x - 1) (hn:rows.length=n) (hw:∀ i,i < n -> (rows.getD i []).length=w):Cbu p n w rows (cbuT p iv rows w) (clS p iv (besT p rows) w).2:=by
  subst hn
  have I:=EI.all (m:=w + rows.length) hp hiv (zYY p rows) (fun i hi=>by rw [zXJ hi,List.length_map,List.length_append,hw i hi,zK9]) (fun i j=>zH2) w (by omega)
  unfold cbuT
  generalize (clS p iv (besT p rows) w).1=t at *
  generalize (clS p iv (besT p rows) w).2=d at *
  obtain ⟨A,B,hi,ha⟩:=I.mul
  have k1:Al p rows.length rows.length A (fun i j=>ent t i (w + j)):=fun i j hi hj=>by
    have h:=(ha i (w + j) hi (by omega))
    have e:Al p rows.length rows.length (mm rows.length A (fun k l=>ent (besT p rows) k (w + l))) A:=((Al.refl p _ _ A).mul fun k l hk hl=>by
      show p ∣ ent (besT p rows) k (w + l) - unM k l
      rw [zUQ hk hw,if_neg (by omega),show w + l - w=l by omega,qXU hl]
      exact yJ1 _ _).trans (.of fun i j _ hj=>zW1 A i hj)
    have h2:=e i j hi hj
    have h3:mm rows.length A (ent (besT p rows)) i (w + j)=mm rows.length A (fun k l=>ent (besT p rows) k (w + l)) i j:=rfl
    rw [h3] at h
    generalize mm rows.length A (fun k l=>ent (besT p rows) k (w + l)) i j=y at *
    show p ∣ A i j - ent t i (w + j)
    have e2:A i j - ent t i (w + j) = -((ent t i (w + j) - y) + (y - A i j)):=by omega
    rw [e2]
    exact Int.dvd_neg.mpr (Int.dvd_add h h2)
  refine ⟨I.len,I.row,I.red,⟨B,hi.congr k1⟩,?_,I.dn,I.piv,I.low⟩
  have k2:Al p rows.length w (ent (besT p rows)) (ent rows):=fun i j hi hj=>by
    rw [zUQ hi hw,if_pos hj]
    exact yJ1 _ _
  have k3:Al p rows.length w (ent t) (mm rows.length A (ent (besT p rows))):=fun i j hi hj=>ha i j hi (by omega)
  exact k3.trans (k1.mul k2)
theorem jQ4 {n:Nat} {v:Nat -> Nat} (h1:∀ i,i < n -> v i < n) (h2:∀ i j,i < j -> j < n -> v i < v j):∀ i,i < n -> v i=i:=by
  have lo:∀ i,i < n -> i <= v i:=fun i=>by
    induction i with
    | zero=>intro _; exact Nat.zero_le _
    | succ i ih =>
      intro hi
      have:=ih (by omega)
      have:=h2 i (i + 1) (by omega) hi
      omega
  have hi:∀ k i,i + k + 1=n -> v i <= i:=fun k=>by
    induction k with
    | zero =>
      intro i h
      have:=h1 i (by omega)
      omega
    | succ k ih =>
      intro i h
      have:=ih (i + 1) (by omega)
      have:=h2 i (i + 1) (by omega) (by omega)
      omega
  intro i h
  have:=lo i h
  have:=hi (n - 1 - i) i (by omega)
  omega
theorem Cbu.unit {p:Int} {n:Nat} {rows t:Tab} {d:Nat} (hp:2 <= p) (c:Cbu p n n rows t d) (h:∃ B,Inv2 p n (ent rows) B):Al p n n (mm n (fun i j=>ent t i (n + j)) (ent rows)) unM:=by
  obtain ⟨B,hB⟩:=h
  obtain ⟨C,hC⟩:=c.inv
  obtain ⟨v,v1,v2,v3,v4,v5⟩:=c.piv
  have iL:=(hC.mul hB).congr c.mul.symm
  have dn:d=n:=by
    by_cases e:d=n
    . exact e
    . exfalso
      have dn:=c.dn
      have z:=iL.ab d d (by omega) (by omega)
      have s:mm n (ent t) (mm n B C) d d=0:=yXU fun k hk=>by rw [c.low d k (Nat.le_refl _) (by omega) hk,Int.zero_mul]
      have u:unM d d=1:=if_pos rfl
      rw [s,u] at z
      have:=Int.le_of_dvd (by decide) (Int.dvd_neg.mpr z)
      omega
  subst dn
  have vi:=jQ4 v1 v2
  refine c.mul.symm.trans (.of fun i j hi hj=>?_)
  have e3:=v3 j hj
  rw [vi j hj] at e3
  unfold unM
  split
  . rename_i q
    rw [q]
    exact e3
  . rename_i q
    have:=v4 j i hj hi q
    rw [vi j hj] at this
    exact this
theorem zW4 (f:Nat -> Int):∀ n,((List.range n).map f).sum=sm n f
  | 0=>rfl
  | n + 1=>by
    rw [List.range_succ,List.map_append,List.sum_append,zW4 f n]
    show sm n f + (f n + 0)=sm n f + f n
    rw [Int.add_zero]
def prodT (p:Int) (a b:Tab) (w:Nat):Tab:=a.map fun row=>(List.range w).map fun j=>((List.range row.length).map fun k=>row.getD k 0 * ent b k j).sum % p
theorem tabGet {t:Tab} {i:Nat} (h:i < t.length):t.getD i []=t[i]:=by rw [gQ,List.getElem?_eq_getElem h]; rfl
theorem tabMap {t:Tab} (f:List Int -> List Int) {i:Nat} (h:i < t.length):(t.map f).getD i []=f (t.getD i []):=by
  rw [tabGet (by rw [List.length_map]; exact h),List.getElem_map,tabGet h]
theorem rngGet (f:Nat -> Int) {w j:Nat} (h:j < w):((List.range w).map f).getD j 0=f j:=by
  rw [yQQ (by rw [List.length_map,List.length_range]; exact h),List.getElem_map,List.getElem_range]
theorem zHJ {p:Int} {a b:Tab} {w l i j:Nat} (hi:i < a.length) (hl:(a.getD i []).length=l) (hj:j < w):ent (prodT p a b w) i j=mm l (ent a) (ent b) i j % p:=by
  show ((prodT p a b w).getD i []).getD j 0=_
  unfold prodT
  rw [tabMap _ hi,rngGet _ hj,zW4,hl]
  rfl
theorem jJ8 {s t:Tab} {m:Nat} (h1:s.length=t.length) (h2:∀ i,i < t.length -> (s.getD i []).length=m /\ (t.getD i []).length=m) (h3:∀ i j,i < t.length -> j < m -> ent s i j=ent t i j):s=t:=by
  refine List.ext_getElem h1 fun i hi hi'=>?_
  have e1:=tabGet hi
  have e2:=tabGet hi'
  obtain ⟨l1,l2⟩:=h2 i hi'
  refine List.ext_getElem (by rw [<- e1,<- e2,l1,l2]) fun j hj hj'=>?_
  have:=h3 i j hi' (by rw [<- l2,e2]; exact hj')
  unfold ent at this
  rw [e1,e2,yQQ hj,yQQ hj'] at this
  exact this
theorem zK3 {p:Int} {a b t:Tab} {n l w:Nat} (hp:0 < p) (ha:a.length=n) (hl:∀ i,i < n -> (a.getD i []).length=l) (ht:t.length=n) (hw:∀ i,i < n -> (t.getD i []).length=w) (hr:∀ i j,pl p (ent t i j)=ent t i j) (h:Al p n w (ent t) (mm l (ent a) (ent b))):prodT p a b w=t:=by
  have hlen:(prodT p a b w).length=t.length:=by unfold prodT; rw [List.length_map,ha,ht]
  refine jJ8 (m:=w) hlen (fun i hi=>⟨?_,hw i (by omega)⟩) fun i j hi hj=>?_
  . unfold prodT
    rw [tabMap _ (by omega),List.length_map,List.length_range]
  . rw [zHJ (by omega) (hl i (by omega)) hj,<- yX6 hp,<- hr i j]
    refine ((zZY p _ _).mpr ?_).symm
    exact h i j (by omega) hj
def oneT (n:Nat):Tab:=(List.range n).map fun i=>(List.range n).map fun k=>unM i k
theorem yH1 (n:Nat):(oneT n).length=n:=by unfold oneT; rw [List.length_map,List.length_range]
theorem qY1 {n i:Nat} (h:i < n):(oneT n).getD i []=(List.range n).map fun k=>unM i k:=by
  rw [tabGet (by rw [yH1]; exact h)]
  unfold oneT
  rw [List.getElem_map,List.getElem_range]
theorem zXY {n i j:Nat} (h:i < n) (hj:j < n):ent (oneT n) i j=unM i j:=by
  show ((oneT n).getD i []).getD j 0=_
  rw [qY1 h,rngGet _ hj]
theorem zYJ {n i:Nat} (h:i < n):((oneT n).getD i []).length=n:=by rw [qY1 h,List.length_map,List.length_range]
theorem zU0 {p:Int} (hp:2 <= p) {n:Nat} (i j:Nat):pl p (ent (oneT n) i j)=ent (oneT n) i j:=by
  by_cases h:i < n
  . by_cases hj:j < n
    . rw [zXY h hj]
      unfold unM
      split
      . rw [yX6 (by omega)]
        exact Int.emod_eq_of_lt (by omega) (by omega)
      . exact pl_0 p
    . rw [qYW (m:=n) (fun i hi=>zYJ (by rw [yH1] at hi; exact hi)) (by omega),pl_0]
  . rw [yX8 (by rw [yH1]; omega),pl_0]
def leftT (w:Nat) (t:Tab):Tab:=t.map fun row=>row.take w
def rightT (w:Nat) (t:Tab):Tab:=t.map fun row=>row.drop w
theorem yK9 {w:Nat} {t:Tab} {i j:Nat} (hj:j < w):ent (leftT w t) i j=ent t i j:=by
  by_cases h:i < t.length
  . show ((leftT w t).getD i []).getD j 0=_
    unfold leftT
    rw [tabMap _ h,gQ,List.getElem?_take_of_lt hj,<- gQ]
    rfl
  . rw [yX8 (by unfold leftT; rw [List.length_map]; omega),yX8 (by omega)]
theorem zZX {w:Nat} {t:Tab} {i j:Nat}:ent (rightT w t) i j=ent t i (w + j):=by
  by_cases h:i < t.length
  . show ((rightT w t).getD i []).getD j 0=_
    unfold rightT
    rw [tabMap _ h,gQ,List.getElem?_drop,<- gQ]
    rfl
  . rw [yX8 (by unfold rightT; rw [List.length_map]; omega),yX8 (by omega)]
theorem zHX (w:Nat) (t:Tab):(leftT w t).length=t.length:=by unfold leftT; rw [List.length_map]
theorem qXK (w:Nat) (t:Tab):(rightT w t).length=t.length:=by unfold rightT; rw [List.length_map]
def formT (p:Int) (iv:Int -> Int) (rows:Tab) (w:Nat):Tab:=leftT w (cbuT p iv rows w)
def turnT (p:Int) (iv:Int -> Int) (rows:Tab) (w:Nat):Tab:=rightT w (cbuT p iv rows w)
def backT (p:Int) (iv:Int -> Int) (rows:Tab) (w:Nat):Tab:=rightT rows.length (cbuT p iv (turnT p iv rows w) rows.length)
structure TOk (p:Int) (n m:Nat) (t:Tab):Prop where
  len:t.length=n
  row:∀ i,i < n -> (t.getD i []).length=m
  red:∀ i j,pl p (ent t i j)=ent t i j
structure Stands (n w:Nat) (t:Tab) (d:Nat) (v:Nat -> Nat):Prop where
  dn:d <= n
  lt:∀ i,i < d -> v i < w
  up:∀ i j,i < j -> j < d -> v i < v j
  one:∀ i,i < d -> ent t i (v i)=1
  alone:∀ i r,i < d -> r < n -> r ≠ i -> ent t r (v i)=0
  before:∀ i c,i < d -> c < v i -> ent t i c=0
  low:∀ i c,d <= i -> i < n -> c < w -> ent t i c=0
theorem Cbu.left {p:Int} {n w:Nat} {rows t:Tab} {d:Nat} (c:Cbu p n w rows t d):TOk p n w (leftT w t):=by
  refine ⟨by rw [zHX,c.len],fun i hi=>?_,fun i j=>?_⟩
  . unfold leftT
    rw [tabMap _ (by rw [c.len]; exact hi),List.length_take,c.row i hi]
    omega
  . by_cases h:j < w
    . rw [yK9 h,c.red]
    . by_cases hi:i < n
      . have:ent (leftT w t) i j=0:=yQ6 (by
          unfold leftT
          rw [tabMap _ (by rw [c.len]; exact hi),List.length_take]
          omega)
        rw [this,pl_0]
      . rw [yX8 (by rw [zHX,c.len]; omega),pl_0]
theorem Cbu.right {p:Int} {n w:Nat} {rows t:Tab} {d:Nat} (c:Cbu p n w rows t d):TOk p n n (rightT w t):=by
  refine ⟨by rw [qXK,c.len],fun i hi=>?_,fun i j=>by rw [zZX,c.red]⟩
  unfold rightT
  rw [tabMap _ (by rw [c.len]; exact hi),List.length_drop,c.row i hi]
  omega
theorem qUV {p:Int} {iv:Int -> Int} {rows:Tab} {n w:Nat} (hp:2 <= p) (hiv:∀ x,0 < x -> x < p -> p ∣ iv x * x - 1) (hn:rows.length=n) (hw:∀ i,i < n -> (rows.getD i []).length=w) :
    TOk p n w (formT p iv rows w) /\ TOk p n n (turnT p iv rows w) /\ TOk p n n (backT p iv rows w) /\ prodT p (turnT p iv rows w) rows w=formT p iv rows w /\ (∃ d v,Stands n w (formT p iv rows w) d v) /\
      prodT p (turnT p iv rows w) (backT p iv rows w) n=oneT n /\ prodT p (backT p iv rows w) (turnT p iv rows w) n=oneT n:=by
  have c:=zKX hp hiv hn hw
  have tF:TOk p n w (formT p iv rows w):=c.left
  have tT:TOk p n n (turnT p iv rows w):=c.right
  have eT:ent (turnT p iv rows w)=fun i j=>ent (cbuT p iv rows w) i (w + j):=by
    funext i j
    exact zZX
  have c2:=zKX (rows:=turnT p iv rows w) hp hiv tT.len tT.row
  have eB:backT p iv rows w=rightT n (cbuT p iv (turnT p iv rows w) n):=by unfold backT; rw [hn]
  have tB:TOk p n n (backT p iv rows w):=by rw [eB]; exact c2.right
  have eb:ent (backT p iv rows w)=fun i j=>ent (cbuT p iv (turnT p iv rows w) n) i (n + j):=by
    rw [eB]
    funext i j
    exact zZX
  obtain ⟨Bi,hBi⟩:=c.inv
  rw [<- eT] at hBi
  have bt:Al p n n (mm n (ent (backT p iv rows w)) (ent (turnT p iv rows w))) unM:=by
    rw [eb]
    exact c2.unit hp ⟨Bi,hBi⟩
  have tb:Al p n n (mm n (ent (turnT p iv rows w)) (ent (backT p iv rows w))) unM:=hBi.left bt
  have p0:0 < p:=by omega
  have e1:Al p n n (ent (oneT n)) unM:=.of fun i j hi hj=>zXY hi hj
  refine ⟨tF,tT,tB,?_,?_,?_,?_⟩
  . refine zK3 p0 tT.len tT.row tF.len tF.row tF.red ?_
    rw [eT]
    exact (Al.of fun i j hi hj=>yK9 hj:Al p n w (ent (formT p iv rows w)) (ent (cbuT p iv rows w))).trans c.mul
  . obtain ⟨v,v1,v2,v3,v4,v5⟩:=c.piv
    refine ⟨_,v,c.dn,v1,v2,fun i hi=>?_,fun i r hi hr hne=>?_,fun i c' hi hc=>?_,fun i c' h1 h2 h3=>?_⟩
    . rw [show formT p iv rows w=leftT w (cbuT p iv rows w) from rfl,yK9 (v1 i hi)]
      exact v3 i hi
    . rw [show formT p iv rows w=leftT w (cbuT p iv rows w) from rfl,yK9 (v1 i hi)]
      exact v4 i r hi hr hne
    . rw [show formT p iv rows w=leftT w (cbuT p iv rows w) from rfl,yK9 (by have:=v1 i hi; omega)]
      exact v5 i c' hi hc
    . rw [show formT p iv rows w=leftT w (cbuT p iv rows w) from rfl,yK9 h3]
      exact c.low i c' h1 h2 h3
  . exact zK3 p0 tT.len tT.row (yH1 n) (fun i hi=>zYJ hi) (fun i j=>zU0 hp i j) (e1.trans tb.symm)
  . exact zK3 p0 tB.len tB.row (yH1 n) (fun i hi=>zYJ hi) (fun i j=>zU0 hp i j) (e1.trans bt.symm)
theorem qW7 {B D U V U' V' S T P y0 y1 y2:Ser} (h0:B=U * V + P * y0) (h1:D=U' * V + U * V' + P * y1) (h2:(1:Ser)=S * B + T * D + P * y2) :
    (1:Ser)=U * (S * V + T * V') + V * (T * U') + P * (S * y0 + T * y1 + y2) /\
    U * (S * V + T * V') * (U * (S * V + T * V'))=U * (S * V + T * V') + (-((S * V + T * V') * (T * U'))) * B + P * ((S * V + T * V') * (T * U') * y0 - U * (S * V + T * V') * (S * y0 + T * y1 + y2)):=by
  have k:(1:Ser)=U * (S * V + T * V') + V * (T * U') + P * (S * y0 + T * y1 + y2):=by
    rw [h2,h0,h1]
    clear h0 h1 h2
    grind
  refine ⟨k,?_⟩
  clear h1 h2
  generalize S * V + T * V'=W at *
  generalize T * U'=X at *
  generalize S * y0 + T * y1 + y2=z at *
  have e:U * W=1 - V * X - P * z:=by
    have:(1:Ser) - V * X - P * z=U * W + V * X + P * z - V * X - P * z:=by rw [<- k]
    rw [this]
    clear k h0 this
    grind
  have e2:U * W * (U * W)=U * W * (1 - V * X - P * z):=congrArg (fun t=>U * W * t) e
  rw [e2,h0]
  clear k e e2 h0
  grind
theorem qYK {p:Int} {d a b:List Int} (o:List Int) (y:Ser) (h:sr a=sr b + sr o * sr d + Ser.con p * y):EqM p d a b:=qZY.mpr ⟨o,y,h⟩
theorem jZ1 {p:Int} {a b:List Int} (h:∀ n,p ∣ a.getD n 0 - b.getD n 0):∃ y:Ser,sr a=sr b + Ser.con p * y:=by
  obtain ⟨y,e⟩:=(qQW (q:=p) (a:=sr a - sr b)).mp h
  refine ⟨y,?_⟩
  rw [<- e]
  generalize sr a=A
  generalize sr b=C
  clear e
  grind
theorem pw_idem {p:Int} {d e:List Int} (h:EqM p d (convL e e) e):∀ n,1 <= n -> EqM p d (pw e n) e
  | 1,_=>by
    show EqM p d (convL (pw e 0) e) e
    exact (EqM.comm p d [1] e).trans (EqM.one p d e)
  | n + 2,_=>by
    have ih:=pw_idem h (n + 1) (by omega)
    show EqM p d (convL (pw e (n + 1)) e) e
    exact (ih.mul e).trans h
theorem qZW {p:Int} {a b:List Int} (h:∀ n,p ∣ a.getD n 0 - b.getD n 0) (n:Nat):p ∣ (dl a).getD n 0 - (dl b).getD n 0:=by
  rw [zJK,zJK,<- Int.mul_sub]
  exact Int.dvd_mul_of_dvd_right (h _)
theorem stays45 {p:Int} {b u v:List Int} (hp:IsP p) (d:DOk p b) (hb:Tz p b=b) (un:2 <= u.length) (u1:lastI u=1) (vn:2 <= v.length) (v1:lastI v=1) (buv:∀ n,p ∣ b.getD n 0 - cm u v n) (sq:Sq p b) :
    ∃ h,IsR p b h /\ 2 <= h.length /\ rm p b (pw h p.toNat)=h:=by
  have p2:=hp.1
  obtain ⟨s,t,hst⟩:=sq
  obtain ⟨y0,e0⟩:=jZ1 (p:=p) (a:=b) (b:=convL u v) fun n=>by rw [yQ4]; exact buv n
  obtain ⟨y1,e1⟩:=jZ1 (p:=p) (a:=dl b) (b:=addL (convL (dl u) v) (convL u (dl v))) fun n=>by
    have a:=qZW (p:=p) (a:=b) (b:=convL u v) (fun n=>by rw [yQ4]; exact buv n) n
    rw [jX3] at a
    rw [yZ2,yQ4,yQ4]
    exact a
  obtain ⟨y2,e2⟩:=jZ1 (p:=p) (a:=[1]) (b:=addL (convL s b) (convL t (dl b))) fun n=>by
    rw [yZ2,yQ4,yQ4]
    exact hst n
  rw [yYQ] at e0
  rw [zQH,yYQ,yYQ] at e1
  rw [qKW,zQH,yYQ,yYQ] at e2
  obtain ⟨k1,k2⟩:=qW7 e0 e1 e2
  obtain ⟨E,hE⟩:∃ E,E=convL u (addL (convL s v) (convL t (dl v))):=⟨_,rfl⟩
  have sE:sr E=sr u * (sr s * sr v + sr t * sr (dl v)):=by rw [hE,yYQ,zQH,yYQ,yYQ]
  rw [<- sE] at k1 k2
  have idem:EqM p b (convL E E) E:=qYK (scl (-1) (convL (addL (convL s v) (convL t (dl v))) (convL t (dl u)))) _ (by
    rw [yYQ,k2,zHY,yYQ,zQH,yYQ,yYQ,yYQ]
    have c1:Ser.con (-1) = -1:=Ser.ext fun n=>by
      show (if n=0 then (-1:Int) else 0) = -(if n=0 then (1:Int) else 0)
      split <;> rfl
    rw [c1]
    congr 2
    generalize sr s * sr v + sr t * sr (dl v)=W
    generalize sr t * sr (dl u)=X
    clear k1 k2 e0 e1 e2 c1 sE
    grind)
  obtain ⟨_,_,ir,er⟩:=yJH d E
  rw [hb] at ir er
  obtain ⟨h,hh⟩:∃ h,h=rm p b E:=⟨_,rfl⟩
  rw [<- hh] at ir er
  have nz:∀ x,p ∣ x * lastI b -> p ∣ x:=fun x hx=>d.nz x (by rw [hb]; exact hx)
  refine ⟨h,ir,?_,qQ1 nz ir ?_⟩
  . refine Classical.byContradiction fun hc=>?_
    have nu:∀ x,p ∣ x * lastI u -> p ∣ x:=fun x h=>by rw [u1,Int.mul_one] at h; exact h
    have nv:∀ x,p ∣ x * lastI v -> p ∣ x:=fun x h=>by rw [v1,Int.mul_one] at h; exact h
    obtain ⟨o,y,eo⟩:=qZY.mp er
    have m1:EqM p u h []:=qYK (addL (addL (convL s v) (convL t (dl v))) (scl (-1) (convL o v))) (-(sr o * y0) - y) (by
      have c1:Ser.con (-1) = -1:=Ser.ext fun n=>by
        show (if n=0 then (-1:Int) else 0) = -(if n=0 then (1:Int) else 0)
        split <;> rfl
      rw [qJY,zQH,zHY,yYQ,zQH,yYQ,yYQ,c1]
      have:sr h=sr E - sr o * sr b - Ser.con p * y:=by
        rw [eo]
        generalize sr h=H
        clear k1 k2 e0 e1 e2 c1 sE eo
        grind
      rw [this,sE,e0]
      clear k1 k2 e0 e1 e2 c1 sE eo this
      generalize sr u=U
      generalize sr v=V
      generalize sr o=O
      generalize sr s=S
      generalize sr t=T
      generalize sr (dl v)=W
      generalize Ser.con p=P
      grind)
    have iu:IsR p u h:=⟨ir.form,ir.red,by omega⟩
    have i0:IsR p u []:=⟨yW6,fun n=>pl_0 p,by show 0 < u.length; omega⟩
    have h0:=yUW nu iu i0 m1
    have m2:EqM p v [] [1]:=qYK (addL (scl (-1) (convL t (dl u))) (scl (-1) (convL o u))) (-(sr s * y0 + sr t * y1 + y2) - sr o * y0 - y) (by
      have c1:Ser.con (-1) = -1:=Ser.ext fun n=>by
        show (if n=0 then (-1:Int) else 0) = -(if n=0 then (1:Int) else 0)
        split <;> rfl
      rw [h0,qJY] at eo
      rw [qJY,qKW,zQH,zHY,zHY,yYQ,yYQ,c1]
      have:(0:Ser)=sr E - sr o * sr b - Ser.con p * y:=by
        rw [eo]
        clear k1 k2 e0 e1 e2 c1 sE eo
        grind
      have k3:sr E=1 - sr v * (sr t * sr (dl u)) - Ser.con p * (sr s * y0 + sr t * y1 + y2):=by
        generalize sr v * (sr t * sr (dl u))=A at *
        generalize Ser.con p * (sr s * y0 + sr t * y1 + y2)=C at *
        rw [k1]
        clear k1 k2 e0 e1 e2 c1 sE eo this
        grind
      rw [k3,e0] at this
      rw [this]
      clear k1 k2 e0 e1 e2 c1 sE eo this k3
      generalize sr s * y0 + sr t * y1 + y2=Z
      generalize sr u=U
      generalize sr v=V
      generalize sr o=O
      generalize sr t=T
      generalize sr (dl u)=W
      generalize Ser.con p=P
      grind)
    have j0:IsR p v []:=⟨yW6,fun n=>pl_0 p,by show 0 < v.length; omega⟩
    have j1:IsR p v [1]:=⟨fun _=>by show (1:Int) ≠ 0; decide,fun n=>by
      match n with
      | 0=>exact zHZ p2
      | n + 1=>exact pl_0 p,by show 1 < v.length; omega⟩
    have:=yUW nv j0 j1 m2
    cases this
  . have a:=pw_mod er.symm p.toNat
    exact (a.trans (pw_idem idem p.toNat (by omega))).trans er
theorem zH8 {p:Int} {n m:Nat} {M R:Mx} {c:Nat -> Int} (hc:∀ j,j < m -> p ∣ sm n fun i=>c i * M i j) (hr:∀ i j,i < n -> j < n -> p ∣ mm m M R i j - unM i j):∀ j,j < n -> p ∣ c j:=fun j hj=>by
  have a:p ∣ sm n fun i=>c i * mm m M R i j:=by
    have e:(sm n fun i=>c i * mm m M R i j)=sm m fun k=>(sm n fun i=>c i * M i k) * R k j:=by
      have e1:(sm n fun i=>c i * mm m M R i j)=sm n fun i=>sm m fun k=>c i * M i k * R k j:=yQ7 fun i _=>by
        show c i * sm m (fun k=>M i k * R k j)=_
        rw [<- yVZ]
        exact yQ7 fun k _=>(Int.mul_assoc _ _ _).symm
      rw [e1,zWW]
      exact yQ7 fun k _=>qX4 (R k j) (fun i=>c i * M i k) n
    rw [e]
    exact yUQ fun k hk=>Int.dvd_mul_of_dvd_left (hc k hk)
  have b:p ∣ sm n fun i=>c i * (mm m M R i j - unM i j):=yUQ fun i hi=>Int.dvd_mul_of_dvd_right (hr i j hi hj)
  have e:(sm n fun i=>c i * unM i j)=c j:=by
    rw [yU0 (k:=j) hj fun i _ hn=>by unfold unM; rw [if_neg hn,Int.mul_zero]]
    unfold unM
    rw [if_pos rfl,Int.mul_one]
  have e2:(sm n fun i=>c i * (mm m M R i j - unM i j))=(sm n fun i=>c i * mm m M R i j) - c j:=by
    rw [<- e,<- zJZ]
    exact yQ7 fun i _=>Int.mul_sub _ _ _
  rw [e2] at b
  have:=Int.dvd_sub a b
  have e3:(sm n fun i=>c i * mm m M R i j) - ((sm n fun i=>c i * mm m M R i j) - c j)=c j:=by omega
  rw [e3] at this
  exact this
theorem qX1 {p:Int} {a b:Tab} {n l w:Nat} (ha:a.length=n) (hl:∀ i,i < n -> (a.getD i []).length=l):Al p n w (mm l (ent a) (ent b)) (ent (prodT p a b w)):=fun i j hi hj=>by
  rw [zHJ (by omega) (hl i hi) hj]
  exact ⟨mm l (ent a) (ent b) i j / p,by rw [Int.emod_def]; omega⟩
theorem jXK {p:Int} {iv:Int -> Int} {rows:Tab} {n w:Nat} {c:Nat -> Int} (hp:2 <= p) (hiv:∀ x,0 < x -> x < p -> p ∣ iv x * x - 1) (hn:rows.length=n) (hw:∀ i,i < n -> (rows.getD i []).length=w)
    (hc:∀ j,j < w -> p ∣ sm n fun i=>c i * ent rows i j) (ne:∃ i,i < n /\ ¬ p ∣ c i):∃ i,i < n /\ (1:Int) ∉ (formT p iv rows w).getD i []:=by
  obtain ⟨tF,tT,tB,eF,⟨d,v,S⟩,eTB,eBT⟩:=qUV hp hiv hn hw
  refine Classical.byContradiction fun hc2=>?_
  have all:∀ i,i < n -> i < d:=fun i hi=>by
    refine Classical.byContradiction fun hd=>hc2 ⟨i,hi,fun h1=>?_⟩
    obtain ⟨j,hj,e⟩:=FM.mem_getD h1
    have:=S.low i j (by omega) hi (by have:=tF.row i hi; omega)
    have e:ent (formT p iv rows w) i j=1:=e
    rw [e] at this
    cases this
  obtain ⟨i0,hi0,hne⟩:=ne
  generalize hT:turnT p iv rows w=tn at *
  generalize hB:backT p iv rows w=bk at *
  generalize hF:formT p iv rows w=fm at *
  have aF:Al p n w (mm n (ent tn) (ent rows)) (ent fm):=by
    have:=qX1 (p:=p) (b:=rows) (w:=w) tT.len tT.row
    rw [eF] at this
    exact this
  have aB:Al p n n (mm n (ent bk) (ent tn)) unM:=by
    have:=qX1 (p:=p) (b:=tn) (w:=n) tB.len tB.row
    rw [eBT] at this
    exact this.trans (.of fun i j hi hj=>zXY hi hj)
  let R:Mx:=fun k j=>if k=v j then 1 else 0
  have fR:Al p n n (mm w (ent fm) R) unM:=.of fun i j hi hj=>by
    have hd:=all j hj
    show sm w (fun k=>ent fm i k * R k j)=unM i j
    rw [yU0 (k:=v j) (S.lt j hd) fun k _ hk=>by show ent fm i k * (if k=v j then 1 else 0)=0; rw [if_neg hk,Int.mul_zero]]
    show ent fm i (v j) * (if v j=v j then 1 else 0)=unM i j
    rw [if_pos rfl,Int.mul_one]
    unfold unM
    by_cases c:i=j
    . rw [if_pos c,c]
      exact S.one j hd
    . rw [if_neg c]
      exact S.alone j i hd hi c
  have X1:Al p n n (mm n (ent tn) (mm w (ent rows) R)) unM:=(Al.assoc p n n w n (ent tn) (ent rows) R).symm.trans ((aF.mul (Al.refl p w n R)).trans fR)
  have X2:Al p n n (mm w (ent rows) R) (ent bk):=by
    have a:Al p n n (mm n (mm n (ent bk) (ent tn)) (mm w (ent rows) R)) (mm w (ent rows) R):=(aB.mul (Al.refl p n n _)).trans (.of fun i j hi _=>yK0 _ hi j)
    have b:=Al.assoc p n n n n (ent bk) (ent tn) (mm w (ent rows) R)
    have c:=(Al.refl p n n (ent bk)).mul X1
    exact a.symm.trans (b.trans (c.trans (.of fun i j _ hj=>zW1 _ i hj)))
  have X3:Al p n n (mm w (ent rows) (mm n R (ent tn))) unM:=(Al.assoc p n w n n (ent rows) R (ent tn)).symm.trans ((X2.mul (Al.refl p n n _)).trans aB)
  exact hne (zH8 hc X3 i0 hi0)
def ploT (p:Int) (t:Tab):Tab:=t.mapIdx fun at' row=>row.set at' (pl p (row.getD at' 0 - 1))
theorem qV1 (p:Int) (t:Tab):(ploT p t).length=t.length:=by unfold ploT; rw [List.length_mapIdx]
theorem zK5 {p:Int} {t:Tab} {i:Nat} (hi:i < t.length):(ploT p t).getD i []=(t.getD i []).set i (pl p ((t.getD i []).getD i 0 - 1)):=by
  unfold ploT
  rw [gQ,List.getElem?_mapIdx,List.getElem?_eq_getElem hi,gQ,List.getElem?_eq_getElem hi]
  rfl
theorem zK1 {t:Tab} (i:Nat):(t.drop 1).getD i []=t.getD (i + 1) []:=by
  rw [gQ,List.getElem?_drop,gQ,Nat.add_comm]
theorem qH4 {p:Int} {t:Tab} {i j:Nat} (hi:i + 1 < t.length) (hl:i + 1 < (t.getD (i + 1) []).length):p ∣ ent ((ploT p t).drop 1) i j - (ent t (i + 1) j - unM (i + 1) j):=by
  show p ∣ (((ploT p t).drop 1).getD i []).getD j 0 - ((t.getD (i + 1) []).getD j 0 - unM (i + 1) j)
  rw [zK1,zK5 hi]
  generalize t.getD (i + 1) []=r at *
  rw [gQ,List.getElem?_set]
  unfold unM
  by_cases c:i + 1=j
  . subst c
    rw [if_pos rfl,if_pos hl,if_pos rfl]
    exact yJ1 p _
  . rw [if_neg c,if_neg c,<- gQ,Int.sub_zero,Int.sub_self]
    exact Int.dvd_zero p
def qT (p:Int) (b:List Int):Tab:=rowsF p b (rm p b (pw [0,1] p.toNat)) (b.length - 1)
theorem jQY {p:Int} {b:List Int} (hp:IsP p) (d:DOk p b) (hb:Tz p b=b) (b3:3 <= b.length):(qT p b).length=b.length - 1 /\ (∀ k,k < b.length - 1 -> ((qT p b).getD k []).length=b.length - 1) /\ (∀ k,k < b.length - 1 -> EqM p b (pw (pw [0,1] p.toNat) k) ((qT p b).getD k [])) /\ (∀ k j,pl p (ent (qT p b) k j)=ent (qT p b) k j) /\ ∀ j,ent (qT p b) 0 j=unM 0 j:=by
  have p2:=hp.1
  have rr:∀ x,IsR p b (rm p b x) /\ EqM p b x (rm p b x):=fun x=>by
    obtain ⟨_,_,i,e⟩:=yJH d x
    rw [hb] at i e
    exact ⟨i,e⟩
  have nz:∀ x,p ∣ x * lastI b -> p ∣ x:=fun x hx=>d.nz x (by rw [hb]; exact hx)
  have at':∀ k,k < b.length - 1 -> (qT p b).getD k []=wd ((b.length:Int) - 1) (rm p b (pw (rm p b (pw [0,1] p.toNat)) k)):=fun k hk=>jZX hk
  have ql:(qT p b).length=b.length - 1:=zW0 _ _ _ _
  refine ⟨ql,fun k hk=>?_,fun k hk=>?_,fun k j=>?_,fun j=>?_⟩
  . rw [at' k hk]
    have:=(rr (pw (rm p b (pw [0,1] p.toNat)) k)).1.len
    have:=jY8 (m:=(b.length:Int) - 1) (r:=rm p b (pw (rm p b (pw [0,1] p.toNat)) k)) (by omega)
    omega
  . rw [at' k hk]
    have a:=pw_mod (rr (pw [0,1] p.toNat)).2 k
    refine a.trans ((rr _).2.trans (Sm.eqm fun n=>(qX0 _ _ n).symm))
  . show pl p (((qT p b).getD k []).getD j 0)=((qT p b).getD k []).getD j 0
    by_cases hk:k < b.length - 1
    . rw [at' k hk,qX0]
      exact (rr _).1.red j
    . have e:(qT p b).getD k []=[]:=by
        rw [gQ,List.getElem?_eq_none (by omega)]
        rfl
      rw [e]
      exact pl_0 p
  . show ((qT p b).getD 0 []).getD j 0=unM 0 j
    rw [at' 0 (by omega),qX0]
    have e:rm p b (pw (rm p b (pw [0,1] p.toNat)) 0)=[1]:=qQ1 nz ⟨fun _=>by show (1:Int) ≠ 0; decide,fun n=>by
      match n with
      | 0=>exact zHZ p2
      | n + 1=>exact pl_0 p,by show 1 < b.length; omega⟩ (EqM.refl p b [1])
    rw [e]
    unfold unM
    match j with
    | 0=>rfl
    | j + 1=>rfl
theorem dep45 {p:Int} {b h:List Int} (hp:IsP p) (d:DOk p b) (hb:Tz p b=b) (b1:lastI b=1) (b3:3 <= b.length) (ir:IsR p b h) (h2:2 <= h.length) (hh:rm p b (pw h p.toNat)=h) :
    (∀ j,j < b.length - 1 -> p ∣ sm (b.length - 2) fun i=>h.getD (i + 1) 0 * ent ((ploT p (qT p b)).drop 1) i j) /\ ∃ i,i < b.length - 2 /\ ¬ p ∣ h.getD (i + 1) 0:=by
  have p2:=hp.1
  obtain ⟨ql,rowl,RX,red,r0⟩:=jQY hp d hb b3
  have hl:=ir.len
  have key:=jVY (D:=b.length - 1) hp (by omega) b1 ql rowl RX ir
  rw [hh] at key
  refine ⟨fun j hj=>?_,h.length - 2,by omega,fun z=>?_⟩
  . have e1:p ∣ (cmbL h (qT p b)).getD j 0 - h.getD j 0:=by
      have:(Tz p (cmbL h (qT p b))).getD j 0=h.getD j 0:=by rw [key]
      rw [yZX] at this
      rw [<- this]
      have:=yJ1 p ((cmbL h (qT p b)).getD j 0)
      have e:=Int.dvd_neg.mpr this
      rw [Int.neg_sub] at e
      exact e
    rw [qJ0 h _ (by omega)] at e1
    have e2:(sm h.length fun k=>h.getD k 0 * ((qT p b).getD k []).getD j 0)=sm (b.length - 1) fun k=>h.getD k 0 * ent (qT p b) k j:=(zZ0 (by omega) fun k hk _=>by rw [yQ6 hk,Int.zero_mul]).symm
    rw [e2] at e1
    have e3:(sm (b.length - 1) fun k=>h.getD k 0 * unM k j)=h.getD j 0:=by
      rw [yU0 (k:=j) hj fun k _ hk=>by unfold unM; rw [if_neg hk,Int.mul_zero]]
      unfold unM
      rw [if_pos rfl,Int.mul_one]
    rw [<- e3,<- zJZ] at e1
    have e4:(sm (b.length - 1) fun k=>h.getD k 0 * ent (qT p b) k j - h.getD k 0 * unM k j)=sm (b.length - 2) fun i=>h.getD (i + 1) 0 * (ent (qT p b) (i + 1) j - unM (i + 1) j):=by
      rw [show b.length - 1=(b.length - 2) + 1 by omega,yV1,r0,Int.sub_self,Int.zero_add]
      exact yQ7 fun i _=>(Int.mul_sub _ _ _).symm
    rw [e4] at e1
    have e5:p ∣ sm (b.length - 2) fun i=>h.getD (i + 1) 0 * ent ((ploT p (qT p b)).drop 1) i j - h.getD (i + 1) 0 * (ent (qT p b) (i + 1) j - unM (i + 1) j):=yUQ fun i hi=>by
      rw [<- Int.mul_sub]
      exact Int.dvd_mul_of_dvd_right (qH4 (by omega) (by rw [rowl (i + 1) (by omega)]; omega))
    rw [zJZ] at e5
    have:=Int.dvd_add e5 e1
    rw [Int.sub_add_cancel] at this
    exact this
  . have e:h.length - 2 + 1=h.length - 1:=by omega
    rw [e] at z
    have nz:=ir.form (List.length_pos_iff.mp (by omega))
    have nz:h.getD (h.length - 1) 0 ≠ 0:=nz
    have b:=zJ2 hp (ir.red (h.length - 1))
    have lt:=qQ5 (z:=p) (n:=h.getD (h.length - 1) 0) (by omega)
    rw [ir.red] at lt
    have:=Int.le_of_dvd (by omega) z
    omega
theorem zWY (T:Top K mg cFE cHP cBA cBL cBP cBT cNO cNW cNP cNN cK cR):Ok P w K mg base 1 "unit_row" ["at","length"] (spL K (Gr cR) (fun as=>∃ i n:Nat,as=[.int (i:Int),.int (n:Int)] /\ i < n /\ n <= 1000) fun as=>match as with
    | [.int i,.int n]=>unR n.toNat i.toNat
    | _=>[]):=by
  refine okL T.d_unit_row zZ3 (fun as ⟨a,b,h,_⟩=>by rw [h]; rfl) (fun f cdv A outer s H E hr=>⟨_,(yQ1 (yWK (i:=2) zZ3.nd rfl (Or.inl rfl) (zQ6 (yZK (yQ0 yQ2 yQ3)) (xn 1) (fun _=>rfl)))
 (yQ1 (yU8 2 (xn 0) yQ2)
 (yQ5 (zQV 2)))),fun as hp=>?_⟩)
  obtain ⟨i,n,rfl,hi,hn⟩:=hp
  refine ⟨⟨⟨⟨tJ,tJ⟩,tJ⟩,rfl,by show -(2:Int) ^ 63 <= (n:Int); omega,by show ((n:Int)).toNat <= 1000; omega⟩,fun l el=>?_⟩
  have el:l=List.replicate n 0:=el
  have ll:l.length=n:=by rw [el,List.length_replicate]
  refine ⟨tJ,rfl,rfl,⟨by show -(l.length:Int) <= (i:Int); omega,by show (i:Int) < (l.length:Int); omega⟩,?_⟩
  refine ⟨rfl,?_⟩
  show l.set (ixO l.length (i:Int)) 1=unR ((n:Int)).toNat ((i:Int)).toNat
  rw [ix_n (by omega),el,Int.toNat_natCast,Int.toNat_natCast]
  rfl
theorem yUH (T:Top K mg cFE cHP cBA cBL cBP cBT cNO cNW cNP cNN cK cR):Ok P w K mg base 2 "unit_table" ["length"] (spF K (Gr cR) (fun as=>∃ n:Nat,as=[.int (n:Int)] /\ n <= 1000) fun as=>match as with
    | [.int n]=>tabP (unT n.toNat)
    | _=>.non):=by
  refine okF T.d_unit_table zYV (fun as ⟨a,h,_⟩=>by rw [h]; rfl) (fun f cdv A outer s H E hr=>⟨_,(yQ5 (yQX (newP (qKZ (N':=["at","length"]) (cap:=[some 0]) (yX3 rfl rfl rfl rfl ⟨⟨rfl,Or.inr (Or.inl rfl),(fun z=>nomatch (show (some NameKind.cell:Option NameKind)=some NameKind.local from z)),Or.inl rfl,_,rfl,rfl⟩,tJ⟩ ⟨rfl,tJ⟩ rfl) rfl (by rfl) T.b_range (xn 0) (fun _ _ _=>(pg_name (i:=0) (show (["at","length"]:List Str).Nodup by decide +kernel) rfl (Or.inl rfl) (.inr rfl))) (fun _ _ _=>(newL (xcl (zWY T) hr (yQ0 (xn 0) (yQ0 (xn 1) yQ3))))))))),fun as hp=>?_⟩)
  obtain ⟨n,rfl,hn⟩:=hp
  refine ⟨⟨rfl,⟨by show (0:Int) <= (n:Int); omega,by show (n:Int) <= 1000; omega⟩,fun k hk=>?_⟩,?_⟩
  . have hk:k < ((n:Int)).toNat:=hk
    exact ⟨⟨rfl,rfl,tJ⟩,k,n,rfl,by omega,hn⟩
  . show PV.lst ((List.range ((n:Int)).toNat).map fun (k:Nat)=>PV.ints (unR ((n:Int)).toNat ((k:Int)).toNat))=tabP (unT ((n:Int)).toNat)
    unfold tabP unT
    rw [List.map_map]
    rfl
theorem zQ5 (T:Top K mg cFE cHP cBA cBL cBP cBT cNO cNW cNP cNN cK cR):Ok P w K mg base 2 "plain_row" ["kind","row"] (spL K (Gr cR) (fun as=>∃ z r,as=[.ob 0 z,.ints r] /\ r.length <= 1000) fun as=>match as with
    | [.ob 0 z,.ints r]=>r.map (pl z)
    | _=>[]):=by
  refine okL T.d_plain_row zVU (fun as ⟨a,b,h,_⟩=>by rw [h]; rfl) (fun f cdv A outer s H E hr=>⟨_,(yQ5 (yJ6 (zKK (N':=["number","kind"]) (cap:=[some 0]) (yX3 rfl rfl rfl rfl ⟨⟨rfl,Or.inr (Or.inl rfl),(fun z=>nomatch (show (some NameKind.cell:Option NameKind)=some NameKind.local from z)),Or.inl rfl,_,rfl,rfl⟩,tJ⟩ ⟨rfl,tJ⟩ rfl) rfl (xl 1) (fun _ _ _=>(pg_name (i:=0) (show (["number","kind"]:List Str).Nodup by decide +kernel) rfl (Or.inl rfl) (.inr rfl))) (fun _ _ _=>(yK3 1 (yW8 T) hr (yQ0 (xn 0) yQ3)))))),fun as hp=>?_⟩)
  obtain ⟨z,r,rfl,hr1⟩:=hp
  exact ⟨⟨rfl,hr1,fun n _=>⟨rfl,⟨rfl,tJ⟩,tJ,tJ⟩⟩,rfl⟩
theorem jQX {t:Tab} {a d f:Nat} (h1:d <= f) (h2:f < t.length) (h3:ent t f a ≠ 0) (h4:∀ j,d <= j -> j < f -> ent t j a=0):ffn t a d=some f:=by
  cases e:ffn t a d with
  | none=>exact absurd (zUJ e h1 h2) h3
  | some g =>
    obtain ⟨g1,g2,g3⟩:=zQW e
    unfold ffn at e
    obtain ⟨_,i,hi,ei,hj⟩:=List.find?_eq_some_iff_getElem.mp e
    have ei:d + i=g:=by rw [<- ei,List.getElem_map,List.getElem_range]
    by_cases c:g < f
    . exact absurd (h4 g g1 c) g3
    . by_cases c2:g=f
      . rw [c2]
      . exfalso
        have q:=hj (f - d) (by omega)
        rw [List.getElem_map,List.getElem_range,show d + (f - d)=f by omega] at q
        simp [h3] at q
theorem qW8 {t:Tab} {a d:Nat} (h:∀ j,d <= j -> j < t.length -> ent t j a=0):ffn t a d=none:=by
  cases e:ffn t a d with
  | none=>rfl
  | some g =>
    obtain ⟨g1,g2,g3⟩:=zQW e
    exact absurd (h g g1 g2) g3
def ffP (t:Tab) (a d:Nat):PV:=match ffn t a d with
  | none=>.non
  | some f=>.int (f:Int)
theorem yU3 (T:Top K mg cFE cHP cBA cBL cBP cBT cNO cNW cNP cNN cK cR):Ok P w K mg base 1 "first_not_nought" ["rows","at","done"] (spF K (Gr cR) (fun as=>∃ t,∃ a d:Nat,as=[tabP t,.int (a:Int),.int (d:Int)] /\ t.length <= 1000 /\ d <= t.length /\ ∀ i,i < t.length -> a < (t.getD i []).length) fun as=>match as with
    | [.lst ps,.int a,.int d]=>ffP (ps.map pvL) a.toNat d.toNat
    | _=>.non):=by
  refine okF T.d_first_not_nought yXW (fun as ⟨a,b,c,h,_⟩=>by rw [h]; rfl) (fun f cdv A outer s H E hr=>⟨_,(yQ1 (qYU (k:=3) PassesOwn.never rfl (by rfl) T.b_range (xn 2) (yV0 T.b_len (xv 0)) yXW.nd rfl (Or.inl rfl)
 (yQ5 (yY3 (qJH (zW5 (yQJ (xl_of (yQJ (xv 0) (xn 3) (fun _ _=>rfl))) (xn 1) (fun _ _=>rfl))) yQ2)
 (yQ5 (yQX (xn 3)))
 yZJ)))
 (yQ5 (yQX qKJ))),fun as hp=>?_⟩)
  obtain ⟨t,a,d,rfl,ht,hd,ha⟩:=hp
  have el:((t.map PV.ints).length:Int)=(t.length:Int):=by rw [List.length_map]
  have goalF:ffP ((t.map PV.ints).map pvL) ((a:Int)).toNat ((d:Int)).toNat=ffP t a d:=by rw [yJK,Int.toNat_natCast,Int.toNat_natCast]
  refine ⟨⟨rfl,rfl,tJ⟩,⟨by show -(2:Int) ^ 62 <= (d:Int); omega,by show (d:Int) < 2 ^ 62; omega,by show -(2:Int) ^ 62 <= ((t.map PV.ints).length:Int); omega,by show ((t.map PV.ints).length:Int) < 2 ^ 62; omega⟩,fun i ρ=>∃ v,ρ=[.fr (tabP t),.fr (.int (a:Int)),.fr (.int (d:Int)),v] /\ ∀ j,d <= j -> j < d + i -> ent t j a=0,⟨.un,rfl,fun j h1 h2=>by omega⟩,?_,?_⟩
  . rintro i ρ hi ⟨v,rfl,hz⟩
    have hi:i < (((t.map PV.ints).length:Int) - (d:Int)).toNat:=hi
    have hi:d + i < t.length:=by omega
    have e1:(d:Int) + (i:Int)=((d + i:Nat):Int):=by omega
    have ev:pvL (itP (tabP t) ((d:Int) + (i:Int)))=t.getD (d + i) []:=by rw [e1]; exact zKY hi
    have ev2:pvI (itP (.ints (pvL (itP (tabP t) ((d:Int) + (i:Int))))) (a:Int))=ent t (d + i) a:=by
      rw [ev]
      show (t.getD (d + i) []).getD (ixO (t.getD (d + i) []).length (a:Int)) 0=_
      rw [ix_n (ha _ hi)]
      rfl
    have h1:hasIt (tabP t) ((d:Int) + (i:Int)):=by rw [e1]; exact zXW hi
    have h2:itP (tabP t) ((d:Int) + (i:Int))=.ints (pvL (itP (tabP t) ((d:Int) + (i:Int)))):=by rw [e1]; exact zVY hi
    refine ⟨⟨⟨⟨⟨⟨rfl,rfl,h1⟩,h2⟩,rfl,?_⟩,rfl⟩,tJ⟩,fun q=>?_,fun q=>?_⟩
    . show hasIt (.ints (pvL (itP (tabP t) ((d:Int) + (i:Int))))) (a:Int)
      rw [ev]
      exact qY9 (ha _ hi)
    . have q:¬ pvI (itP (.ints (pvL (itP (tabP t) ((d:Int) + (i:Int))))) (a:Int))=0:=q
      rw [ev2] at q
      refine ⟨rfl,?_⟩
      show PV.int ((d:Int) + (i:Int))=ffP ((t.map PV.ints).map pvL) ((a:Int)).toNat ((d:Int)).toNat
      rw [goalF]
      unfold ffP
      rw [jQX (by omega) hi q hz,e1]
    . have q:¬ ¬ pvI (itP (.ints (pvL (itP (tabP t) ((d:Int) + (i:Int))))) (a:Int))=0:=q
      rw [ev2] at q
      refine ⟨_,rfl,fun j h1 h2=>?_⟩
      by_cases c:j=d + i
      . rw [c]
        exact Classical.not_not.mp q
      . exact hz j h1 (by omega)
  . rintro ρ ⟨v,rfl,hz⟩
    have hz:∀ j,d <= j -> j < d + (((t.map PV.ints).length:Int) - (d:Int)).toNat -> ent t j a=0:=hz
    refine ⟨tJ,?_⟩
    show PV.non=ffP ((t.map PV.ints).map pvL) ((a:Int)).toNat ((d:Int)).toNat
    rw [goalF]
    unfold ffP
    rw [qW8 fun j h1 h2=>hz j h1 (by omega)]
theorem jQ1 (xs:List PV) (b:Nat):cutP xs none (some (b:Int))=xs.take b:=by
  unfold cutP
  rw [HT.sIx_nat,HT.sIx_none,List.drop_zero,Nat.sub_zero]
  by_cases h:b <= xs.length
  . rw [Nat.min_eq_left h]
  . rw [Nat.min_eq_right (by omega),List.take_of_length_le (Nat.le_refl _),List.take_of_length_le (by omega)]
theorem zZQ (xs:List PV) (a:Nat):cutP xs (some (a:Int)) none=xs.drop a:=by
  unfold cutP
  rw [HT.sIx_nat,HT.sIx_none]
  by_cases h:a <= xs.length
  . rw [Nat.min_eq_left h,List.take_of_length_le (by rw [List.length_drop]; omega)]
  . rw [Nat.min_eq_right (by omega),List.drop_eq_nil_of_le (Nat.le_refl _),List.drop_eq_nil_of_le (by omega),List.take_nil]
theorem qWZ (xs:List PV) {a b:Nat} (hb:b <= xs.length) (h:a <= b):cutP xs (some (a:Int)) (some (b:Int))=(xs.drop a).take (b - a):=by
  unfold cutP
  rw [HT.sIx_nat,HT.sIx_nat,Nat.min_eq_left hb,Nat.min_eq_left (by omega)]
theorem yHH (T:Top K mg cFE cHP cBA cBL cBP cBT cNO cNW cNP cNN cK cR):Ok P w K mg base 1 "with_row_moved" ["rows","found","done"] (spF K (Gr cR) (fun as=>∃ t,∃ f d:Nat,as=[tabP t,.int (f:Int),.int (d:Int)] /\ t.length <= 300 /\ d <= f /\ f < t.length) fun as=>match as with
    | [.lst ps,.int f,.int d]=>tabP (movT (ps.map pvL) f.toNat d.toNat)
    | _=>.non):=by
  refine okF T.d_with_row_moved yH5 (fun as ⟨a,b,c,h,_⟩=>by rw [h]; rfl) (fun f cdv A outer s H E hr=>⟨_,(yQ5 (yQX (newP (qZ0 (newP (qZ0 (newP (qZ0 (newP (yU6 (yW9 (xv 0)) yVJ (yJX (xn 2)))) (newP (zUK (yQ0 (xl_of (yQJ (xv 0) (xn 1) (fun _ _=>rfl))) yQ3))))) (newP (yU6 (yW9 (xv 0)) (yJX (xn 2)) (yJX (xn 1)))))) (newP (yU6 (yW9 (xv 0)) (yJX (yJY (xn 1) yQ2)) yVJ)))))),fun as hp=>?_⟩)
  obtain ⟨t,f,d,rfl,ht,hdf,hf⟩:=hp
  have el:(t.map PV.ints).length=t.length:=List.length_map _
  have e1:cutP (t.map PV.ints) none (some (d:Int))=(t.take d).map PV.ints:=by rw [jQ1,List.map_take]
  have e2:cutP (t.map PV.ints) (some (d:Int)) (some (f:Int))=((t.drop d).take (f - d)).map PV.ints:=by rw [qWZ _ (by omega) hdf,<- List.map_drop,<- List.map_take]
  have e3:cutP (t.map PV.ints) (some ((f:Int) + 1)) none=(t.drop (f + 1)).map PV.ints:=by
    rw [show (f:Int) + 1=((f + 1:Nat):Int) by omega,zZQ,List.map_drop]
  have e4:pvL (itP (tabP t) (f:Int))=t.getD f []:=zKY hf
  refine ⟨⟨⟨⟨⟨⟨rfl,rfl⟩,tJ,rfl⟩,⟨⟨⟨rfl,rfl,zXW hf⟩,zVY hf⟩,tJ⟩,?_⟩,⟨⟨rfl,rfl⟩,rfl,rfl⟩,?_⟩,⟨⟨rfl,rfl⟩,⟨rfl,tJ⟩,tJ⟩,?_⟩,?_⟩
  . show (cutP (t.map PV.ints) none (some (d:Int))).length + [PV.ints (pvL (itP (tabP t) (f:Int)))].length <= sizeLine
    rw [e1,List.length_map,List.length_take]
    exact Nat.le_of_lt (small1000 (by show min d t.length + 1 <= 1000; omega))
  . show (cutP (t.map PV.ints) none (some (d:Int)) ++ [PV.ints (pvL (itP (tabP t) (f:Int)))]).length + (cutP (t.map PV.ints) (some (d:Int)) (some (f:Int))).length <= sizeLine
    rw [e1,e2,List.length_append,List.length_map,List.length_map,List.length_take,List.length_take,List.length_drop]
    exact Nat.le_of_lt (small1000 (by show min d t.length + 1 + min (f - d) (t.length - d) <= 1000; omega))
  . show (cutP (t.map PV.ints) none (some (d:Int)) ++ [PV.ints (pvL (itP (tabP t) (f:Int)))] ++ cutP (t.map PV.ints) (some (d:Int)) (some (f:Int))).length + (cutP (t.map PV.ints) (some ((f:Int) + 1)) none).length <= sizeLine
    rw [e1,e2,e3,List.length_append,List.length_append,List.length_map,List.length_map,List.length_map,List.length_take,List.length_take,List.length_drop,List.length_drop]
    exact Nat.le_of_lt (small1000 (by show min d t.length + 1 + min (f - d) (t.length - d) + (t.length - (f + 1)) <= 1000; omega))
  . show PV.lst (cutP (t.map PV.ints) none (some (d:Int)) ++ [PV.ints (pvL (itP (tabP t) (f:Int)))] ++ cutP (t.map PV.ints) (some (d:Int)) (some (f:Int)) ++ cutP (t.map PV.ints) (some ((f:Int) + 1)) none)=tabP (movT ((t.map PV.ints).map pvL) ((f:Int)).toNat ((d:Int)).toNat)
    rw [e1,e2,e3,e4,yJK,Int.toNat_natCast,Int.toNat_natCast]
    unfold tabP movT
    rw [List.map_append,List.map_append,List.map_append]
    rfl
theorem qW6 (z:Int) (row first:List Int) (a:Nat):(row.zip first).map (fun q=>pl z (q.1 - row.getD a 0 * q.2))=wout z row first a:=by
  unfold wout
  rw [List.zip,List.map_zipWith]
theorem zJ1 (T:Top K mg cFE cHP cBA cBL cBP cBT cNO cNW cNP cNN cK cR):Ok P w K mg base 2 "row_without" ["kind","row","at","first"] (spL K (Gr cR) (fun as=>∃ z row,∃ a:Nat,∃ first,as=[.ob 0 z,.ints row,.int (a:Int),.ints first] /\ row.length <= 1000 /\ a < row.length /\ Bd row /\ Bd first) fun as=>match as with
    | [.ob 0 z,.ints row,.int a,.ints first]=>wout z row first a.toNat
    | _=>[]):=by
  refine okL T.d_row_without zJ3 (fun as ⟨a,b,c,d,h,_⟩=>by rw [h]; rfl) (fun f cdv A outer s H E hr=>⟨_,(yQ5 (yJ6 (qK4 (N':=["number","other","kind","row","at"]) (cap:=[some 0,some 1,some 2]) (yX3 rfl rfl rfl rfl ⟨⟨rfl,Or.inr (Or.inl rfl),(fun z=>nomatch (show (some NameKind.cell:Option NameKind)=some NameKind.local from z)),Or.inl rfl,_,rfl,rfl⟩,⟨⟨rfl,Or.inr (Or.inl rfl),(fun z=>nomatch (show (some NameKind.cell:Option NameKind)=some NameKind.local from z)),Or.inl rfl,_,rfl,rfl⟩,⟨⟨rfl,Or.inr (Or.inl rfl),(fun z=>nomatch (show (some NameKind.cell:Option NameKind)=some NameKind.local from z)),Or.inl rfl,_,rfl,rfl⟩,tJ⟩⟩⟩ ⟨rfl,⟨rfl,⟨rfl,tJ⟩⟩⟩ rfl) rfl (by rfl) T.b_zip (rdX (xl 1)) (rdX (xl 3)) (fun _ _ _=>(pg_tup rfl (pgs_cons (pg_name (i:=0) (show (["number","other","kind","row","at"]:List Str).Nodup by decide +kernel) rfl (Or.inl rfl) (.inr rfl)) (pgs_cons (pg_name (i:=1) (show (["number","other","kind","row","at"]:List Str).Nodup by decide +kernel) rfl (Or.inl rfl) (.inr rfl)) pgs_nil)))) (fun _ _ _=>(yK3 2 (yW8 T) hr (yQ0 (yY5 (xn 0) (yX4 (yYV 3 (xn 4) (fun _ _=>rfl)) (xn 1))) yQ3)))))),fun as hp=>?_⟩)
  obtain ⟨z,row,a,first,rfl,hl,ha,hb,hf⟩:=hp
  refine ⟨⟨⟨rfl,rfl⟩,hl,fun n m h=>⟨rfl,⟨⟨rfl,⟨.inl rfl,rfl,by show -(row.length:Int) <= (a:Int); omega,by show (a:Int) < (row.length:Int); omega⟩,rfl,?_⟩,tJ⟩,tJ,tJ⟩⟩,?_⟩
  . exact yU9 (n:=9000) (m:=9000) (qK6 hb _) (hf m (List.of_mem_zip h).2)
  . show (row.zip first).map (fun q=>pl z (q.1 - row.getD (ixO row.length (a:Int)) 0 * q.2))=wout z row first ((a:Int)).toNat
    rw [ix_n ha,Int.toNat_natCast]
    exact qW6 z row first a
def ivN (p x:Int):Int:=pl p (1 * tu x p)
theorem zV7 {p:Int} (hp:IsP p) (x:Int) (h0:0 < x) (h1:x < p):Int.gcd x p=1 /\ p ∣ ivN p x * x - 1:=by
  have p2:2 <= p:=hp.1
  have g:Int.gcd x p=1:=by
    have h3:¬ x % p=0:=by
      rw [Int.emod_eq_of_lt (by omega) h1]
      omega
    have:=zW8 hp h3 1
    rw [Int.pow_one] at this
    exact this
  refine ⟨g,?_⟩
  obtain ⟨e1,_⟩:=hov (z:=p) p2 g 1 (ivN p x) (by rw [yX6 (by omega)]; exact Int.emod_eq_of_lt (by omega) (by omega)) rfl
  have:pl p (ivN p x * x)=pl p 1:=by
    rw [e1,yX6 (by omega)]
    exact (Int.emod_eq_of_lt (by omega) (by omega)).symm
  exact (zZY p _ _).mp this
theorem qH0 {p x:Int} (hp:IsP p) (h:pl p x=x):x.natAbs < 2 ^ 9000:=by
  have:=qQ5 (z:=p) (n:=x) (by have:=hp.1; omega)
  rw [h] at this
  have h2:=hp.2.1
  have:x.natAbs <= 2 ^ 14:=by omega
  exact Nat.lt_of_le_of_lt this (Nat.pow_lt_pow_right (by decide) (by decide))
theorem jQ7 {p:Int} {t:Tab} (hp:IsP p) (h:∀ i j,pl p (ent t i j)=ent t i j) (i:Nat):Bd (t.getD i []):=fun m hm=>by
  obtain ⟨j,_,e⟩:=FM.mem_getD hm
  have:=h i j
  unfold ent at this
  rw [e] at this
  exact qH0 hp this
theorem yWX (T:Top K mg cFE cHP cBA cBL cBP cBT cNO cNW cNP cNN cK cR):Ok P w K mg base 3 "with_column_cleared" ["kind","rows","at","done"] (spF K (Gr cR) (fun as=>∃ p t,∃ a d m:Nat,as=[.ob 0 p,tabP t,.int (a:Int),.int (d:Int)] /\ IsP p /\ t.length <= 1000 /\ d < t.length /\ m <= 1000 /\ a < m /\ (∀ i,i < t.length -> (t.getD i []).length=m) /\ (∀ i j,pl p (ent t i j)=ent t i j) /\ ent t d a ≠ 0) fun as=>match as with
    | [.ob 0 p,.lst ps,.int a,.int d]=>tabP (clT p (ivN p) (ps.map pvL) a.toNat d.toNat)
    | _=>.non):=by
  refine okF T.d_with_column_cleared yJ0 (fun as ⟨a,b,c,d,e,h,_⟩=>by rw [h]; rfl) (fun f cdv A outer s H E hr=>⟨_,(yQ1 (yQ9 (i:=4) yJ0.nd rfl (Or.inr rfl) (zW5 (xR_V (zW7 0 (zX8 T) hr (yQ0 yQ2 (yQ0 (zW5 (yQJ (xl_of (yQJ (xv 1) (xn 3) (fun _ _=>rfl))) (xn 2) (fun _ _=>rfl))) yQ3))))))
 (yQ1 (yZ1 (i:=5) yJ0.nd rfl (Or.inr rfl) (newL (xcl (zQ5 T) hr (yQ0 (xv 0) (yQ0 (newL (zKK (N':=["number","factor"]) (cap:=[some 4]) (yX3 rfl rfl rfl rfl ⟨⟨rfl,Or.inr (Or.inl rfl),(fun z=>nomatch (show (some NameKind.cell:Option NameKind)=some NameKind.local from z)),Or.inl rfl,_,rfl,rfl⟩,tJ⟩ ⟨rfl,tJ⟩ rfl) rfl (xl_of (yQJ (xv 1) (xn 3) (fun _ _=>rfl))) (fun _ _ _=>(pg_name (i:=0) (show (["number","factor"]:List Str).Nodup by decide +kernel) rfl (Or.inl rfl) (.inr rfl))) (fun _ _ _=>(yX4 (xn 1) (xn 0))))) yQ3)))))
 (yQ5 (yQX (newP (qY7 (N':=["place","row","first","done","kind","at"]) (cap:=[some 5,some 3,some 0,some 2]) (yX3 rfl rfl rfl rfl ⟨⟨rfl,Or.inr (Or.inl rfl),(fun z=>nomatch (show (some NameKind.cell:Option NameKind)=some NameKind.local from z)),Or.inl rfl,_,rfl,rfl⟩,⟨⟨rfl,Or.inr (Or.inl rfl),(fun z=>nomatch (show (some NameKind.cell:Option NameKind)=some NameKind.local from z)),Or.inl rfl,_,rfl,rfl⟩,⟨⟨rfl,Or.inr (Or.inl rfl),(fun z=>nomatch (show (some NameKind.cell:Option NameKind)=some NameKind.local from z)),Or.inl rfl,_,rfl,rfl⟩,⟨⟨rfl,Or.inr (Or.inl rfl),(fun z=>nomatch (show (some NameKind.cell:Option NameKind)=some NameKind.local from z)),Or.inl rfl,_,rfl,rfl⟩,tJ⟩⟩⟩⟩ ⟨rfl,⟨rfl,⟨rfl,⟨rfl,tJ⟩⟩⟩⟩ rfl) rfl (by rfl) T.b_enumerate (yW9 (xv 1)) (fun _ _ _=>(pg_tup rfl (pgs_cons (pg_name (i:=0) (show (["place","row","first","done","kind","at"]:List Str).Nodup by decide +kernel) rfl (Or.inl rfl) (.inr rfl)) (pgs_cons (pg_name (i:=1) (show (["place","row","first","done","kind","at"]:List Str).Nodup by decide +kernel) rfl (Or.inl rfl) (.inr rfl)) pgs_nil)))) (fun _ _ _=>(jZ8 (yKK (xn 0) (xn 3)) (xl 2) (newL (xcl (zJ1 T) hr (yQ0 (xv 4) (yQ0 (xl 1) (yQ0 (xn 5) (yQ0 (xl 2) yQ3)))))))))))))),fun as hp=>?_⟩)
  obtain ⟨p,t,a,d,m,rfl,hp,ht,hd,hm,ha,hrow,hred,hne⟩:=hp
  have p2:2 <= p:=hp.1
  have h9:p.natAbs < 2 ^ 9000:=by
    have:p.natAbs <= 2 ^ 14:=by have:=hp.2.1; omega
    exact Nat.lt_of_le_of_lt this (Nat.pow_lt_pow_right (by decide) (by decide))
  have o9:(1:Int).natAbs < 2 ^ 9000:=Nat.lt_of_le_of_lt (show (1:Int).natAbs <= 2 ^ 14 by decide) (Nat.pow_lt_pow_right (by decide) (by decide))
  have x0:0 < ent t d a /\ ent t d a < p:=by
    have:=qQ5 (z:=p) (n:=ent t d a) (by omega)
    rw [hred] at this
    omega
  obtain ⟨g,_⟩:=zV7 hp _ x0.1 x0.2
  have ev:pvL (itP (tabP t) (d:Int))=t.getD d []:=zKY hd
  have hla:a < (t.getD d []).length:=by rw [hrow d hd]; exact ha
  have ev2:pvI (itP (.ints (pvL (itP (tabP t) (d:Int)))) (a:Int))=ent t d a:=by
    rw [ev]
    show (t.getD d []).getD (ixO (t.getD d []).length (a:Int)) 0=_
    rw [ix_n hla]
    rfl
  have eF:F_O cNO p [1,pvI (itP (.ints (pvL (itP (tabP t) (d:Int)))) (a:Int))]=.inl (ivN p (ent t d a)):=by
    rw [ev2]
    exact FO_r g
  refine ⟨⟨⟨⟨rfl,⟨tJ,⟨⟨⟨⟨rfl,rfl,zXW hd⟩,zVY hd⟩,rfl,?_⟩,rfl⟩,tJ⟩,tJ,?_⟩,?_⟩,?_⟩,fun fac efac=>?_⟩
  . show hasIt (.ints (pvL (itP (tabP t) (d:Int)))) (a:Int)
    rw [ev]
    exact qY9 hla
  . exact ⟨p2,h9,o9⟩
  . show (toRs (F_O cNO p [1,pvI (itP (.ints (pvL (itP (tabP t) (d:Int)))) (a:Int))])).isV
    rw [eF]
    exact tJ
  . show (toRs (F_O cNO p [1,pvI (itP (.ints (pvL (itP (tabP t) (d:Int)))) (a:Int))])).get=.int (pvI (toRs (F_O cNO p [1,pvI (itP (.ints (pvL (itP (tabP t) (d:Int)))) (a:Int))])).get)
    rw [eF]
    rfl
  have efac:fac=pvI (toRs (F_O cNO p [1,pvI (itP (.ints (pvL (itP (tabP t) (d:Int)))) (a:Int))])).get:=efac
  rw [eF] at efac
  have efac:fac=ivN p (ent t d a):=efac
  refine yZZ (ρ':=[.fr (.ob 0 p),.fr (tabP t),.fr (.int (a:Int)),.fr (.int (d:Int)),.fr (.int fac),.un]) rfl ?_
  have fb:fac.natAbs < 2 ^ 9000:=by
    rw [efac]
    exact qH0 hp (yUZ _ _)
  have hBd:=jQ7 hp hred
  refine ⟨⟨⟨rfl,⟨⟨⟨rfl,rfl,zXW hd⟩,zVY hd⟩,?_,fun n hn=>?_⟩,tJ⟩,?_⟩,fun first ef=>?_⟩
  . show (pvL (itP (tabP t) (d:Int))).length <= 1000
    rw [ev,hrow d hd]
    exact hm
  . have hn:n ∈ pvL (itP (tabP t) (d:Int)):=hn
    rw [ev] at hn
    exact ⟨rfl,rfl,yU9 (n:=9000) (m:=9000) fb (hBd d n hn)⟩
  . refine ⟨p,_,rfl,?_⟩
    show ((pvL (itP (tabP t) (d:Int))).map _).length <= 1000
    rw [List.length_map,ev,hrow d hd]
    exact hm
  have ef:first=((pvL (itP (tabP t) (d:Int))).map fun n=>fac * n).map (pl p):=ef
  rw [ev] at ef
  have ef:first=fstR p fac (t.getD d []):=ef
  refine yZZ (ρ':=[.fr (.ob 0 p),.fr (tabP t),.fr (.int (a:Int)),.fr (.int (d:Int)),.fr (.int fac),.fr (.ints first)]) rfl ?_
  have fB:Bd first:=fun n hn=>by
    rw [ef] at hn
    obtain ⟨y,_,rfl⟩:=List.mem_map.mp hn
    exact qH0 hp (yUZ _ _)
  have gi:∀ i,i < t.length -> (t.map PV.ints).getD i .non=.ints (t.getD i []):=fun i hi=>zH1 hi
  refine ⟨⟨⟨rfl,rfl⟩,by show (t.map PV.ints).length <= 1000; rw [List.length_map]; exact ht,fun i q hq=>?_⟩,?_⟩
  . have hq:(t.map PV.ints)[i]?=some q:=hq
    rw [List.getElem?_map] at hq
    cases ei:t[i]? with
    | none=>rw [ei] at hq; cases hq
    | some r =>
      rw [ei] at hq
      cases hq
      have hi:i < t.length:=(List.getElem?_eq_some_iff.mp ei).1
      have er:t.getD i []=r:=by rw [gQ,ei]; rfl
      refine ⟨⟨rfl,rfl⟩,fun _=>rfl,fun _=>⟨⟨rfl,rfl,rfl,rfl,tJ⟩,p,r,a,first,rfl,?_,?_,?_,fB⟩⟩
      . rw [<- er,hrow i hi]
        exact hm
      . rw [<- er,hrow i hi]
        exact ha
      . rw [<- er]
        exact hBd i
  . have fin:tabP (clT p (ivN p) ((t.map PV.ints).map pvL) ((a:Int)).toNat ((d:Int)).toNat)=.lst ((clrT p fac t a d).map PV.ints):=by
      rw [yJK,Int.toNat_natCast,Int.toNat_natCast,efac]
      rfl
    show PV.lst (List.mapIdx _ (t.map PV.ints))=tabP (clT p (ivN p) ((t.map PV.ints).map pvL) ((a:Int)).toNat ((d:Int)).toNat)
    rw [fin]
    refine congrArg PV.lst (List.ext_getElem? fun i=>?_)
    unfold clrT
    rw [List.getElem?_mapIdx,List.getElem?_map,List.getElem?_map,List.getElem?_mapIdx,<- ef]
    cases t[i]? with
    | none=>rfl
    | some r =>
      show some (if (i:Int)=(d:Int) then PV.ints first else PV.ints (wout p r first ((a:Int)).toNat))=some (PV.ints (if i=d then first else wout p r first a))
      by_cases c:i=d
      . rw [if_pos c,if_pos (by omega)]
      . rw [if_neg c,if_neg (by omega),Int.toNat_natCast]
theorem yY8 (T:Top K mg cFE cHP cBA cBL cBP cBT cNO cNW cNP cNN cK cR):Ok P w K mg base 4 "cleared_beside_units" ["kind","rows","width"] (spF K (Gr cR) (fun as=>∃ p rows,∃ wd:Nat,as=[.ob 0 p,tabP rows,.int (wd:Int)] /\ IsP p /\ rows.length <= 100 /\ wd <= 100 /\ ∀ i,i < rows.length -> (rows.getD i []).length=wd) fun as=>match as with
    | [.ob 0 p,.lst ps,.int wd]=>tabP (cbuT p (ivN p) (ps.map pvL) wd.toNat)
    | _=>.non):=by
  refine okF T.d_cleared_beside_units yQ8 (fun as ⟨a,b,c,h,_⟩=>by rw [h]; rfl) (fun f cdv A outer s H E hr=>⟨_,(yQ1 (yZQ (i:=3) yQ8.nd rfl (Or.inl rfl) (xc (yUH T) hr (yQ0 (yV0 T.b_len (xv 1)) yQ3)))
 (yQ1 (qQ3 (i:=4) yQ8.nd rfl rfl (N':=["row","unit","kind"]) (cap:=[some 0]) (yX3 rfl rfl rfl rfl ⟨⟨rfl,Or.inr (Or.inl rfl),(fun z=>nomatch (show (some NameKind.cell:Option NameKind)=some NameKind.local from z)),Or.inl rfl,_,rfl,rfl⟩,tJ⟩ ⟨rfl,tJ⟩ rfl) rfl (by rfl) T.b_zip (yW9 (xv 1)) (yW9 (xv 3)) (fun _ _ _=>(pg_tup rfl (pgs_cons (pg_name (i:=0) (show (["row","unit","kind"]:List Str).Nodup by decide +kernel) rfl (Or.inl rfl) (.inr rfl)) (pgs_cons (pg_name (i:=1) (show (["row","unit","kind"]:List Str).Nodup by decide +kernel) rfl (Or.inl rfl) (.inr rfl)) pgs_nil)))) (fun _ _ _=>(newL (xcl (zQ5 T) hr (yQ0 (xv 2) (yQ0 (newL (zQU (xl 0) (xl 1))) yQ3))))) rfl)
 (yQ1 (yQ9 (i:=5) yQ8.nd rfl (Or.inl rfl) yQ2)
 (yQ1 (yWY (k:=6) PassesOwn.never rfl (by rfl) T.b_range (xn 2) yQ8.nd rfl (Or.inl rfl)
 (yQ1 (yZQ (i:=7) yQ8.nd rfl (Or.inl rfl) (xc (yU3 T) hr (yQ0 (xv 4) (yQ0 (xn 6) (yQ0 (xn 5) yQ3)))))
 (yQ5 (yY3 (qH8 (xv 7))
 (yQ1 (yZQ (i:=4) yQ8.nd rfl (Or.inl rfl) (xc (yWX T) hr (yQ0 (xv 0) (yQ0 (xc (yHH T) hr (yQ0 (xv 4) (yQ0 (xv 7) (yQ0 (xn 5) yQ3)))) (yQ0 (xn 6) (yQ0 (xn 5) yQ3))))))
 (yQ5 (qZV (i:=5) yQ8.nd rfl (Or.inl rfl) yQ2 zQQ)))
 yZJ))))
 (yQ5 (yQX (xv 4))))))),fun as hp=>?_⟩)
  obtain ⟨p,rows,wd,rfl,hp,hn,hw,hrow⟩:=hp
  have p2:2 <= p:=hp.1
  have el:(rows.map PV.ints).length=rows.length:=List.length_map _
  refine ⟨⟨⟨⟨rfl,tJ⟩,tJ⟩,rows.length,by show [PV.int ((rows.map PV.ints).length:Int)]=_; rw [el],by omega⟩,fun us eus=>?_⟩
  have eus:us=tabP (unT (((rows.map PV.ints).length:Int)).toNat):=eus
  rw [el,Int.toNat_natCast] at eus
  subst eus
  refine yZZ (ρ':=[.fr (.ob 0 p),.fr (tabP rows),.fr (.int (wd:Int)),.fr (tabP (unT rows.length)),.un,.un,.un,.un]) rfl ?_
  refine ⟨⟨⟨⟨rfl,rfl⟩,⟨rfl,rfl⟩⟩,by show (rows.map PV.ints).length <= 1000; omega,fun q r hqr=>?_⟩,fun t0 et0=>?_⟩
  . have hqr:(q,r) ∈ (rows.map PV.ints).zip ((unT rows.length).map PV.ints):=hqr
    obtain ⟨a,ha,rfl⟩:=List.mem_map.mp (List.of_mem_zip hqr).1
    obtain ⟨b,hb,rfl⟩:=List.mem_map.mp (List.of_mem_zip hqr).2
    have la:a.length=wd:=by
      obtain ⟨i,hi,rfl⟩:=List.mem_iff_getElem.mp ha
      rw [<- tabGet hi]
      exact hrow i hi
    have lb:b.length=rows.length:=by
      obtain ⟨i,_,rfl⟩:=List.mem_map.mp hb
      exact zK9 _ _
    refine ⟨⟨rfl,⟨rfl,rfl,?_⟩,tJ⟩,p,a ++ b,rfl,?_⟩
    . exact Nat.le_of_lt (small1000 (by show a.length + b.length <= 1000; omega))
    . rw [List.length_append]
      omega
  have et0:t0=(besT p rows).map PV.ints:=et0.trans (by
    show List.map _ ((rows.map PV.ints).zip ((unT rows.length).map PV.ints))=_
    have e:(besT p rows).map PV.ints=(rows.zip (unT rows.length)).map fun q=>PV.ints ((q.1 ++ q.2).map (pl p)):=by
      unfold besT
      rw [List.zip,List.map_zipWith,List.map_zipWith]
    rw [e,List.zip_map,List.map_map]
    exact List.map_congr_left fun ⟨a,b⟩ _=>rfl)
  subst et0
  refine ⟨tJ,fun d0 ed0=>?_⟩
  have ed0:d0=0:=ed0
  subst ed0
  refine yZZ (ρ':=[.fr (.ob 0 p),.fr (tabP rows),.fr (.int (wd:Int)),.fr (tabP (unT rows.length)),.fr (tabP (besT p rows)),.fr (.int 0),.un,.un]) rfl ?_
  have I:=EI.all (iv:=ivN p) (m:=wd + rows.length) p2 (fun x h0 h1=>(zV7 hp x h0 h1).2) (zYY p rows) (fun i hi=>by rw [zXJ hi,List.length_map,List.length_append,hrow i hi,zK9]) (fun i j=>zH2)
  refine ⟨rfl,⟨by show -(2:Int) ^ 62 <= (wd:Int); omega,by show (wd:Int) < 2 ^ 62; omega⟩,fun i ρ=>∃ v6 v7,ρ=[.fr (.ob 0 p),.fr (tabP rows),.fr (.int (wd:Int)),.fr (tabP (unT rows.length)),.fr (tabP (clS p (ivN p) (besT p rows) i).1),.fr (.int ((clS p (ivN p) (besT p rows) i).2:Int)),v6,v7],⟨.un,.un,rfl⟩,?_,?_⟩
  . rintro i ρ hi ⟨v6,v7,rfl⟩
    have hi:i < ((wd:Int)).toNat:=hi
    have hi:i < wd:=by omega
    have Ii:=I i (by omega)
    generalize hs:clS p (ivN p) (besT p rows) i=st at Ii ⊢
    obtain ⟨t,d⟩:=st
    have Ii:EI p rows.length (wd + rows.length) (besT p rows) i t d:=Ii
    have en:clS p (ivN p) (besT p rows) (i + 1)=clN p (ivN p) i (t,d):=by
      show clN p (ivN p) i (clS p (ivN p) (besT p rows) i)=_
      rw [hs]
    have tl:=Ii.len
    have dn:=Ii.dn
    have tr:=Ii.row
    refine ⟨⟨⟨rfl,rfl,rfl,tJ⟩,t,i,d,rfl,by omega,by omega,fun j hj=>by rw [tr j (by omega)]; omega⟩,fun fo efo=>?_⟩
    have efo:fo=ffP ((t.map PV.ints).map pvL) ((i:Int)).toNat ((d:Int)).toNat:=efo
    rw [yJK,Int.toNat_natCast,Int.toNat_natCast] at efo
    unfold ffP at efo
    cases hf:ffn t i d with
    | none =>
      rw [hf] at efo
      have efo:fo=.non:=efo
      subst efo
      refine ⟨⟨rfl,tJ⟩,fun q=>absurd rfl q,fun _=>?_⟩
      have e2:clN p (ivN p) i (t,d)=(t,d):=by
        unfold clN
        show (match ffn t i d with | none=>(t,d) | some f=>_)=_
        rw [hf]
      refine ⟨.fr (.int (i:Int)),.fr .non,?_⟩
      rw [en,e2]
      rfl
    | some f =>
      rw [hf] at efo
      have efo:fo=.int (f:Int):=efo
      subst efo
      obtain ⟨f1,f2,f3⟩:=zQW hf
      have e2:clN p (ivN p) i (t,d)=(clT p (ivN p) (movT t f d) i d,d + 1):=by
        unfold clN
        show (match ffn t i d with | none=>(t,d) | some f=>_)=_
        rw [hf]
      refine ⟨⟨rfl,tJ⟩,fun _=>?_,fun q=>absurd (fun z=>by cases z) q⟩
      have ml:(movT t f d).length=t.length:=zKJ f1 f2
      have me:∀ j k,j < t.length -> ent (movT t f d) j k=ent t (sgm f d j) k:=fun j k hj=>qZ4 f1 f2 hj
      have sd:sgm f d d=f:=by unfold sgm; rw [if_neg (by omega),if_pos rfl]
      have emv:tabP (movT ((t.map PV.ints).map pvL) ((f:Int)).toNat ((d:Int)).toNat)=tabP (movT t f d):=by rw [yJK,Int.toNat_natCast,Int.toNat_natCast]
      refine ⟨⟨⟨rfl,⟨⟨rfl,rfl,rfl,tJ⟩,t,f,d,rfl,by omega,f1,f2⟩,rfl,rfl,tJ⟩,p,movT t f d,i,d,wd + rows.length,?_,hp,by omega,by omega,by omega,by omega,fun j hj=>?_,fun j k=>?_,?_⟩,fun t2 et2=>?_⟩
      . show [PV.ob 0 p,tabP (movT ((t.map PV.ints).map pvL) ((f:Int)).toNat ((d:Int)).toNat),.int (i:Int),.int (d:Int)]=_
        rw [emv]
      . rw [zX0 f1 f2 (by omega)]
        exact tr _ (by have:=zUW (i:=j) f1 f2 (by omega); omega)
      . by_cases c:j < t.length
        . rw [me j k c]
          exact Ii.red _ _
        . rw [yX8 (by omega),pl_0]
      . rw [me d i (by omega),sd]
        exact f3
      have et2:t2=tabP (clT p (ivN p) (((movT ((t.map PV.ints).map pvL) ((f:Int)).toNat ((d:Int)).toNat).map PV.ints).map pvL) ((i:Int)).toNat ((d:Int)).toNat):=et2
      rw [yJK,yJK,Int.toNat_natCast,Int.toNat_natCast,Int.toNat_natCast] at et2
      subst et2
      refine ⟨rfl,tJ,tJ,fun d2 ed2=>?_⟩
      have ed2:d2=(d:Int) + 1:=ed2
      subst ed2
      refine ⟨.fr (.int (i:Int)),.fr (.int (f:Int)),?_⟩
      rw [en,e2]
      rfl
  . rintro ρ ⟨v6,v7,rfl⟩
    refine ⟨rfl,?_⟩
    show tabP (clS p (ivN p) (besT p rows) ((wd:Int)).toNat).1=tabP (cbuT p (ivN p) ((rows.map PV.ints).map pvL) ((wd:Int)).toNat)
    rw [yJK,Int.toNat_natCast]
    rfl
def widN (rows:Tab):Nat:=(rows.getD 0 []).length
theorem zHK (T:Top K mg cFE cHP cBA cBL cBP cBT cNO cNW cNP cNN cK cR):Ok P w K mg base 5 "echelon" ["kind","rows"] (spF K (Gr cR) (fun as=>∃ p rows,as=[.ob 0 p,tabP rows] /\ IsP p /\ rows.length <= 100 /\ widN rows <= 100 /\ ∀ i,i < rows.length -> (rows.getD i []).length=widN rows) fun as=>match as with
    | [.ob 0 p,.lst ps]=>.tup [tabP (formT p (ivN p) (ps.map pvL) (widN (ps.map pvL))),tabP (turnT p (ivN p) (ps.map pvL) (widN (ps.map pvL))),tabP (backT p (ivN p) (ps.map pvL) (widN (ps.map pvL)))]
    | _=>.non):=by
  refine okF T.d_echelon yW2 (fun as ⟨a,b,h,_⟩=>by rw [h]; rfl) (fun f cdv A outer s H E hr=>⟨_,(yQ1 (yZQ (i:=2) yW2.nd rfl (Or.inr rfl) (jZ8 (jV7 (yW9 (xv 1))) (yV0 T.b_len (xl_of (yQJ (xv 1) yQ2 (fun _ _=>rfl)))) yQ2))
 (yQ1 (yZQ (i:=3) yW2.nd rfl (Or.inl rfl) (xc (yY8 T) hr (yQ0 (xv 0) (yQ0 (xv 1) (yQ0 (xn 2) yQ3)))))
 (yQ1 (zXK (i:=4) yW2.nd rfl rfl (N':=["row","width"]) (cap:=[some 2]) (yX3 rfl rfl rfl rfl ⟨⟨rfl,Or.inr (Or.inl rfl),(fun z=>nomatch (show (some NameKind.cell:Option NameKind)=some NameKind.local from z)),Or.inl rfl,_,rfl,rfl⟩,tJ⟩ ⟨rfl,tJ⟩ rfl) rfl (yW9 (xv 3)) (fun _ _ _=>(pg_name (i:=0) (show (["row","width"]:List Str).Nodup by decide +kernel) rfl (Or.inl rfl) (.inr rfl))) (fun _ _ _=>(newL (yV6 (xl 0) (yJX (xn 1)) yVJ (fun _ _=>.inl rfl)))) rfl)
 (yQ1 (zXK (i:=5) yW2.nd rfl rfl (N':=["row","rows"]) (cap:=[some 1]) (yX3 rfl rfl rfl rfl ⟨⟨rfl,Or.inr (Or.inl rfl),(fun z=>nomatch (show (some NameKind.cell:Option NameKind)=some NameKind.local from z)),Or.inl rfl,_,rfl,rfl⟩,tJ⟩ ⟨rfl,tJ⟩ rfl) rfl (yW9 (xc (yY8 T) hr (yQ0 (xv 0) (yQ0 (xv 4) (yQ0 (yV0 T.b_len (xv 1)) yQ3))))) (fun _ _ _=>(pg_name (i:=0) (show (["row","rows"]:List Str).Nodup by decide +kernel) rfl (Or.inl rfl) (.inr rfl))) (fun _ _ _=>(newL (yV6 (xl 0) (yJX (yV0 T.b_len (xv 1))) yVJ (fun _ _=>.inl rfl)))) rfl)
 (yQ5 (yQX (zQK (yQ0 (newP (qJW (N':=["row","width"]) (cap:=[some 2]) (yX3 rfl rfl rfl rfl ⟨⟨rfl,Or.inr (Or.inl rfl),(fun z=>nomatch (show (some NameKind.cell:Option NameKind)=some NameKind.local from z)),Or.inl rfl,_,rfl,rfl⟩,tJ⟩ ⟨rfl,tJ⟩ rfl) rfl (yW9 (xv 3)) (fun _ _ _=>(pg_name (i:=0) (show (["row","width"]:List Str).Nodup by decide +kernel) rfl (Or.inl rfl) (.inr rfl))) (fun _ _ _=>(newL (yV6 (xl 0) yVJ (yJX (xn 1)) (fun _ _=>.inl rfl)))))) (yQ0 (xv 4) (yQ0 (xv 5) yQ3)))))))))),fun as hp=>?_⟩)
  obtain ⟨p,rows,rfl,hp,hn,hw,hrow⟩:=hp
  have p2:2 <= p:=hp.1
  have el:(rows.map PV.ints).length=rows.length:=List.length_map _
  have hiv:∀ x,0 < x -> x < p -> p ∣ ivN p x * x - 1:=fun x h0 h1=>(zV7 hp x h0 h1).2
  have c1:=zKX (iv:=ivN p) (w:=widN rows) p2 hiv rfl hrow
  have tT:TOk p rows.length rows.length (turnT p (ivN p) rows (widN rows)):=c1.right
  have c2:=zKX (iv:=ivN p) (rows:=turnT p (ivN p) rows (widN rows)) p2 hiv tT.len tT.row
  have ne0:¬ rows.map PV.ints=[] -> 0 < rows.length:=fun q=>by
    cases rows with
    | nil=>exact absurd rfl q
    | cons a r=>exact Nat.succ_pos _
  refine ⟨⟨⟨rfl,rfl⟩,fun q=>⟨⟨⟨rfl,tJ,zXW (i:=0) (ne0 q)⟩,zVY (i:=0) (ne0 q)⟩,tJ⟩,fun _=>tJ⟩,fun wd ewd=>?_⟩
  have ewd:wd=if ¬ rows.map PV.ints=[] then PV.int ((pvL (itP (tabP rows) 0)).length:Int) else .int 0:=ewd
  have ewd:wd=.int (widN rows:Int):=by
    rw [ewd]
    split
    . rename_i q
      have:=zKY (i:=0) (ne0 q)
      rw [show (0:Int)=((0:Nat):Int) from rfl,this]
      rfl
    . rename_i q
      cases rows with
      | nil=>rfl
      | cons a r=>exact absurd (fun z=>by cases z) q
  subst ewd
  refine yZZ (ρ':=[.fr (.ob 0 p),.fr (tabP rows),.fr (.int (widN rows:Int)),.un,.un,.un]) rfl ?_
  refine ⟨⟨⟨rfl,rfl,rfl,tJ⟩,p,rows,widN rows,rfl,hp,hn,hw,hrow⟩,fun wi ewi=>?_⟩
  have ewi:wi=tabP (cbuT p (ivN p) ((rows.map PV.ints).map pvL) ((widN rows:Int)).toNat):=ewi
  rw [yJK,Int.toNat_natCast] at ewi
  subst ewi
  have wl:(cbuT p (ivN p) rows (widN rows)).length=rows.length:=c1.len
  refine yZZ (ρ':=[.fr (.ob 0 p),.fr (tabP rows),.fr (.int (widN rows:Int)),.fr (tabP (cbuT p (ivN p) rows (widN rows))),.un,.un]) rfl ?_
  refine ⟨⟨⟨rfl,rfl⟩,?_,fun q hq=>?_⟩,fun tu etu=>?_⟩
  . show ((cbuT p (ivN p) rows (widN rows)).map PV.ints).length <= 1000
    rw [List.length_map]
    omega
  . have hq:q ∈ (cbuT p (ivN p) rows (widN rows)).map PV.ints:=hq
    obtain ⟨r,_,rfl⟩:=List.mem_map.mp hq
    exact ⟨rfl,rfl,tJ⟩
  have etu:tu=(turnT p (ivN p) rows (widN rows)).map PV.ints:=etu.trans (by
    show List.map _ ((cbuT p (ivN p) rows (widN rows)).map PV.ints)=_
    rw [List.map_map]
    unfold turnT rightT
    rw [List.map_map]
    refine List.map_congr_left fun r _=>?_
    show PV.ints (cutI r (some (widN rows:Int)) none)=PV.ints (r.drop (widN rows))
    rw [yUY])
  subst etu
  refine yZZ (ρ':=[.fr (.ob 0 p),.fr (tabP rows),.fr (.int (widN rows:Int)),.fr (tabP (cbuT p (ivN p) rows (widN rows))),.fr (tabP (turnT p (ivN p) rows (widN rows))),.un]) rfl ?_
  have ebb:tabP (cbuT p (ivN p) (((turnT p (ivN p) rows (widN rows)).map PV.ints).map pvL) (((rows.map PV.ints).length:Int)).toNat)=tabP (cbuT p (ivN p) (turnT p (ivN p) rows (widN rows)) rows.length):=by rw [yJK,Int.toNat_natCast,el]
  have el2:(cbuT p (ivN p) (((turnT p (ivN p) rows (widN rows)).map PV.ints).map pvL) (((rows.map PV.ints).length:Int)).toNat)=cbuT p (ivN p) (turnT p (ivN p) rows (widN rows)) rows.length:=by rw [yJK,Int.toNat_natCast,el]
  refine ⟨⟨⟨⟨⟨rfl,rfl,⟨rfl,tJ⟩,tJ⟩,p,turnT p (ivN p) rows (widN rows),rows.length,?_,hp,by rw [tT.len]; exact hn,hn,by rw [tT.len]; exact tT.row⟩,rfl⟩,?_,fun q hq=>?_⟩,fun ba eba=>?_⟩
  . show [PV.ob 0 p,tabP (turnT p (ivN p) rows (widN rows)),.int ((rows.map PV.ints).length:Int)]=_
    rw [el]
  . show ((cbuT p (ivN p) (((turnT p (ivN p) rows (widN rows)).map PV.ints).map pvL) (((rows.map PV.ints).length:Int)).toNat).map PV.ints).length <= 1000
    rw [el2,List.length_map,c2.len]
    omega
  . have hq:q ∈ (cbuT p (ivN p) (((turnT p (ivN p) rows (widN rows)).map PV.ints).map pvL) (((rows.map PV.ints).length:Int)).toNat).map PV.ints:=hq
    obtain ⟨r,_,rfl⟩:=List.mem_map.mp hq
    exact ⟨rfl,⟨rfl,tJ⟩,tJ⟩
  have eba:ba=(backT p (ivN p) rows (widN rows)).map PV.ints:=eba.trans (by
    show List.map _ ((cbuT p (ivN p) (((turnT p (ivN p) rows (widN rows)).map PV.ints).map pvL) (((rows.map PV.ints).length:Int)).toNat).map PV.ints)=_
    rw [el2,List.map_map]
    unfold backT rightT
    rw [List.map_map]
    refine List.map_congr_left fun r _=>?_
    show PV.ints (cutI r (some ((rows.map PV.ints).length:Int)) none)=PV.ints (r.drop rows.length)
    rw [el,yUY])
  subst eba
  refine yZZ (ρ':=[.fr (.ob 0 p),.fr (tabP rows),.fr (.int (widN rows:Int)),.fr (tabP (cbuT p (ivN p) rows (widN rows))),.fr (tabP (turnT p (ivN p) rows (widN rows))),.fr (tabP (backT p (ivN p) rows (widN rows)))]) rfl ?_
  refine ⟨⟨⟨⟨rfl,rfl⟩,?_,fun q hq=>?_⟩,rfl,rfl,tJ⟩,?_⟩
  . show ((cbuT p (ivN p) rows (widN rows)).map PV.ints).length <= 1000
    rw [List.length_map]
    omega
  . have hq:q ∈ (cbuT p (ivN p) rows (widN rows)).map PV.ints:=hq
    obtain ⟨r,_,rfl⟩:=List.mem_map.mp hq
    exact ⟨rfl,tJ,rfl⟩
  . have e:∀ F:PV -> PV,(∀ r:List Int,F (.ints r)=.ints (r.take (widN rows))) -> ((cbuT p (ivN p) rows (widN rows)).map PV.ints).map F=(formT p (ivN p) rows (widN rows)).map PV.ints:=fun F hF=>by
      rw [List.map_map]
      unfold formT leftT
      rw [List.map_map]
      exact List.map_congr_left fun r _=>hF r
    have fin:PV.tup [tabP (formT p (ivN p) ((rows.map PV.ints).map pvL) (widN ((rows.map PV.ints).map pvL))),tabP (turnT p (ivN p) ((rows.map PV.ints).map pvL) (widN ((rows.map PV.ints).map pvL))),tabP (backT p (ivN p) ((rows.map PV.ints).map pvL) (widN ((rows.map PV.ints).map pvL)))]=PV.tup [.lst ((formT p (ivN p) rows (widN rows)).map PV.ints),tabP (turnT p (ivN p) rows (widN rows)),tabP (backT p (ivN p) rows (widN rows))]:=by rw [yJK]; rfl
    show PV.tup [.lst (((cbuT p (ivN p) rows (widN rows)).map PV.ints).map _),tabP (turnT p (ivN p) rows (widN rows)),tabP (backT p (ivN p) rows (widN rows))]=_
    refine Eq.trans ?_ fin.symm
    rw [e _ fun r=>?_]
    show PV.ints (cutI r none (some (widN rows:Int)))=PV.ints (r.take (widN rows))
    rw [qJ1]
def sopF (a b:List Int):Int:=((a.zip b).map fun p=>p.1 * p.2).sum
theorem yU7 (T:Top K mg cFE cHP cBA cBL cBP cBT cNO cNW cNP cNN cK cR):Ok P w K mg base 1 "sum_of_products" ["ones","others"] (spFI K (Gr cR) (fun as=>∃ a b,as=[.ints a,.ints b] /\ a.length <= 1000 /\ Bd a /\ Bd b) fun as=>match as with
    | [.ints a,.ints b]=>sopF a b
    | _=>0):=by
  refine okF T.d_sum_of_products yH2 (fun as ⟨a,b,h,_⟩=>by rw [h]; rfl) (fun f cdv A outer s H E hr=>⟨_,(yQ5 (yQX (jYY rfl T.b_sum (newL (qK4 (N':=["a","b"]) (cap:=[]) (yX3 rfl rfl rfl rfl tJ tJ rfl) rfl (by rfl) T.b_zip (rdX (xl 0)) (rdX (xl 1)) (fun _ _ _=>(pg_tup rfl (pgs_cons (pg_name (i:=0) (show (["a","b"]:List Str).Nodup by decide +kernel) rfl (Or.inl rfl) (.inr rfl)) (pgs_cons (pg_name (i:=1) (show (["a","b"]:List Str).Nodup by decide +kernel) rfl (Or.inl rfl) (.inr rfl)) pgs_nil)))) (fun _ _ _=>(yX4 (xn 0) (xn 1)))))))),fun as hp=>?_⟩)
  obtain ⟨a,b,rfl,ha,h1,h2⟩:=hp
  exact ⟨⟨⟨rfl,rfl⟩,ha,fun n m h=>⟨rfl,rfl,yU9 (n:=9000) (m:=9000) (h1 n (List.of_mem_zip h).1) (h2 m (List.of_mem_zip h).2)⟩⟩,rfl⟩
def colF (t:List (List Int)) (k:Int):List Int:=t.map fun r=>r.getD (ixO r.length k) 0
theorem jX0 {t:List (List Int)} (h:∀ r ∈ t,Bd r) (k:Int):Bd (colF t k):=fun m hm=>by
  obtain ⟨r,hr,rfl⟩:=List.mem_map.mp hm
  exact qK6 (h r hr) _
theorem qQU (T:Top K mg cFE cHP cBA cBL cBP cBT cNO cNW cNP cNN cK cR):Ok P w K mg base 1 "column" ["rows","at"] (spL K (Gr cR) (fun as=>∃ t k,as=[tabP t,.int k] /\ t.length <= 1000 /\ ∀ r ∈ t,-(r.length:Int) <= k /\ k < (r.length:Int)) fun as=>match as with
    | [.lst ps,.int k]=>colF (ps.map pvL) k
    | _=>[]):=by
  refine okL T.d_column qZ9 (fun as ⟨a,b,h,_⟩=>by rw [h]; rfl) (fun f cdv A outer s H E hr=>⟨_,(yQ5 (yJ6 (qU2 (N':=["row","at"]) (cap:=[some 1]) (yX3 rfl rfl rfl rfl ⟨⟨rfl,Or.inr (Or.inl rfl),(fun z=>nomatch (show (some NameKind.cell:Option NameKind)=some NameKind.local from z)),Or.inl rfl,_,rfl,rfl⟩,tJ⟩ ⟨rfl,tJ⟩ rfl) rfl (yW9 (xv 0)) (fun _ _ _=>(pg_name (i:=0) (show (["row","at"]:List Str).Nodup by decide +kernel) rfl (Or.inl rfl) (.inr rfl))) (fun _ _ _=>(yYV 0 (xn 1) (fun _ _=>rfl)))))),fun as hp=>?_⟩)
  obtain ⟨t,k,rfl,hl,hk⟩:=hp
  refine ⟨⟨⟨rfl,rfl⟩,by show (t.map PV.ints).length <= 1000; rw [List.length_map]; exact hl,fun q hq=>?_⟩,?_⟩
  . have hq:q ∈ t.map PV.ints:=hq
    obtain ⟨r,hr,rfl⟩:=List.mem_map.mp hq
    exact ⟨.inl rfl,rfl,(hk r hr).1,(hk r hr).2⟩
  . show (t.map PV.ints).map _=colF ((t.map PV.ints).map pvL) k
    rw [yJK,List.map_map]
    rfl
def rowF (z:Int) (row:List Int) (cs:List (List Int)):List Int:=cs.map fun c=>pl z (sopF row c)
theorem zZU (T:Top K mg cFE cHP cBA cBL cBP cBT cNO cNW cNP cNN cK cR):Ok P w K mg base 2 "row_product" ["kind","row","columns"] (spL K (Gr cR) (fun as=>∃ z row cs,as=[.ob 0 z,.ints row,tabP cs] /\ row.length <= 1000 /\ Bd row /\ cs.length <= 1000 /\ ∀ c ∈ cs,Bd c) fun as=>match as with
    | [.ob 0 z,.ints row,.lst ps]=>rowF z row (ps.map pvL)
    | _=>[]):=by
  refine okL T.d_row_product zJ8 (fun as ⟨a,b,c,h,_⟩=>by rw [h]; rfl) (fun f cdv A outer s H E hr=>⟨_,(yQ5 (yJ6 (qU2 (N':=["one","kind","row"]) (cap:=[some 0,some 1]) (yX3 rfl rfl rfl rfl ⟨⟨rfl,Or.inr (Or.inl rfl),(fun z=>nomatch (show (some NameKind.cell:Option NameKind)=some NameKind.local from z)),Or.inl rfl,_,rfl,rfl⟩,⟨⟨rfl,Or.inr (Or.inl rfl),(fun z=>nomatch (show (some NameKind.cell:Option NameKind)=some NameKind.local from z)),Or.inl rfl,_,rfl,rfl⟩,tJ⟩⟩ ⟨rfl,⟨rfl,tJ⟩⟩ rfl) rfl (yW9 (xv 2)) (fun _ _ _=>(pg_name (i:=0) (show (["one","kind","row"]:List Str).Nodup by decide +kernel) rfl (Or.inl rfl) (.inr rfl))) (fun _ _ _=>(yK3 1 (yW8 T) hr (yQ0 (xci (yU7 T) hr (yQ0 (xl 2) (yQ0 (xl 0) yQ3))) yQ3)))))),fun as hp=>?_⟩)
  obtain ⟨z,row,cs,rfl,hl,hr,hcl,hc⟩:=hp
  refine ⟨⟨⟨rfl,rfl⟩,by show (cs.map PV.ints).length <= 1000; rw [List.length_map]; exact hcl,fun q hq=>?_⟩,?_⟩
  . have hq:q ∈ cs.map PV.ints:=hq
    obtain ⟨c,hc1,rfl⟩:=List.mem_map.mp hq
    exact ⟨rfl,⟨⟨⟨rfl,rfl,tJ⟩,row,c,rfl,hl,hr,hc c hc1⟩,tJ⟩,tJ,tJ⟩
  . show (cs.map PV.ints).map _=rowF z row ((cs.map PV.ints).map pvL)
    rw [yJK,List.map_map]
    rfl
def colsF (b:List (List Int)):List (List Int):=(List.range (b.getD 0 []).length).map fun (k:Nat)=>colF b (k:Int)
def prodF (z:Int) (a b:List (List Int)):List (List Int):=a.map fun row=>rowF z row (colsF b)
theorem qQ8 (T:Top K mg cFE cHP cBA cBL cBP cBT cNO cNW cNP cNN cK cR):Ok P w K mg base 3 "product" ["kind","ones","others"] (spF K (Gr cR) (fun as=>∃ z a b,∃ wd:Nat,as=[.ob 0 z,tabP a,tabP b] /\ a.length <= 1000 /\ (∀ r ∈ a,r.length <= 1000 /\ Bd r) /\ b.length <= 1000 /\ 1 <= b.length /\ wd <= 1000 /\ ∀ r ∈ b,r.length=wd /\ Bd r) fun as=>match as with
    | [.ob 0 z,.lst ps,.lst qs]=>tabP (prodF z (ps.map pvL) (qs.map pvL))
    | _=>.non):=by
  refine okF T.d_product zJQ (fun as ⟨a,b,c,_,h,_⟩=>by rw [h]; rfl) (fun f cdv A outer s H E hr=>⟨_,(yQ1 (yZQ (i:=3) zJQ.nd rfl (Or.inr rfl) (newP (qKZ (N':=["at","others"]) (cap:=[some 2]) (yX3 rfl rfl rfl rfl ⟨⟨rfl,Or.inr (Or.inl rfl),(fun z=>nomatch (show (some NameKind.cell:Option NameKind)=some NameKind.local from z)),Or.inl rfl,_,rfl,rfl⟩,tJ⟩ ⟨rfl,tJ⟩ rfl) rfl (by rfl) T.b_range (yV0 T.b_len (xl_of (yQJ (xv 2) yQ2 (fun _ _=>rfl)))) (fun _ _ _=>(pg_name (i:=0) (show (["at","others"]:List Str).Nodup by decide +kernel) rfl (Or.inl rfl) (.inr rfl))) (fun _ _ _=>(newL (xcl (qQU T) hr (yQ0 (xv 1) (yQ0 (xn 0) yQ3))))))))
 (yQ5 (yQX (newP (qJW (N':=["row","kind","columns"]) (cap:=[some 0,some 3]) (yX3 rfl rfl rfl rfl ⟨⟨rfl,Or.inr (Or.inl rfl),(fun z=>nomatch (show (some NameKind.cell:Option NameKind)=some NameKind.local from z)),Or.inl rfl,_,rfl,rfl⟩,⟨⟨rfl,Or.inr (Or.inl rfl),(fun z=>nomatch (show (some NameKind.cell:Option NameKind)=some NameKind.local from z)),Or.inl rfl,_,rfl,rfl⟩,tJ⟩⟩ ⟨rfl,⟨rfl,tJ⟩⟩ rfl) rfl (yW9 (xv 1)) (fun _ _ _=>(pg_name (i:=0) (show (["row","kind","columns"]:List Str).Nodup by decide +kernel) rfl (Or.inl rfl) (.inr rfl))) (fun _ _ _=>(newL (xcl (zZU T) hr (yQ0 (xv 1) (yQ0 (xl 0) (yQ0 (xv 2) yQ3))))))))))),fun as hp=>?_⟩)
  obtain ⟨z,a,b,wd,rfl,hal,ha,hbl,hb1,hw,hb⟩:=hp
  obtain ⟨r0,b',rfl⟩:∃ r0 b',b=r0 :: b':=by
    cases b with
    | nil=>exact absurd hb1 (by decide)
    | cons r0 b'=>exact ⟨r0,b',rfl⟩
  have h0:=(hb r0 List.mem_cons_self).1
  refine ⟨⟨⟨⟨⟨rfl,tJ,?_⟩,rfl⟩,tJ⟩,⟨by show (0:Int) <= (r0.length:Int); omega,by show (r0.length:Int) <= 1000; omega⟩,fun k hk=>?_⟩,fun cs ecs=>?_⟩
  . show -(((r0 :: b').map PV.ints).length:Int) <= 0 /\ (0:Int) < (((r0 :: b').map PV.ints).length:Int)
    rw [List.length_map,List.length_cons]
    omega
  . have hk:k < (r0.length:Int).toNat:=hk
    exact ⟨⟨rfl,rfl,tJ⟩,r0 :: b',(k:Int),rfl,hbl,fun r hr=>⟨by omega,by have:=(hb r hr).1; omega⟩⟩
  have ecs:cs=tabP (colsF (r0 :: b')):=by
    have e:cs=.lst ((List.range ((r0.length:Int)).toNat).map fun (k:Nat)=>PV.ints (colF (((r0 :: b').map PV.ints).map pvL) (k:Int))):=ecs
    rw [e,yJK,Int.toNat_natCast]
    unfold tabP colsF
    rw [List.map_map]
    rfl
  subst ecs
  refine yZZ (ρ':=[.fr (.ob 0 z),.fr (tabP a),.fr (tabP (r0 :: b')),.fr (tabP (colsF (r0 :: b')))]) rfl ?_
  have cl:(colsF (r0 :: b')).length <= 1000:=by
    unfold colsF
    rw [List.length_map,List.length_range]
    show r0.length <= 1000
    omega
  have cb:∀ c ∈ colsF (r0 :: b'),Bd c:=fun c hc=>by
    obtain ⟨k,_,rfl⟩:=List.mem_map.mp hc
    exact jX0 (fun r hr=>(hb r hr).2) _
  refine ⟨⟨⟨rfl,rfl⟩,by show (a.map PV.ints).length <= 1000; rw [List.length_map]; exact hal,fun q hq=>?_⟩,?_⟩
  . have hq:q ∈ a.map PV.ints:=hq
    obtain ⟨r,hr,rfl⟩:=List.mem_map.mp hq
    exact ⟨⟨rfl,rfl,rfl,tJ⟩,z,r,colsF (r0 :: b'),rfl,(ha r hr).1,(ha r hr).2,cl,cb⟩
  . have e:(a.map PV.ints).map (fun q=>PV.ints (rowF z (pvL q) (((colsF (r0 :: b')).map PV.ints).map pvL)))=(prodF z ((a.map PV.ints).map pvL) (((r0 :: b').map PV.ints).map pvL)).map PV.ints:=by
      rw [yJK,yJK,yJK,List.map_map]
      unfold prodF
      rw [List.map_map]
      rfl
    show PV.lst ((a.map PV.ints).map _)=PV.lst ((prodF z ((a.map PV.ints).map pvL) (((r0 :: b').map PV.ints).map pvL)).map PV.ints)
    rw [<- e,List.map_map,List.map_map]
    rfl
theorem jQ2 {f:List Int} {k:Nat} {y:Int} (h:k < f.length):cutI f none (some (k:Int)) ++ [y] ++ cutI f (some ((k:Int) + 1)) none=f.set k y:=by
  rw [qJ1,show ((k:Int) + 1)=((k + 1:Nat):Int) from rfl,yUY,List.append_assoc,List.singleton_append,List.set_eq_take_append_cons_drop,if_pos h]
theorem zZZ (T:Top K mg cFE cHP cBA cBL cBP cBT cNO cNW cNP cNN cK cR):Ok P w K mg base 3 "row_less_one" ["kind","row","at"] (spL K (Gr cR) (fun as=>∃ z row,∃ a:Nat,as=[.ob 0 z,.ints row,.int (a:Int)] /\ a < row.length /\ row.length <= 400) fun as=>match as with
    | [.ob 0 z,.ints row,.int a]=>row.set a.toNat (pl z (row.getD a.toNat 0 - 1))
    | _=>[]):=by
  refine okL T.d_row_less_one zZJ (fun as ⟨a,b,c,h,_⟩=>by rw [h]; rfl) (fun f cdv A outer s H E hr=>⟨_,(yQ5 (yJ6 (zQU (newL (zQU (newL (yV6 (xl 1) yVJ (yJX (xn 2)) (fun _ _=>.inl rfl))) (newL (yZK (yQ0 (yK3 0 (qHQ T) hr (yQ0 (yYV 1 (xn 2) (fun _ _=>rfl)) (yQ0 yQ2 yQ3))) yQ3))))) (newL (yV6 (xl 1) (yJX (yJY (xn 2) yQ2)) yVJ (fun _ _=>.inl rfl)))))),fun as hp=>?_⟩)
  obtain ⟨z,row,a,rfl,ha,hl⟩:=hp
  have c1:=yH3 row none (some (a:Int))
  have c2:=yH3 row (some ((a:Int) + 1)) none
  have ix:ixO row.length (a:Int)=a:=by unfold ixO; rw [if_pos (by omega)]; omega
  refine ⟨⟨⟨⟨rfl,tJ,rfl⟩,⟨⟨⟨rfl,⟨⟨.inl rfl,rfl,by show -(row.length:Int) <= (a:Int); omega,by show (a:Int) < (row.length:Int); omega⟩,tJ,tJ⟩,tJ,tJ⟩,tJ⟩,tJ⟩,Nat.le_of_lt (small1000 (by show (cutI row none (some (a:Int))).length + 1 <= 1000; omega))⟩,⟨rfl,⟨rfl,tJ⟩,tJ⟩,Nat.le_of_lt (small1000 ?_)⟩,?_⟩
  . show (cutI row none (some (a:Int)) ++ [pl z (row.getD (ixO row.length (a:Int)) 0 - 1)]).length + (cutI row (some ((a:Int) + 1)) none).length <= 1000
    rw [List.length_append,List.length_singleton]
    omega
  . show cutI row none (some (a:Int)) ++ [pl z (row.getD (ixO row.length (a:Int)) 0 - 1)] ++ cutI row (some ((a:Int) + 1)) none=row.set a (pl z (row.getD a 0 - 1))
    rw [jQ2 ha,ix]
structure Gg (p:Int) (g:List Int):Prop where
  pr:IsP p
  ok:DOk p g
  l3:3 <= (Tz p g).length
  l40:(Tz p g).length <= 40
theorem Gg.tz {p:Int} {g:List Int} (h:Gg p g):DOk p (Tz p g) /\ Tz p (Tz p g)=Tz p g:=by
  have e:Tz p (Tz p g)=Tz p g:=yU2 (yZ0 p g) (yX7 p g)
  have:=h.l40
  exact ⟨⟨h.pr,by omega,by rw [e]; exact h.ok.ne,by rw [e]; exact h.ok.gcd⟩,e⟩
theorem yX5 (T:Top K mg cFE cHP cBA cBL cBP cBT cNO cNW cNP cNN cK cR):Ok P w K mg base 8 "powering_less_one" ["kind","g"] (spF K (Gr cR) (fun as=>∃ p g,as=[.ob 0 p,.ints g] /\ Gg p g) fun as=>match as with
    | [.ob 0 p,.ints g]=>tabP (ploT p (qT p (Tz p g)))
    | _=>.non):=by
  refine okF T.d_powering_less_one yKX (fun as ⟨a,b,h,_⟩=>by rw [h]; rfl) (fun f cdv A outer s H E hr=>⟨_,(yQ5 (yQX (newP (qY7 (N':=["at","row","kind"]) (cap:=[some 0]) (yX3 rfl rfl rfl rfl ⟨⟨rfl,Or.inr (Or.inl rfl),(fun z=>nomatch (show (some NameKind.cell:Option NameKind)=some NameKind.local from z)),Or.inl rfl,_,rfl,rfl⟩,tJ⟩ ⟨rfl,tJ⟩ rfl) rfl (by rfl) T.b_enumerate (yW9 (xc (zWJ T) hr (yQ0 (xv 0) (yQ0 (xl 1) yQ3)))) (fun _ _ _=>(pg_tup rfl (pgs_cons (pg_name (i:=0) (show (["at","row","kind"]:List Str).Nodup by decide +kernel) rfl (Or.inl rfl) (.inr rfl)) (pgs_cons (pg_name (i:=1) (show (["at","row","kind"]:List Str).Nodup by decide +kernel) rfl (Or.inl rfl) (.inr rfl)) pgs_nil)))) (fun _ _ _=>(newL (xcl (zZZ T) hr (yQ0 (xv 2) (yQ0 (xl 1) (yQ0 (xn 0) yQ3)))))))))),fun as hp=>?_⟩)
  obtain ⟨p,g,rfl,ok⟩:=hp
  obtain ⟨d,tz⟩:=ok.tz
  obtain ⟨ql,rowl,_,_,_⟩:=jQY ok.pr d tz ok.l3
  have l40:=ok.l40
  have l3:=ok.l3
  have eq:tabP (rowsF p (Tz p g) (rm p (Tz p g) (pw [0,1] p.toNat)) ((Tz p g).length - 1))=tabP (qT p (Tz p g)):=rfl
  refine ⟨⟨⟨⟨⟨rfl,rfl,tJ⟩,p,g,rfl,ok.ok,l40⟩,rfl⟩,?_,fun i q hq=>?_⟩,?_⟩
  . show ((qT p (Tz p g)).map PV.ints).length <= 1000
    rw [List.length_map]
    omega
  . have hq:((qT p (Tz p g)).map PV.ints)[i]?=some q:=hq
    rw [List.getElem?_map] at hq
    obtain ⟨x,hx,rfl⟩:=Option.map_eq_some_iff.mp hq
    have hi:=(List.getElem?_eq_some_iff.mp hx).1
    have ex:(qT p (Tz p g)).getD i []=x:=by rw [gQ,hx]; rfl
    have:=rowl i (by omega)
    rw [ex] at this
    exact ⟨⟨rfl,rfl,rfl,tJ⟩,p,x,i,rfl,by omega,by omega⟩
  . refine congrArg PV.lst (List.ext_getElem? fun i=>?_)
    show (((qT p (Tz p g)).map PV.ints).mapIdx _)[i]?=((ploT p (qT p (Tz p g))).map PV.ints)[i]?
    unfold ploT
    rw [List.getElem?_mapIdx,List.getElem?_map,List.getElem?_map,List.getElem?_mapIdx]
    cases (qT p (Tz p g))[i]? <;> rfl
def slF (p:Int) (g:List Int):List Int:=trimZ (((g.mapIdx fun k n=>(k:Int) * n).drop 1).map (pl p))
theorem jJ9 (p:Int) (g:List Int) (n:Nat):(slF p g).getD n 0=pl p ((dl g).getD n 0):=by
  show (Tz p ((g.mapIdx fun k n=>(k:Int) * n).drop 1)).getD n 0=_
  rw [yZX,zJK,gQ,List.getElem?_drop,List.getElem?_mapIdx,Nat.add_comm 1 n]
  by_cases c:n + 1 < g.length
  . rw [List.getElem?_eq_getElem c,yQQ c]
    show pl p (((n + 1:Nat):Int) * g[n + 1])=_
    rw [show ((n + 1:Nat):Int)=(n:Int) + 1 from rfl]
  . rw [List.getElem?_eq_none (by omega),yQ6 (xs:=g) (by omega),Int.mul_zero]
    rfl
theorem qQZ (p:Int) (g:List Int):(slF p g).length <= g.length:=by
  unfold slF
  refine Nat.le_trans (zV2 _) ?_
  rw [List.length_map,List.length_drop,List.length_mapIdx]
  omega
theorem qY5 (p:Int) (g:List Int) (n:Nat):p ∣ (slF p g).getD n 0 - (dl g).getD n 0:=by rw [jJ9]; exact yJ1 p _
def rkF (p:Int) (g a b:List Int):List Int:=Tz p (addL (Tz p (convL (Tz p a) (Tz p g))) (Tz p (convL (Tz p b) (Tz p (slF p g)))))
theorem jJZ {p:Int} (a b:List Int) (n:Nat):p ∣ (Tz p (convL (Tz p a) (Tz p b))).getD n 0 - cm a b n:=by
  rw [qJ8]
  exact yJ1 p _
theorem jV5 {p:Int} {g a b:List Int} (h:rkF p g a b=[1]):Sq p g:=by
  refine ⟨a,b,fun n=>?_⟩
  have e:(rkF p g a b).getD n 0=([1]:List Int).getD n 0:=by rw [h]
  unfold rkF at e
  rw [yZX,yZ2] at e
  have d1:=yJ1 p ((Tz p (convL (Tz p a) (Tz p g))).getD n 0 + (Tz p (convL (Tz p b) (Tz p (slF p g)))).getD n 0)
  rw [e] at d1
  have d2:=jJZ (p:=p) a g n
  have d3:=jJZ (p:=p) b (slF p g) n
  have d4:p ∣ cm b (slF p g) n - cm b (dl g) n:=by
    rw [yQK b,yQK b]
    exact yHY (qY5 p g) n
  have e2:([1]:List Int).getD n 0 - (cm a g n + cm b (dl g) n)=(([1]:List Int).getD n 0 - ((Tz p (convL (Tz p a) (Tz p g))).getD n 0 + (Tz p (convL (Tz p b) (Tz p (slF p g)))).getD n 0)) + ((Tz p (convL (Tz p a) (Tz p g))).getD n 0 - cm a g n) + ((Tz p (convL (Tz p b) (Tz p (slF p g)))).getD n 0 - cm b (slF p g) n) + (cm b (slF p g) n - cm b (dl g) n):=by omega
  rw [e2]
  exact Int.dvd_add (Int.dvd_add (Int.dvd_add d1 d2) d3) d4
theorem papIt {a b:List Int} {r:PV}:hasIt (.tup [.ints a,.ints b,r]) 0 /\ hasIt (.tup [.ints a,.ints b,r]) 1 /\ hasIt (.tup [.ints a,.ints b,r]) 2:=⟨⟨by show (-3:Int) <= 0; decide,by show (0:Int) < 3; decide⟩,⟨by show (-3:Int) <= 1; decide,by show (1:Int) < 3; decide⟩,⟨by show (-3:Int) <= 2; decide,by show (2:Int) < 3; decide⟩⟩
theorem yW1 (T:Top K mg cFE cHP cBA cBL cBP cBT cNO cNW cNP cNN cK cR):Ok P w K mg base 4 "shows_free_of_squares" ["kind","g","paper"] (spFB K (Gr cR) (fun as=>∃ p g a b r,as=[.ob 0 p,.ints g,.tup [.ints a,.ints b,r]] /\ IsP p /\ g.length <= 100 /\ a.length <= 100 /\ b.length <= 100 /\ Bd g /\ Bd a /\ Bd b) fun as=>match as with
    | [.ob 0 p,.ints g,.tup [.ints a,.ints b,_]]=>decide (rkF p g a b=[1])
    | _=>false):=by
  refine okF T.d_shows_free_of_squares yY7 (fun as ⟨a,b,c,d,e,h,_⟩=>by rw [h]; rfl) (fun f cdv A outer s H E hr=>⟨_,(yQ1 (yZ1 (i:=3) yY7.nd rfl (Or.inl rfl) (newL (xcl (qJ2 T) hr (yQ0 (xv 0) (yQ0 (newL (xcl (yKQ T) hr (yQ0 (xv 0) (yQ0 (xl_of (yQJ (xv 2) yQ2 (fun _ _=>rfl))) (yQ0 (xl 1) yQ3))))) (yQ0 (newL (xcl (yKQ T) hr (yQ0 (xv 0) (yQ0 (xl_of (yQJ (xv 2) yQ2 (fun _ _=>rfl))) (yQ0 (newL (xcl (zHQ T) hr (yQ0 (xv 0) (yQ0 (xl 1) yQ3)))) yQ3))))) yQ3))))))
 (yQ5 (yQX (jYK hr.units (rdX (xl 3)) (rdX (newL (yZK (yQ0 yQ2 yQ3)))))))),fun as hp=>?_⟩)
  obtain ⟨p,g,a,b,r,rfl,hp,lg,la,lb,bg,ba,bb⟩:=hp
  obtain ⟨q0,q9⟩:=qZU hp
  obtain ⟨i0,i1,_⟩:=papIt (a:=a) (b:=b) (r:=r)
  have sl:=qQZ p g
  have sb:Bd (slF p g):=(show Fo p (slF p g) from Fo.tz p _).bd hp
  have t1:=zZ8 p (Tz p a) (Tz p g)
  have t2:=zZ8 p (Tz p b) (Tz p (slF p g))
  have ta:=yJW p a
  have tb:=yJW p b
  have tg:=yJW p g
  have ts:=yJW p (slF p g)
  refine ⟨⟨⟨rfl,⟨⟨rfl,⟨⟨rfl,tJ,i0⟩,rfl⟩,rfl,tJ⟩,p,a,g,rfl,q0,q9,by omega,ba,bg⟩,⟨⟨rfl,⟨⟨rfl,tJ,i1⟩,rfl⟩,⟨⟨rfl,rfl,tJ⟩,p,g,rfl,by omega⟩,tJ⟩,p,b,slF p g,rfl,q0,q9,by omega,bb,sb⟩,tJ⟩,p,Tz p (convL (Tz p a) (Tz p g)),Tz p (convL (Tz p b) (Tz p (slF p g))),rfl,by omega,by omega⟩,fun k ek=>?_⟩
  have ek:k=rkF p g a b:=ek
  refine ⟨⟨rfl,⟨tJ,tJ⟩,tJ⟩,?_⟩
  show PV.bl (decide (k=[1]))=PV.bl (decide (rkF p g a b=[1]))
  rw [ek]
structure Pr2 (p:Int) (b:List Int):Prop where
  pr:IsP p
  ok:DOk p b
  tz:Tz p b=b
  one:lastI b=1
  l3:3 <= b.length
  l40:b.length <= 40
  two:∃ u v,2 <= u.length /\ lastI u=1 /\ 2 <= v.length /\ lastI v=1 /\ ∀ n,p ∣ b.getD n 0 - cm u v n
theorem Pr2.gg {p:Int} {b:List Int} (h:Pr2 p b):Gg p b:=⟨h.pr,h.ok,by rw [h.tz]; exact h.l3,by rw [h.tz]; exact h.l40⟩
theorem Pr2.dep {p:Int} {b:List Int} (h:Pr2 p b) (sq:Sq p b):∃ c:Nat -> Int,(∀ j,j < b.length - 1 -> p ∣ sm (b.length - 2) fun i=>c i * ent ((ploT p (qT p b)).drop 1) i j) /\ ∃ i,i < b.length - 2 /\ ¬ p ∣ c i:=by
  obtain ⟨u,v,u2,u1,v2,v1,uv⟩:=h.two
  obtain ⟨x,ir,x2,hx⟩:=stays45 h.pr h.ok h.tz u2 u1 v2 v1 uv sq
  obtain ⟨a,b⟩:=dep45 h.pr h.ok h.tz h.one h.l3 ir x2 hx
  exact ⟨fun i=>x.getD (i + 1) 0,a,b⟩
theorem qYZ {p:Int} {b:List Int} (h:Pr2 p b):((ploT p (qT p b)).drop 1).length=b.length - 2 /\ (∀ i,i < b.length - 2 -> (((ploT p (qT p b)).drop 1).getD i []).length=b.length - 1) /\ ∀ i j,pl p (ent ((ploT p (qT p b)).drop 1) i j)=ent ((ploT p (qT p b)).drop 1) i j:=by
  obtain ⟨ql,rowl,_,red,_⟩:=jQY h.pr h.ok h.tz h.l3
  have l3:=h.l3
  have pl0:=qV1 p (qT p b)
  refine ⟨by rw [List.length_drop]; omega,fun i hi=>?_,fun i j=>?_⟩
  . rw [zK1,zK5 (by omega),List.length_set]
    exact rowl _ (by omega)
  . show pl p ((((ploT p (qT p b)).drop 1).getD i []).getD j 0)=(((ploT p (qT p b)).drop 1).getD i []).getD j 0
    rw [zK1]
    by_cases c:i + 1 < (qT p b).length
    . rw [zK5 c,gQ,List.getElem?_set]
      by_cases d:i + 1=j
      . rw [if_pos d]
        split
        . exact yUZ p _
        . exact pl_0 p
      . rw [if_neg d,<- gQ]
        exact red (i + 1) j
    . have e:(ploT p (qT p b)).getD (i + 1) []=[]:=by
        rw [gQ,List.getElem?_eq_none (by omega)]
        rfl
      rw [e]
      exact pl_0 p
theorem jXQ {p:Int} {row col:List Int} {l:Nat} (h1:row.length=l) (h2:col.length=l):sopF row col=sm l fun k=>row.getD k 0 * col.getD k 0:=by
  unfold sopF
  have e:(row.zip col).map (fun q=>q.1 * q.2)=(List.range l).map fun k=>row.getD k 0 * col.getD k 0:=by
    refine List.ext_getElem (by rw [List.length_map,List.length_zip,List.length_map,List.length_range]; omega) fun i a b=>?_
    rw [List.length_map,List.length_range] at b
    rw [List.getElem_map,List.getElem_map,List.getElem_zip,List.getElem_range,yQQ (by omega),yQQ (by omega)]
  rw [e,zW4]
theorem jJ4 {s t:List (List Int)} (h:eqD (tabP s) (tabP t)):s=t:=by
  have h:dat (tabP s)=dat (tabP t):=PyProof.Rows.same_iff.mp h
  have dt:∀ t:List (List Int),dat (tabP t)=.list (t.map fun r=>.list (r.map PyData.int)):=fun t=>by
    unfold tabP
    simp only [dat]
    congr 1
    induction t with
    | nil=>rfl
    | cons a r ih=>simp only [List.map_cons,dats,dat,ih]
  rw [dt,dt] at h
  have h:=PyData.list.inj h
  refine List.map_inj_right (fun a b e=>?_) |>.mp h
  have e:=PyData.list.inj e
  exact List.map_inj_right (fun x y e=>PyData.int.inj e) |>.mp e
theorem yH7 (T:Top K mg cFE cHP cBA cBL cBP cBT cNO cNW cNP cNN cK cR):Ok P w K mg base 9 "shows_one_part" ["kind","g","r"] (spFB K (Gr cR) (fun as=>∃ p b r,as=[.ob 0 p,.ints b,tabP r] /\ Pr2 p b /\ Sq p b /\ r.length <= 100 /\ ∀ x ∈ r,x.length <= 100 /\ Bd x) fun _=>false):=by
  refine okF T.d_shows_one_part yW4 (fun as ⟨a,b,c,h,_⟩=>by rw [h]; rfl) (fun f cdv A outer s H E hr=>⟨_,(yQ1 (yQ9 (i:=3) yW4.nd rfl (Or.inr rfl) (yY5 (yJ2 1 T.b_len) yQ2))
 (yQ1 (yY3 (L2.PW.pt (zXX (qJH (yV0 T.b_len (xv 2)) (xn 3)) (zVK (xt_V (jXZ rfl T.b_any (newP (qJW (N':=["row","degree"]) (cap:=[some 3]) (yX3 rfl rfl rfl rfl ⟨⟨rfl,Or.inr (Or.inl rfl),(fun z=>nomatch (show (some NameKind.cell:Option NameKind)=some NameKind.local from z)),Or.inl rfl,_,rfl,rfl⟩,tJ⟩ ⟨rfl,tJ⟩ rfl) rfl (yW9 (xv 2)) (fun _ _ _=>(pg_name (i:=0) (show (["row","degree"]:List Str).Nodup by decide +kernel) rfl (Or.inl rfl) (.inr rfl))) (fun _ _ _=>(jXH (yJ2 0 T.b_len) (yY5 (xn 1) yQ2))))))))))
 (yQ5 (yQX qX2))
 yZJ)
 (yQ5 (yQX (jXY hr.units (rdX (xc (qQ8 T) hr (yQ0 (xv 0) (yQ0 (newP (yU6 (yW9 (xc (yX5 T) hr (yQ0 (xv 0) (yQ0 (xl 1) yQ3)))) (yJX yQ2) yVJ)) (yQ0 (xv 2) yQ3))))) (rdX (xc (yUH T) hr (yQ0 (yY5 (xn 3) yQ2) yQ3)))))))),fun as hp=>?_⟩)
  obtain ⟨p,b,r,rfl,pr,sq,rl,re⟩:=hp
  have l3:=pr.l3
  have l40:=pr.l40
  have ml:(r.map PV.ints).length=r.length:=List.length_map _
  refine ⟨⟨.inl rfl,tJ⟩,fun d ed=>?_⟩
  have ed:d=(b.length:Int) - 1:=ed
  refine ⟨⟨⟨⟨rfl,tJ⟩,rfl⟩,fun _=>⟨⟨⟨rfl,rfl⟩,?_,fun q hq=>?_⟩,fun q hq=>?_⟩⟩,fun _=>⟨tJ,rfl⟩,fun q=>?_⟩
  . show (r.map PV.ints).length <= 1000
    omega
  . have hq:q ∈ r.map PV.ints:=hq
    obtain ⟨x,hx,rfl⟩:=List.mem_map.mp hq
    exact ⟨.inl rfl,rfl,tJ⟩
  . obtain ⟨x,_,rfl⟩:=List.mem_map.mp hq
    exact ⟨_,rfl⟩
  have q:¬ (¬ ((r.map PV.ints).length:Int)=d \/ (((r.map PV.ints).map fun q=>PV.bl (decide (¬ ((getL (([Sl.un,.fr (.int d)]:En).set 0 (.fr q)) 0).length:Int)=d - 1))).map isTB).any id=true):=q
  have rlen:r.length=b.length - 1:=by
    have:=Classical.not_not.mp fun z=>q (.inl z)
    omega
  have rrow:∀ x ∈ r,x.length=b.length - 2:=fun x hx=>by
    refine Classical.byContradiction fun z=>q (.inr ?_)
    rw [List.any_eq_true]
    refine ⟨true,List.mem_map.mpr ⟨.bl true,List.mem_map.mpr ⟨.ints x,List.mem_map.mpr ⟨x,hx,rfl⟩,?_⟩,rfl⟩,rfl⟩
    show PV.bl (decide (¬ (x.length:Int)=d - 1))=PV.bl true
    rw [decide_eq_true]
    omega
  obtain ⟨pl1,pl2,pl3⟩:=qYZ pr
  have prb:∀ i,Bd (((ploT p (qT p b)).drop 1).getD i []):=fun i m hm=>by
    obtain ⟨n,_,e⟩:=FM.mem_getD hm
    have:=pl3 i n
    have e:ent ((ploT p (qT p b)).drop 1) i n=m:=e
    rw [e] at this
    exact yV7 (zJ2 pr.pr this)
  have ed2:cutP ((ploT p (qT p (Tz p b))).map PV.ints) (some 1) none=((ploT p (qT p b)).drop 1).map PV.ints:=by
    rw [pr.tz,show (1:Int)=((1:Nat):Int) from rfl,zZQ,List.map_drop]
  have dn:d - 1=((b.length - 2:Nat):Int):=by omega
  refine ⟨⟨⟨⟨rfl,⟨⟨⟨⟨rfl,rfl,tJ⟩,p,b,rfl,pr.gg⟩,rfl⟩,tJ,tJ⟩,rfl,tJ⟩,p,(ploT p (qT p b)).drop 1,r,b.length - 2,?_,by omega,fun x hx=>?_,by omega,by omega,by omega,fun x hx=>⟨rrow x hx,(re x hx).2⟩⟩,⟨⟨⟨rfl,tJ⟩,tJ⟩,b.length - 2,?_,by omega⟩,?_⟩,?_⟩
  . show [PV.ob 0 p,.lst (cutP ((ploT p (qT p (Tz p b))).map PV.ints) (some 1) none),tabP r]=_
    rw [ed2]
    rfl
  . obtain ⟨i,hi,rfl⟩:=List.mem_iff_getElem.mp hx
    have e:=pl2 i (by omega)
    have e2:=prb i
    rw [gQ,List.getElem?_eq_getElem hi] at e e2
    exact ⟨by show ((ploT p (qT p b)).drop 1)[i].length <= 1000; have e:((ploT p (qT p b)).drop 1)[i].length=b.length - 1:=e; omega,e2⟩
  . show [PV.int (d - 1)]=[.int ((b.length - 2:Nat):Int)]
    rw [dn]
  . show DatOk (tabP (prodF p ((cutP ((ploT p (qT p (Tz p b))).map PV.ints) (some 1) none).map pvL) ((r.map PV.ints).map pvL))) (tabP (unT (d - 1).toNat))
    exact qJZ _ _
  . show PV.bl (decide (eqD (tabP (prodF p ((cutP ((ploT p (qT p (Tz p b))).map PV.ints) (some 1) none).map pvL) ((r.map PV.ints).map pvL))) (tabP (unT (d - 1).toNat))))=PV.bl false
    rw [ed2,yJK,yJK,dn,decide_eq_false]
    intro z
    have z:=jJ4 z
    obtain ⟨c,hc,i0,hi0,ne⟩:=pr.dep sq
    refine ne (zH8 (R:=ent r) hc (fun i j hi hj=>?_) i0 hi0)
    have z2:ent (prodF p ((ploT p (qT p b)).drop 1) r) i j=ent (unT (b.length - 2)) i j:=by rw [z]; rfl
    have e1:ent (unT (b.length - 2)) i j=unM i j:=by
      show ((unT (b.length - 2)).getD i []).getD j 0=_
      rw [qU9 hi,qXU hj]
    have hi2:i < ((ploT p (qT p b)).drop 1).length:=by omega
    have r0:(r.getD 0 []).length=b.length - 2:=by
      rw [gQ,List.getElem?_eq_getElem (show 0 < r.length by omega)]
      exact rrow _ (List.getElem_mem _)
    have e2:ent (prodF p ((ploT p (qT p b)).drop 1) r) i j=pl p (mm (b.length - 1) (ent ((ploT p (qT p b)).drop 1)) (ent r) i j):=by
      show ((prodF p ((ploT p (qT p b)).drop 1) r).getD i []).getD j 0=_
      unfold prodF
      rw [tabMap _ hi2]
      unfold rowF colsF
      rw [r0,List.map_map,rngGet _ hj]
      show pl p (sopF (((ploT p (qT p b)).drop 1).getD i []) (colF r (j:Int)))=_
      have cl:(colF r (j:Int)).length=b.length - 1:=by
        unfold colF
        rw [List.length_map]
        exact rlen
      rw [jXQ (p:=p) (pl2 i hi) cl]
      congr 1
      refine yQ7 fun k hk=>?_
      congr 1
      have hk2:k < r.length:=by omega
      unfold colF
      rw [gQ,List.getElem?_map,List.getElem?_eq_getElem hk2]
      show r[k].getD (ixO r[k].length (j:Int)) 0=ent r k j
      have kl:=rrow _ (List.getElem_mem hk2)
      rw [ix_n (by omega)]
      show _=(r.getD k []).getD j 0
      rw [tabGet hk2]
    rw [e1,e2] at z2
    have:=yJ1 p (mm (b.length - 1) (ent ((ploT p (qT p b)).drop 1)) (ent r) i j)
    rw [z2] at this
    have:=Int.dvd_neg.mpr this
    rw [Int.neg_sub] at this
    exact this
theorem qW0 (T:Top K mg cFE cHP cBA cBL cBP cBT cNO cNW cNP cNN cK cR):Ok P w K mg base 10 "holds" ["kind","g","paper"] (spFB K (Gr cR) (fun as=>∃ p g a b r,as=[.ob 0 p,.ints g,.tup [.ints a,.ints b,tabP r]] /\ IsP p /\ g.length <= 60 /\ 3 <= (Tz p g).length /\ (lastI (Tz p g)=1 -> Pr2 p (Tz p g)) /\ a.length <= 100 /\ b.length <= 100 /\ Bd a /\ Bd b /\ r.length <= 100 /\ ∀ x ∈ r,x.length <= 100 /\ Bd x) fun _=>false):=by
  refine okF T.d_holds zH9 (fun as ⟨a,b,c,d,e,h,_⟩=>by rw [h]; rfl) (fun f cdv A outer s H E hr=>⟨_,(yQ1 (yZ1 (i:=3) zH9.nd rfl (Or.inl rfl) (newL (xcl (yZ6 T) hr (yQ0 (xv 0) (yQ0 (xl 1) yQ3)))))
 (yQ1 (yY3 (L2.PW.pt (zXX (jVQ (yJ2 3 T.b_len) yQ2) (zVK (qJH (yYV 3 (zQ3 yQ2) (fun _ _=>rfl)) yQ2))))
 (yQ5 (yQX qX2))
 yZJ)
 (yQ5 (yQX (zKQ (xcb (yW1 T) hr (yQ0 (xv 0) (yQ0 (xl 3) (yQ0 (xv 2) yQ3)))) (pe_one (xcb (yH7 T) hr (yQ0 (xv 0) (yQ0 (xl 3) (yQ0 (yQJ (xv 2) yQ2 (fun _ _=>rfl)) yQ3)))))))))),fun as hp=>?_⟩)
  obtain ⟨p,g,a,b,r,rfl,hp,gl,l3,pr,la,lb,ba,bb,rl,re⟩:=hp
  refine ⟨⟨⟨rfl,rfl,tJ⟩,p,g,rfl,by omega⟩,fun wh ewh=>?_⟩
  have ewh:wh=Tz p g:=ewh
  have tl:=yJW p g
  rw [<- ewh] at l3 pr tl
  have wb:Bd wh:=by rw [ewh]; exact (Fo.tz p g).bd hp
  have lx:wh.getD (ixO wh.length (-1)) 0=lastI wh:=zXQ wh (by omega)
  obtain ⟨_,_,i2⟩:=papIt (a:=a) (b:=b) (r:=tabP r)
  refine ⟨⟨⟨.inl rfl,tJ⟩,fun _=>⟨⟨.inl rfl,tJ,by show -(wh.length:Int) <= -1; omega,by show (-1:Int) < (wh.length:Int); omega⟩,tJ⟩⟩,fun _=>⟨tJ,rfl⟩,fun q=>?_⟩
  have q:¬ ((wh.length:Int) < 2 \/ ¬ wh.getD (ixO wh.length (-1)) 0=1):=q
  rw [lx] at q
  have P2:=pr (Classical.not_not.mp fun z=>q (.inr z))
  refine ⟨⟨⟨⟨rfl,rfl,rfl,tJ⟩,p,wh,a,b,tabP r,rfl,hp,by omega,la,lb,wb,ba,bb⟩,fun z=>⟨⟨rfl,rfl,⟨rfl,tJ,i2⟩,tJ⟩,p,wh,r,rfl,P2,?_,rl,re⟩⟩,?_⟩
  . have z:decide (rkF p wh a b=[1])=true:=z
    exact jV5 (of_decide_eq_true z)
  . show PV.bl (decide (_ /\ false=true))=PV.bl false
    rw [decide_eq_false]
    exact fun z=>absurd z.2 Bool.false_ne_true
section
variable {X:Cx} {G:Gx} {Er:ER} {src el tg:Expr} {N':List Str} {sc:Scope} {cl:List (Str × Addr)} {cap:List (Option Nat)} {Cs Cb:En -> Prop} {gn:En -> Int} {gp:En -> PV} {i:Nat} {x:Str} {px spos at':Pos}
theorem qVK {p pos':Pos} (hN:X.N.Nodup) (hi':X.N[i]?=some x) (hx:X.env.scope.names.lookup x=some .local) (L:LcOk X N' sc cl (none :: cap)) (hc:X.calm=true) (hgl:Gl X "range") (hm:X.mg "range"=none) (hi:PE X src (tXI X.K G Cs gn)) (hg:∀ s H fp,PG (cxComp X N' sc cl s H fp) tg (gName 0)) (he:∀ s H fp,PE (cxComp X N' sc cl s H fp) el (tX X.K G Cb gp))
    (hsw:swapsWith (.ListComp el [⟨tg,.Call (.Name "range" p) [src] [] pos',[],0⟩] sc at') (some (.Name x px)) spos.line X.env=pure true) (hst:starEach [src] X.env=[(false,eval src X.env)]:=by rfl) (hs:∀ x,foldedSetIterable (.Call (.Name "range" p) [src] [] pos') X.env x=pure x:=by intro _; rfl) :
    PS X (.Assign [.Name x px] (.ListComp el [⟨tg,.Call (.Name "range" p) [src] [] pos',[],0⟩] sc at') spos) (ts X.K G Er fun P ρ=>(Cs ρ /\ (0 <= gn ρ /\ gn ρ <= 1000) /\ ∀ k:Nat,k < (gn ρ).toNat -> Cb ((capR (none :: cap) ρ).set 0 (.fr (.int k)))) /\ ∀ ns,ns=((List.range (gn ρ).toNat).map fun (k:Nat)=>gp ((capR (none :: cap) ρ).set 0 (.fr (.int k)))) -> P.nx (ρ.set i (.ow (.lst ns)))) :=
  jZ3 (qZK hN hi' hx L hc (pi_range1 hgl hm (pa_cons hi pa_nil hst) hst) hg (fun _ _ _=>yX0) he hsw hs) fun σ H Q h=>lc_R h
end
structure Tb (p:Int) (rows:Tab):Prop where
  pr:IsP p
  l1:1 <= rows.length
  l50:rows.length <= 50
  row:∀ i,i < rows.length -> (rows.getD i []).length=rows.length + 1
  bad:∃ i,i < rows.length /\ (1:Int) ∉ (formT p (ivN p) rows (rows.length + 1)).getD i []
theorem tup3 {a b c:PV}:hasIt (.tup [a,b,c]) 0 /\ hasIt (.tup [a,b,c]) 1 /\ hasIt (.tup [a,b,c]) 2:=⟨⟨by show (-3:Int) <= 0; decide,by show (0:Int) < 3; decide⟩,⟨by show (-3:Int) <= 1; decide,by show (1:Int) < 3; decide⟩,⟨by show (-3:Int) <= 2; decide,by show (2:Int) < 3; decide⟩⟩
theorem zZH (T:Top K mg cFE cHP cBA cBL cBP cBT cNO cNW cNP cNN cK cR):OkE P w K mg base 6 "turned_back" ["kind","rows"] (spE K (Gr cR) (fun as=>∃ p rows,as=[.ob 0 p,tabP rows] /\ Tb p rows) fun _=>.err cHP):=by
  refine okE T.d_turned_back yJV (fun as ⟨a,b,h,_⟩=>by rw [h]; rfl) (fun f cdv A outer s H E hr=>⟨_,(yQ1 (yZQ (i:=2) yJV.nd rfl (Or.inl rfl) (xc (zHK T) hr (yQ0 (xv 0) (yQ0 (xv 1) yQ3))))
 (yQ1 (qVK (i:=3) yJV.nd rfl rfl (N':=["at","rows"]) (cap:=[some 1]) (yX3 rfl rfl rfl rfl ⟨⟨rfl,Or.inr (Or.inl rfl),(fun z=>nomatch (show (some NameKind.cell:Option NameKind)=some NameKind.local from z)),Or.inl rfl,_,rfl,rfl⟩,tJ⟩ ⟨rfl,tJ⟩ rfl) rfl (by rfl) T.b_range (yJY (yV0 T.b_len (xv 1)) yQ2) (fun _ _ _=>(pg_name (i:=0) (show (["at","rows"]:List Str).Nodup by decide +kernel) rfl (Or.inl rfl) (.inr rfl))) (fun _ _ _=>(newL (zQ6 (yZK (yQ0 yQ2 yQ3)) (yV0 T.b_len (xv 1)) (fun _=>rfl)))) rfl)
 (yQ1 (qZ1 (k:=4) (j:=5) PassesOwn.leaving rfl (by rfl) T.b_zip (yW9 (yQJ (xv 2) yQ2 (fun _ _=>rfl))) (yW9 (yQJ (xv 2) yQ2 (fun _ _=>rfl))) (pg_tup rfl (pgs_cons (pg_name (i:=4) yJV.nd rfl (Or.inl rfl)) (pgs_cons (pg_name (i:=5) yJV.nd rfl (Or.inl rfl)) pgs_nil)))
 (yQ1 (yY3 (jJ2 yQ2 (xl 4))
 (yQ5 (zZV newE rfl T.x_HasParts (by rfl) T.m_HasParts (yQ0 qXV yQ3)))
 yZJ)
 (yQ5 (qQ6 3 (qXY (xl 4) yQ2) (xl 5)))))
 (yQ5 (zQV 3))))),fun as hp=>?_⟩)
  obtain ⟨p,rows,rfl,ok⟩:=hp
  have hp:=ok.pr
  have l1:=ok.l1
  have l50:=ok.l50
  have ml:(rows.map PV.ints).length=rows.length:=List.length_map _
  have wn:widN rows=rows.length + 1:=ok.row 0 (by omega)
  refine ⟨⟨⟨rfl,rfl,tJ⟩,p,rows,rfl,hp,by omega,by omega,fun i hi=>by rw [wn]; exact ok.row i hi⟩,fun td etd=>?_⟩
  obtain ⟨tF,tT,_,_,_,_,_⟩:=qUV (iv:=ivN p) hp.1 (fun x h0 h1=>(zV7 hp x h0 h1).2) (rfl:rows.length=rows.length) ok.row
  obtain ⟨i0,hi0,bad⟩:=ok.bad
  obtain ⟨bk,ebk⟩:∃ bk,bk=backT p (ivN p) rows (rows.length + 1):=⟨_,rfl⟩
  have etd:td=.tup [tabP (formT p (ivN p) rows (rows.length + 1)),tabP (turnT p (ivN p) rows (rows.length + 1)),tabP bk]:=by
    have etd:td=.tup [tabP (formT p (ivN p) ((rows.map PV.ints).map pvL) (widN ((rows.map PV.ints).map pvL))),tabP (turnT p (ivN p) ((rows.map PV.ints).map pvL) (widN ((rows.map PV.ints).map pvL))),tabP (backT p (ivN p) ((rows.map PV.ints).map pvL) (widN ((rows.map PV.ints).map pvL)))]:=etd
    rw [yJK,wn,<- ebk] at etd
    exact etd
  generalize formT p (ivN p) rows (rows.length + 1)=fm at *
  generalize turnT p (ivN p) rows (rows.length + 1)=tn at *
  subst etd
  clear ebk
  refine ⟨⟨⟨⟨rfl,tJ⟩,tJ⟩,⟨by show (0:Int) <= ((rows.map PV.ints).length:Int) + 1; omega,by show ((rows.map PV.ints).length:Int) + 1 <= 1000; omega⟩,fun k hk=>⟨⟨⟨tJ,tJ⟩,tJ⟩,⟨rfl,tJ⟩,by show -(2:Int) ^ 63 <= ((rows.map PV.ints).length:Int); omega,by show (((rows.map PV.ints).length:Int)).toNat <= 1000; omega⟩⟩,fun r0 er0=>?_⟩
  have rl:r0.length=rows.length + 1:=by
    rw [er0,List.length_map,List.length_range]
    show ((((rows.map PV.ints).length:Int) + 1)).toNat=_
    omega
  clear er0
  refine yZZ (ρ':=[.fr (.ob 0 p),.fr (tabP rows),.fr (.tup [tabP fm,tabP tn,tabP bk]),.ow (.lst r0),.un,.un]) rfl ?_
  obtain ⟨j0,j1,_⟩:=tup3 (a:=tabP fm) (b:=tabP tn) (c:=tabP bk)
  refine ⟨⟨⟨⟨rfl,tJ,j0⟩,rfl⟩,⟨⟨rfl,tJ,j1⟩,rfl⟩⟩,fun i ρ=>(∃ r v4 v5,ρ=[.fr (.ob 0 p),.fr (tabP rows),.fr (.tup [tabP fm,tabP tn,tabP bk]),.ow (.lst r),v4,v5] /\ r.length=rows.length + 1) /\ ∀ k,k < i -> (1:Int) ∈ fm.getD k [],⟨⟨r0,.un,.un,rfl,rl⟩,fun k hk=>absurd hk (Nat.not_lt_zero _)⟩,?_,?_⟩
  . rintro i n m ρ hn hm ⟨⟨r,v4,v5,rfl,rl⟩,past⟩
    have hn:(fm.map PV.ints)[i]?=some n:=hn
    have hm:(tn.map PV.ints)[i]?=some m:=hm
    rw [List.getElem?_map] at hn hm
    obtain ⟨x,hx,rfl⟩:=Option.map_eq_some_iff.mp hn
    obtain ⟨y,hy,rfl⟩:=Option.map_eq_some_iff.mp hm
    have hi:=(List.getElem?_eq_some_iff.mp hx).1
    have ex:fm.getD i []=x:=by rw [gQ,hx]; rfl
    have fl:=tF.len
    have xl:=tF.row i (by omega)
    rw [ex] at xl
    refine ⟨⟨tJ,rfl⟩,fun q=>⟨⟨tJ,tJ⟩,rfl⟩,fun q=>?_⟩
    have q:¬ (1:Int) ∉ x:=q
    have q:(1:Int) ∈ x:=Classical.not_not.mp q
    have id:=List.idxOf_lt_length_iff.mpr q
    refine ⟨rfl,rfl,⟨rfl,tJ,q,by show x.length <= 1000; omega⟩,⟨by show -(r.length:Int) <= ((x.idxOf 1:Nat):Int); omega,by show ((x.idxOf 1:Nat):Int) < (r.length:Int); omega⟩,⟨_,_,_,rfl,?_⟩,fun k hk=>?_⟩
    . rw [List.length_set]
      exact rl
    . by_cases c:k=i
      . rw [c,ex]
        exact q
      . exact past k (by omega)
  . rintro ρ ⟨_,past⟩
    have past:∀ k,k < min (fm.map PV.ints).length (tn.map PV.ints).length -> (1:Int) ∈ fm.getD k []:=past
    rw [List.length_map,List.length_map,tF.len,tT.len,Nat.min_self] at past
    exact absurd (past i0 hi0) bad
theorem qWQ (T:Top K mg cFE cHP cBA cBL cBP cBT cNO cNW cNP cNN cK cR):OkE P w K mg base 9 "paper" ["kind","g"] (spE K (Gr cR) (fun as=>∃ p g,as=[.ob 0 p,.ints g] /\ Pr2 p (Tz p g) /\ DOk p g /\ g.length <= 60) fun _=>.err cHP):=by
  refine okE T.d_paper zU5 (fun as ⟨a,b,h,_⟩=>by rw [h]; rfl) (fun f cdv A outer s H E hr=>⟨_,(yQ1 (yZQ (i:=2) zU5.nd rfl (Or.inl rfl) (xc (zZ1 T) hr (yQ0 (xv 0) (yQ0 (xl 1) (yQ0 (newL (xcl (zHQ T) hr (yQ0 (xv 0) (yQ0 (xl 1) yQ3)))) yQ3)))))
 (yQ1 (yY3 (jY6 hr.units (rdX (xl_of (yQJ (xv 2) yQ2 (fun _ _=>rfl)))) (rdX (newL (yZK (yQ0 yQ2 yQ3)))))
 (yQ5 (zZV newE rfl T.x_HasParts (by rfl) T.m_HasParts (yQ0 qXV yQ3)))
 yZJ)
 (yQ5 (qQJ (xl_of (yQJ (xv 2) yQ2 (fun _ _=>rfl))) (xl_of (yQJ (xv 2) yQ2 (fun _ _=>rfl))) (jZW (zZH T) hr (yQ0 (xv 0) (yQ0 (newP (yU6 (yW9 (xc (yX5 T) hr (yQ0 (xv 0) (yQ0 (xl 1) yQ3)))) (yJX yQ2) yVJ)) yQ3))) passE)))),fun as hp=>?_⟩)
  obtain ⟨p,g,rfl,pr,dk,gl⟩:=hp
  have hp:=pr.pr
  have sl:=qQZ p g
  have l3:=pr.l3
  have l40:=pr.l40
  refine ⟨⟨⟨rfl,rfl,⟨⟨rfl,rfl,tJ⟩,p,g,rfl,by omega⟩,tJ⟩,p,g,slF p g,rfl,hp,by omega,by omega⟩,fun sh esh=>?_⟩
  have esh:sh=trP (shF p g (slF p g)):=esh
  subst esh
  obtain ⟨I,e1,_,_,_⟩:=qU0 (p:=p) (f:=g) (g:=slF p g) (N:=100) hp (by decide) (by omega) (by omega)
  refine ⟨⟨⟨⟨rfl,tJ,tr_0 _⟩,rfl⟩,⟨tJ,tJ⟩,tJ⟩,fun _=>⟨⟨tJ,tJ⟩,rfl⟩,fun q=>?_⟩
  have q:¬ ¬ (shF p g (slF p g)).1=[1]:=q
  have q:gc p g (slF p g)=[1]:=by rw [<- e1]; exact Classical.not_not.mp q
  have co:Co p g (slF p g):=(jXV hp.1 (jX9 hp (by omega))).mp q
  have sq:Sq p (Tz p g):=Co.congr (dvd_tz' p g) (fun n=>by
    have a:=qY5 p g n
    have b:=qZW (p:=p) (dvd_tz' p g) n
    have e:(slF p g).getD n 0 - (dl (Tz p g)).getD n 0=((slF p g).getD n 0 - (dl g).getD n 0) + ((dl g).getD n 0 - (dl (Tz p g)).getD n 0):=by omega
    rw [e]
    exact Int.dvd_add a b) co
  obtain ⟨c,hc,ne⟩:=pr.dep sq
  obtain ⟨pl1,pl2,pl3⟩:=qYZ pr
  have gg:Gg p g:=⟨hp,dk,l3,l40⟩
  have ed:cutP ((ploT p (qT p (Tz p g))).map PV.ints) (some 1) none=((ploT p (qT p (Tz p g))).drop 1).map PV.ints:=by
    rw [show (1:Int)=((1:Nat):Int) from rfl,zZQ,List.map_drop]
  have tb:Tb p ((ploT p (qT p (Tz p g))).drop 1):=by
    have e2:(Tz p g).length - 2 + 1=(Tz p g).length - 1:=by omega
    refine ⟨hp,by omega,by omega,fun i hi=>?_,?_⟩
    . rw [pl1,e2]
      exact pl2 i (by omega)
    . rw [pl1,e2]
      exact jXK hp.1 (fun x h0 h1=>(zV7 hp x h0 h1).2) pl1 pl2 hc ne
  refine ⟨⟨⟨rfl,tJ,tr_1 _⟩,rfl⟩,⟨⟨rfl,tJ,tr_2 _⟩,rfl⟩,⟨⟨rfl,⟨⟨⟨⟨rfl,rfl,tJ⟩,p,g,rfl,gg⟩,rfl⟩,tJ,tJ⟩,tJ⟩,p,(ploT p (qT p (Tz p g))).drop 1,?_,tb⟩,cHP,rfl,rfl⟩
  show [PV.ob 0 p,.lst (cutP ((ploT p (qT p (Tz p g))).map PV.ints) (some 1) none)]=_
  rw [ed]
  rfl
def headN (c:Int):Int:=((c % 10 ^ 9) * (c % 10 ^ 9) + 40503) * 1103515245982451653 % (10 ^ 18 + 9)
theorem qV2 (c:Int):0 <= headN c:=by unfold headN; exact Int.emod_nonneg _ (by decide)
theorem jQZ (T:Top K mg cFE cHP cBA cBL cBP cBT cNO cNW cNP cNN cK cR):Ok P w K mg base 2 "_law_head" ["_law_script"] (spFI K (Gr cR) (fun as=>∃ ns,as=[.scr ns]) fun as=>match as with
    | [.scr ns]=>headN (ns.getD 0 0)
    | _=>0):=by
  refine okF T.d_head qZ3 (fun as ⟨a,h⟩=>by rw [h]; rfl) (fun f cdv A outer s H E hr=>⟨_,(yQ1 (yQ9 (i:=1) qZ3.nd rfl (Or.inl rfl) (yZ4 (xci (yW0 T) hr (yQ0 (xr 0) (yQ0 yQ2 yQ3))) (zJY yQ2 yQ2)))
 (yQ5 (yQX (yZ4 (yX4 (yJY (yX4 (xn 1) (xn 1)) yQ2) yQ2) (yJY (zJY yQ2 yQ2) yQ2))))),fun as hp=>?_⟩)
  obtain ⟨ns,rfl⟩:=hp
  refine ⟨⟨⟨⟨rfl,tJ,tJ⟩,tJ,rfl,by show (0:Int) <= 0; decide⟩,by walk_at "xs",by show (0:Int) < 10 ^ 9; decide⟩,fun n e=>?_⟩
  have e:n=ns.getD 0 0 % 10 ^ 9:=e
  have n0:0 <= n /\ n < 10 ^ 9:=by rw [e]; exact ⟨Int.emod_nonneg _ (by decide),Int.emod_lt_of_pos _ (by decide)⟩
  refine ⟨⟨⟨⟨⟨rfl,rfl,yHJ ⟨by show -(2:Int) ^ 64 < n; omega,by show n < (2:Int) ^ 64; omega⟩⟩,tJ⟩,tJ,yHJ (by decide)⟩,by walk_at "xs",by show (0:Int) < 10 ^ 18 + 9; decide⟩,?_⟩
  show PV.int ((n * n + 40503) * 1103515245982451653 % (10 ^ 18 + 9))=PV.int (headN (ns.getD 0 0))
  unfold headN
  rw [<- e]
theorem qWK (T:Top K mg cFE cHP cBA cBL cBP cBT cNO cNW cNP cNN cK cR):Ok P w K mg base 1 "_law_plain" ["_law_number","_law_size"] (spFI K (Gr cR) (fun as=>∃ n z,as=[.int n,.int z] /\ 0 < z) fun as=>match as with
    | [.int n,.int z]=>pl z n
    | _=>0):=by
  refine okF T.d_plain qWH (fun as ⟨a,b,h,_⟩=>by rw [h]; rfl) (fun f cdv A outer s H E hr=>⟨_,(yQ5 (yQX (yZ4 (xn 0) (xn 1)))),fun as hp=>?_⟩)
  obtain ⟨n,z,rfl,hz⟩:=hp
  refine ⟨⟨rfl,rfl,hz⟩,?_⟩
  show PV.int (n % z)=PV.int (pl z n)
  rw [yX6 hz]
theorem jZK (T:Top K mg cFE cHP cBA cBL cBP cBT cNO cNW cNP cNN cK cR):Ok P w K mg base 2 "_law_trim" ["_law_row","_law_size"] (spL K (Gr cR) (fun as=>∃ f z,as=[.ints f,.int z] /\ 0 < z /\ f.length <= 1000) fun as=>match as with
    | [.ints f,.int z]=>Tz z f
    | _=>[]):=by
  refine okL T.d_trim qZ5 (fun as ⟨a,b,h,_⟩=>by rw [h]; rfl) (fun f cdv A outer s H E hr=>⟨_,(yQ1 (qY6 (i:=0) qZ5.nd rfl rfl (N':=["_law_number","_law_size"]) (cap:=[some 1]) (yX3 rfl rfl rfl rfl ⟨⟨rfl,Or.inr (Or.inl rfl),(fun z=>nomatch (show (some NameKind.cell:Option NameKind)=some NameKind.local from z)),Or.inl rfl,_,rfl,rfl⟩,tJ⟩ ⟨rfl,tJ⟩ rfl) rfl (xl 0) (fun _ _ _=>(pg_name (i:=0) (show (["_law_number","_law_size"]:List Str).Nodup by decide +kernel) rfl (Or.inl rfl) (.inr rfl))) (fun _ _ _=>(xci (qWK T) hr (yQ0 (xn 0) (yQ0 (xn 1) yQ3)))) rfl)
 (yQ1 (yW3 PassesOwn.never (L2.PW.pt (zY0 (qQV (yJ2 0 T.b_len) yQ2) (zZ2 (yKK (yYV 0 (zQ3 yQ2) (fun _ _=>rfl)) yQ2))))
 (yQ5 (jZH 0)))
 (yQ5 (zQV 0)))),fun as hp=>?_⟩)
  obtain ⟨f,z,rfl,hz,hf⟩:=hp
  refine ⟨⟨rfl,hf,fun n _=>⟨⟨rfl,rfl,tJ⟩,n,z,rfl,hz⟩⟩,fun ns e=>?_⟩
  have e:ns=f.map (pl z):=e
  refine ⟨fun ρ=>∃ ms,ρ=[.ow (.ints ms),.fr (.int z)] /\ trimZ ms=trimZ ns,fun ρ=>(getL ρ 0).length,⟨ns,rfl,rfl⟩,?_⟩
  rintro ρ ⟨ms,rfl,hm⟩
  refine ⟨⟨⟨.inr (.inl rfl),tJ⟩,fun h=>⟨⟨.inr (.inl rfl),tJ,?_,?_⟩,tJ⟩⟩,fun q=>?_,fun q=>?_⟩
  . have h:0 < (ms.length:Int):=h
    show -(ms.length:Int) <= -1
    omega
  . show (-1:Int) < (ms.length:Int)
    omega
  . have q:0 < (ms.length:Int) /\ ms.getD (ixO ms.length (-1)) 0=0:=q
    have hne:ms ≠ []:=List.length_pos_iff.mp (by omega)
    rw [qJU ms hne] at q
    refine ⟨rfl,hne,⟨_,rfl,?_⟩,?_⟩
    . rw [<- hm]; exact zJW hne q.2
    . show ms.dropLast.length < ms.length
      rw [List.length_dropLast]
      omega
  . have q:¬ (0 < (ms.length:Int) /\ ms.getD (ixO ms.length (-1)) 0=0):=q
    refine ⟨rfl,?_⟩
    show ms=trimZ (f.map (pl z))
    rw [<- e,<- hm,zJV]
    rintro ⟨a,b⟩
    have:=lP a
    exact q ⟨by omega,by rw [qJU ms a]; exact b⟩
theorem zQ7 (T:Top K mg cFE cHP cBA cBL cBP cBT cNO cNW cNP cNN cK cR):Ok P w K mg base 3 "_law_times" ["_law_f","_law_g","_law_size"] (spL K (Gr cR) (fun as=>∃ f g z,as=[.ints f,.ints g,.int z] /\ 0 < z /\ f.length + g.length <= 1000 /\ (∀ m ∈ f,m.natAbs < 2 ^ 9000) /\ (∀ m ∈ g,m.natAbs < 2 ^ 9000)) fun as=>match as with
    | [.ints f,.ints g,.int z]=>Tz z (convL f g)
    | _=>[]):=by
  refine okL T.d_law_times yV5 (fun as ⟨a,b,c,h,_⟩=>by rw [h]; rfl) (fun f cdv A outer s H E hr=>⟨_,(yQ1 (yWK (i:=3) yV5.nd rfl (Or.inl rfl) (zQ6 (yZK (yQ0 yQ2 yQ3)) (yJY (yJ2 0 T.b_len) (yJ2 1 T.b_len)) (fun _=>rfl)))
 (yQ1 (yWY (k:=4) PassesOwn.never rfl (by rfl) T.b_range (yJ2 0 T.b_len) yV5.nd rfl (Or.inl rfl)
 (yQ5 (yWY (k:=5) PassesOwn.never rfl (by rfl) T.b_range (yJ2 1 T.b_len) yV5.nd rfl (Or.inl rfl)
 (yQ5 (yU8 3 (yJY (xn 4) (xn 5)) (yJY (yYV 3 (yJY (xn 4) (xn 5)) (fun _ _=>rfl)) (yX4 (yYV 0 (xn 4) (fun _ _=>rfl)) (yYV 1 (xn 5) (fun _ _=>rfl)))))))))
 (yJ4 3 (yQ5 (yJ6 (xcl (jZK T) hr (yQ0 (xl 3) (yQ0 (xn 2) yQ3)))))))),fun as hp=>?_⟩)
  obtain ⟨f,g,z,rfl,hz,hl,hf,hg⟩:=hp
  have en:((f.length:Int) + (g.length:Int)).toNat=f.length + g.length:=by omega
  refine ⟨⟨⟨⟨tJ,tJ⟩,tJ⟩,⟨.inl rfl,.inl rfl⟩,?_,?_⟩,fun r0 er0=>?_⟩
  . show -(2:Int) ^ 63 <= (f.length:Int) + (g.length:Int)
    omega
  . show ((f.length:Int) + (g.length:Int)).toNat <= 1000
    omega
  have er0:r0=List.replicate (f.length + g.length) 0:=by rw [<- en]; exact er0
  refine ⟨.inl rfl,⟨by show -(2:Int) ^ 62 <= (f.length:Int); omega,by show (f.length:Int) < 2 ^ 62; omega⟩,fun i ρ=>∃ row v1 v2,ρ=[.fr (.ints f),.fr (.ints g),.fr (.int z),.ow (.ints row),v1,v2] /\ RowAt f g i 0 row,⟨r0,.un,.un,rfl,by rw [er0]; exact zXU f g⟩,?_,?_⟩
  . rintro i ρ hi ⟨row,v1,v2,rfl,hr⟩
    have hi:i < f.length:=by have hi:i < (f.length:Int).toNat:=hi; omega
    refine ⟨.inl rfl,⟨by show -(2:Int) ^ 62 <= (g.length:Int); omega,by show (g.length:Int) < 2 ^ 62; omega⟩,fun j ρ=>∃ row v2,ρ=[.fr (.ints f),.fr (.ints g),.fr (.int z),.ow (.ints row),.fr (.int i),v2] /\ RowAt f g i j row,⟨row,v2,rfl,hr⟩,?_,?_⟩
    . rintro j ρ hj ⟨row,v2,rfl,hr⟩
      have hj:j < g.length:=by have hj:j < (g.length:Int).toNat:=hj; omega
      have l1:-(row.length:Int) <= (i:Int) + (j:Int):=by omega
      have l2:(i:Int) + (j:Int) < (row.length:Int):=by have:=hr.1; omega
      have ix:ixO row.length ((i:Int) + (j:Int))=i + j:=by unfold ixO; rw [if_pos (by omega)]; omega
      have xi:ixO f.length (i:Int)=i:=by unfold ixO; rw [if_pos (by omega)]; omega
      have xj:ixO g.length (j:Int)=j:=by unfold ixO; rw [if_pos (by omega)]; omega
      have mi:f.getD i 0 ∈ f:=FM.getD_mem hi
      have mj:g.getD j 0 ∈ g:=FM.getD_mem hj
      refine ⟨⟨⟨.inr (.inl rfl),⟨rfl,rfl⟩,l1,l2⟩,⟨.inl rfl,rfl,by show -(f.length:Int) <= (i:Int); omega,by show (i:Int) < (f.length:Int); omega⟩,⟨.inl rfl,rfl,by show -(g.length:Int) <= (j:Int); omega,by show (j:Int) < (g.length:Int); omega⟩,?_⟩,rfl,⟨rfl,rfl⟩,⟨l1,l2⟩,row.set (i + j) (row.getD (i + j) 0 + f.getD i 0 * g.getD j 0),.fr (.int j),?_,zH5 hr hi hj⟩
      . show IntMulOk (f.getD (ixO f.length (i:Int)) 0) (g.getD (ixO g.length (j:Int)) 0)
        rw [xi,xj]
        exact yU9 (n:=9000) (m:=9000) (hf _ mi) (hg _ mj)
      . show [Sl.fr (.ints f),.fr (.ints g),.fr (.int z),.ow (.ints (row.set (ixO row.length ((i:Int) + (j:Int))) (row.getD (ixO row.length ((i:Int) + (j:Int))) 0 + f.getD (ixO f.length (i:Int)) 0 * g.getD (ixO g.length (j:Int)) 0))),.fr (.int i),.fr (.int j)]=_
        rw [ix,xi,xj]
    . rintro ρ ⟨row,v2,rfl,hr⟩
      have e:(g.length:Int).toNat=g.length:=by omega
      have hr:RowAt f g i (g.length:Int).toNat row:=hr
      rw [e] at hr
      exact ⟨row,_,v2,rfl,zU1 hr⟩
  . rintro ρ ⟨row,v1,v2,rfl,hr⟩
    have e:(f.length:Int).toNat=f.length:=by omega
    have hr:RowAt f g (f.length:Int).toNat 0 row:=hr
    rw [e] at hr
    have er:=row_end hr
    refine ⟨⟨⟨rfl,rfl,tJ⟩,row,z,rfl,hz,?_⟩,?_⟩
    . rw [hr.1]; omega
    . show trimZ (row.map (pl z))=_
      rw [er]
      rfl
def badS (n:Int):Prop:=(n % 2=0 /\ 2 < n) \/ (n % 3=0 /\ 3 < n) \/ (n % 5=0 /\ 5 < n)
open Classical in
def smN:Nat -> Int -> Int
  | 0,n=>n
  | k + 1,n=>if badS n then smN k (n - 1) else n
theorem qW1 {n:Int} (h:¬ badS n):∀ k,smN k n=n
  | 0=>rfl
  | k + 1=>if_neg h
theorem qZ8:∀ (k:Nat) (n:Int),2 <= n -> n <= 31 -> n <= (k:Int) + 2 -> IsP (smN k n)
  | 0,n,h1,_,h3=>by
    have e:n=2:=by omega
    rw [e]
    exact isP2
  | k + 1,n,h1,h2,h3=>by
    unfold smN
    split
    . rename_i b
      have:2 < n:=by
        rcases b with b | b | b
        . exact b.2
        . have:=b.2; omega
        . have:=b.2; omega
      exact qZ8 k (n - 1) (by omega) (by omega) (by omega)
    . rename_i b
      refine ⟨h1,by omega,fun d d1 d2 z=>b ?_⟩
      have d5:d <= 5:=by
        refine Classical.byContradiction fun c=>?_
        have:=zYK (d:=6) (e:=d) (by omega) (by omega)
        omega
      have e:d=2 \/ d=3 \/ d=4 \/ d=5:=by omega
      rcases e with e | e | e | e <;> subst e
      . exact .inl ⟨z,by omega⟩
      . exact .inr (.inl ⟨z,by omega⟩)
      . exact .inl ⟨by omega,by omega⟩
      . exact .inr (.inr ⟨z,by omega⟩)
def smF (c:Int):Int:=smN 31 (2 + c % 30)
theorem qH3 (c:Int):IsP (smF c):=by
  have h1:=Int.emod_nonneg c (show (30:Int) ≠ 0 by decide)
  have h2:=Int.emod_lt_of_pos c (show (0:Int) < 30 by decide)
  exact qZ8 31 _ (by omega) (by omega) (by omega)
theorem zJ7 (T:Top K mg cFE cHP cBA cBL cBP cBT cNO cNW cNP cNN cK cR):Ok P w K mg base 1 "_law_small_prime" ["_law_cell"] (spFI K (Gr cR) (fun as=>∃ c,as=[.int c]) fun as=>match as with
    | [.int c]=>smF c
    | _=>0):=by
  refine okF T.d_small_prime yV9 (fun as ⟨a,h⟩=>by rw [h]; rfl) (fun f cdv A outer s H E hr=>⟨_,(yQ1 (yQ9 (i:=1) yV9.nd rfl (Or.inl rfl) (yJY yQ2 (yZ4 (xn 0) yQ2)))
 (yQ1 (yW3 PassesOwn.never (L2.PW.pt (zXX (L2.PW.pt (zY0 (yKK (yZ4 (xn 1) yQ2) yQ2) (zZ2 (qQV (xn 1) yQ2)))) (zXX (L2.PW.pt (zY0 (yKK (yZ4 (xn 1) yQ2) yQ2) (zZ2 (qQV (xn 1) yQ2)))) (zVK (L2.PW.pt (zY0 (yKK (yZ4 (xn 1) yQ2) yQ2) (zZ2 (qQV (xn 1) yQ2))))))))
 (yQ5 (yQ9 (i:=1) yV9.nd rfl (Or.inl rfl) (yY5 (xn 1) yQ2))))
 (yQ5 (yQX (xn 1))))),fun as hp=>?_⟩)
  obtain ⟨c,rfl⟩:=hp
  have h1:=Int.emod_nonneg c (show (30:Int) ≠ 0 by decide)
  have h2:=Int.emod_lt_of_pos c (show (0:Int) < 30 by decide)
  refine ⟨⟨tJ,rfl,tJ,by show (0:Int) < 30; decide⟩,fun n en=>?_⟩
  have en:n=2 + c % 30:=en
  refine ⟨fun ρ=>∃ n,∃ k:Nat,ρ=[.fr (.int c),.fr (.int n)] /\ (2 <= n /\ n <= 31) /\ n <= (k:Int) /\ smN k n=smF c,fun ρ=>(getI ρ 1).toNat,⟨n,31,rfl,⟨by omega,by omega⟩,by omega,by rw [en]; rfl⟩,?_⟩
  rintro ρ ⟨n,k,rfl,⟨n1,n2⟩,nk,ek⟩
  refine ⟨⟨⟨⟨⟨rfl,tJ,by show (0:Int) < 2; decide⟩,tJ⟩,fun _=>⟨rfl,tJ⟩⟩,fun _=>⟨⟨⟨⟨rfl,tJ,by show (0:Int) < 3; decide⟩,tJ⟩,fun _=>⟨rfl,tJ⟩⟩,fun _=>⟨⟨⟨rfl,tJ,by show (0:Int) < 5; decide⟩,tJ⟩,fun _=>⟨rfl,tJ⟩⟩⟩⟩,fun q=>?_,fun q=>?_⟩
  . have q:badS n:=q
    have n3:2 < n:=by
      rcases q with b | b | b
      . exact b.2
      . have:=b.2; omega
      . have:=b.2; omega
    obtain ⟨k,rfl⟩:∃ j,k=j + 1:=⟨k - 1,by omega⟩
    refine ⟨⟨rfl,tJ⟩,fun m em=>⟨⟨m,k,rfl,?_⟩,?_⟩⟩
    . have em:m=n - 1:=em
      rw [em]
      refine ⟨⟨by omega,by omega⟩,by omega,?_⟩
      rw [<- ek]
      exact (if_pos q).symm
    . have em:m=n - 1:=em
      show m.toNat < n.toNat
      omega
  . have q:¬ badS n:=q
    refine ⟨rfl,?_⟩
    show PV.int n=PV.int (smF c)
    rw [<- ek,qW1 q]
def stP (p n:Int):Nat -> List Int × Int
  | 0=>([],n)
  | i + 1=>((stP p n i).1 ++ [(stP p n i).2 / 3 % p],(stP p n i).2 / p)
theorem zX5 (p n:Int):∀ i,(stP p n i).1.length=i
  | 0=>rfl
  | i + 1=>by
    show ((stP p n i).1 ++ [_]).length=i + 1
    rw [List.length_append,zX5 p n i]
    rfl
theorem qQX {p:Int} (hp:2 <= p) (n:Int):∀ i,∀ m ∈ (stP p n i).1,pl p m=m
  | 0,m,hm=>by cases hm
  | i + 1,m,hm=>by
    rcases List.mem_append.mp hm with h | h
    . exact qQX hp n i m h
    . rw [List.mem_singleton.mp h,yX6 (by omega)]
      exact Int.emod_emod_of_dvd _ (Int.dvd_refl p)
def pcF (p c:Int):List Int:=(stP p (c % 10 ^ 60) (1 + c % 10 ^ 60 % 3).toNat).1 ++ [1]
structure PcOk (p:Int) (x:List Int):Prop where
  fo:Fo p x
  one:lastI x=1
  l2:2 <= x.length
  l4:x.length <= 4
theorem qUY {p:Int} (hp:2 <= p) (c:Int):PcOk p (pcF p c):=by
  unfold pcF
  have h1:=Int.emod_nonneg (c % 10 ^ 60) (show (3:Int) ≠ 0 by decide)
  have h2:=Int.emod_lt_of_pos (c % 10 ^ 60) (show (0:Int) < 3 by decide)
  generalize c % 10 ^ 60=n at *
  have sl:=zX5 p n (1 + n % 3).toNat
  have sr:=qQX hp n (1 + n % 3).toNat
  generalize (stP p n (1 + n % 3).toNat).1=l at *
  have one:lastI (l ++ [1])=1:=by
    show (l ++ [1]).getD ((l ++ [1]).length - 1) 0=1
    rw [zQY,if_pos (by rw [List.length_append,List.length_singleton]; omega)]
  refine ⟨⟨fun _=>by show lastI (l ++ [1]) ≠ 0; rw [one]; decide,fun n=>?_⟩,one,by rw [List.length_append,List.length_singleton]; omega,by rw [List.length_append,List.length_singleton]; omega⟩
  rw [zQY]
  split
  . exact zHZ hp
  . by_cases d:n < l.length
    . exact sr _ (FM.getD_mem d)
    . rw [yQ6 (by omega),pl_0]
theorem jV3 {p:Int} (hp:IsP p):p.natAbs.log2 < 9000:=by
  have p2:=hp.1
  have p3:=hp.2.1
  refine (Nat.log2_lt (by omega)).mpr ?_
  exact Nat.lt_of_le_of_lt (show p.natAbs <= 2 ^ 14 by omega) (Nat.pow_lt_pow_right (by decide) (by decide))
theorem zH3 (T:Top K mg cFE cHP cBA cBL cBP cBT cNO cNW cNP cNN cK cR):Ok P w K mg base 1 "_law_piece" ["_law_cell","_law_prime"] (spL K (Gr cR) (fun as=>∃ c p,as=[.int c,.int p] /\ IsP p) fun as=>match as with
    | [.int c,.int p]=>pcF p c
    | _=>[]):=by
  refine okL T.d_piece yUU (fun as ⟨a,b,h,_⟩=>by rw [h]; rfl) (fun f cdv A outer s H E hr=>⟨_,(yQ1 (yQ9 (i:=2) yUU.nd rfl (Or.inl rfl) (yZ4 (xn 0) (zJY yQ2 yQ2)))
 (yQ1 (yWK (i:=3) yUU.nd rfl (Or.inl rfl) (yZK yQ3))
 (yQ1 (yWY (k:=4) PassesOwn.never rfl (by rfl) T.b_range (yJY yQ2 (yZ4 (xn 2) yQ2)) yUU.nd rfl (Or.inl rfl)
 (yQ1 (zY7 3 (yZ4 (yVW (xn 2) yQ2) (xn 1)))
 (yQ5 (yQ9 (i:=2) yUU.nd rfl (Or.inl rfl) (yVW (xn 2) (xn 1))))))
 (yJ4 3 (yQ5 (yJ6 (zQU (xl 3) (newL (yZK (yQ0 yQ2 yQ3)))))))))),fun as hp=>?_⟩)
  obtain ⟨c,p,rfl,hp⟩:=hp
  have p0:0 < p:=by have:=hp.1; omega
  have lp:=jV3 hp
  refine ⟨⟨rfl,⟨tJ,tJ,by decide,by decide,by decide⟩,by show (0:Int) < 10 ^ 60; decide⟩,fun n en=>?_⟩
  have en:n=c % 10 ^ 60:=en
  have goal:pcF p c=(stP p n (1 + n % 3).toNat).1 ++ [1]:=by rw [en]; rfl
  clear en
  have h1:=Int.emod_nonneg n (show (3:Int) ≠ 0 by decide)
  have h2:=Int.emod_lt_of_pos n (show (0:Int) < 3 by decide)
  refine ⟨⟨tJ,tJ⟩,fun r0 er0=>?_⟩
  have er0:r0=[]:=er0
  refine yZZ (ρ':=[.fr (.int c),.fr (.int p),.fr (.int n),.ow (.ints r0),.un]) rfl ?_
  refine ⟨⟨tJ,rfl,tJ,by show (0:Int) < 3; decide⟩,⟨by show -(2:Int) ^ 62 <= 1 + n % 3; omega,by show 1 + n % 3 < (2:Int) ^ 62; omega⟩,fun i ρ=>∃ v4,ρ=[.fr (.int c),.fr (.int p),.fr (.int (stP p n i).2),.ow (.ints (stP p n i).1),v4],⟨.un,by rw [er0]; rfl⟩,?_,?_⟩
  . rintro i ρ hi ⟨v4,rfl⟩
    have hi:i < (1 + n % 3).toNat:=hi
    have sl:=zX5 p n i
    refine ⟨rfl,⟨⟨rfl,tJ,by decide,by show (3:Int).natAbs.log2 < 9000; decide +kernel⟩,rfl,p0⟩,?_,⟨⟨rfl,rfl,p0,lp⟩,fun m em=>⟨.fr (.int (i:Int)),?_⟩⟩⟩
    . show (stP p n i).1.length < sizeLine
      rw [sl]
      exact small1000 (by omega)
    . have em:m=(stP p n i).2 / p:=em
      rw [em]
      rfl
  . rintro ρ ⟨v4,rfl⟩
    have sl:=zX5 p n (1 + n % 3).toNat
    refine ⟨⟨rfl,⟨⟨tJ,tJ⟩,tJ⟩,Nat.le_of_lt (small1000 (by show (stP p n (1 + n % 3).toNat).1.length + 1 <= 1000; omega))⟩,?_⟩
    exact goal.symm
section
variable {X:Cx} {G:Gx} {a b el tg:Expr} {N':List Str} {sc:Scope} {cl:List (Str × Addr)} {cap:List (Option Nat)} {Ca C2 Cb:En -> Prop} {ga gb gi:En -> Int} {at':Pos}
theorem jQW {p pos':Pos} (L:LcOk X N' sc cl (none :: cap)) (hc:X.calm=true) (hgl:Gl X "range") (hm:X.mg "range"=none) (ha:PE X a (tXI X.K G Ca ga)) (hb:PE X b (tXI X.K G C2 gb)) (hg:∀ s H fp,PG (cxComp X N' sc cl s H fp) tg (gName 0)) (he:∀ s H fp,PE (cxComp X N' sc cl s H fp) el (tXI X.K G Cb gi))
    (hst:starEach [a,b] X.env=[(false,eval a X.env),(false,eval b X.env)]:=by rfl) (hs2:starEach [b] X.env=[(false,eval b X.env)]:=by rfl) (hs:∀ x,foldedSetIterable (.Call (.Name "range" p) [a,b] [] pos') X.env x=pure x:=by intro _; rfl) :
    PE X (.ListComp el [⟨tg,.Call (.Name "range" p) [a,b] [] pos',[],0⟩] sc at') (tXl X.K G (fun ρ=>(Ca ρ /\ C2 ρ) /\ (-(2 ^ 62) <= ga ρ /\ ga ρ < 2 ^ 62 /\ -(2 ^ 62) <= gb ρ /\ gb ρ < 2 ^ 62) /\ (gb ρ - ga ρ).toNat <= 1000 /\ ∀ k:Nat,k < (gb ρ - ga ρ).toNat -> Cb ((capR (none :: cap) ρ).set 0 (.fr (.int (ga ρ + k))))) fun ρ=>(List.range (gb ρ - ga ρ).toNat).map fun (k:Nat)=>gi ((capR (none :: cap) ρ).set 0 (.fr (.int (ga ρ + k))))) :=
  fun pins s σ H Q I h=>zV3 L hc (pi_range2 hgl hm (pa_cons ha (pa_cons hb pa_nil hs2) (by rw [hst,hs2])) hst hs2) hg (fun _ _ _=>yX0) he hs pins s σ H Q I (jVV (zY5 h))
end
def slL (f:List Int):List Int:=(List.range ((f.length:Int) - 1).toNat).map fun (k:Nat)=>(1 + (k:Int)) * f.getD (ixO f.length (1 + (k:Int))) 0
theorem qQY (f:List Int):(slL f).length <= f.length:=by
  unfold slL
  rw [List.length_map,List.length_range]
  omega
theorem zQ4 (T:Top K mg cFE cHP cBA cBL cBP cBT cNO cNW cNP cNN cK cR):Ok P w K mg base 1 "_law_slope" ["_law_f"] (spL K (Gr cR) (fun as=>∃ f,as=[.ints f] /\ f.length <= 400) fun as=>match as with
    | [.ints f]=>slL f
    | _=>[]):=by
  refine okL T.d_law_slope zXH (fun as ⟨a,h,_⟩=>by rw [h]; rfl) (fun f cdv A outer s H E hr=>⟨_,(yQ5 (yJ6 (jQW (N':=["_law_k","_law_f"]) (cap:=[some 0]) (yX3 rfl rfl rfl rfl ⟨⟨rfl,Or.inr (Or.inl rfl),(fun z=>nomatch (show (some NameKind.cell:Option NameKind)=some NameKind.local from z)),Or.inl rfl,_,rfl,rfl⟩,tJ⟩ ⟨rfl,tJ⟩ rfl) rfl (by rfl) T.b_range yQ2 (yJ2 0 T.b_len) (fun _ _ _=>(pg_name (i:=0) (show (["_law_k","_law_f"]:List Str).Nodup by decide +kernel) rfl (Or.inl rfl) (.inr rfl))) (fun _ _ _=>(yX4 (xn 0) (yYV 1 (xn 0) (fun _ _=>rfl))))))),fun as hp=>?_⟩)
  obtain ⟨f,rfl,hl⟩:=hp
  refine ⟨⟨⟨tJ,.inl rfl⟩,⟨by show -(2:Int) ^ 62 <= 1; decide,by show (1:Int) < 2 ^ 62; decide,by show -(2:Int) ^ 62 <= (f.length:Int); omega,by show (f.length:Int) < 2 ^ 62; omega⟩,by show ((f.length:Int) - 1).toNat <= 1000; omega,fun k hk=>?_⟩,rfl⟩
  have hk:k < ((f.length:Int) - 1).toNat:=hk
  exact ⟨rfl,⟨.inl rfl,rfl,by show -(f.length:Int) <= 1 + (k:Int); omega,by show 1 + (k:Int) < (f.length:Int); omega⟩,yKU ⟨by show -(2:Int) ^ 64 < 1 + (k:Int); omega,by show 1 + (k:Int) < (2:Int) ^ 64; omega⟩⟩
def tbR (ns:List Int) (p long:Int) (i k:Nat):List Int:=(List.range k).map fun (j:Nat)=>ns.getD (16 + (i:Int) * long + (j:Int)).toNat 0 % 10 ^ 18 % (3 * p) - p
theorem qWU (ns:List Int) (p long:Int) (i k:Nat):tbR ns p long i (k + 1)=tbR ns p long i k ++ [ns.getD (16 + (i:Int) * long + (k:Int)).toNat 0 % 10 ^ 18 % (3 * p) - p]:=by
  unfold tbR
  rw [List.range_succ,List.map_append]
  rfl
theorem qU4 {ns:List Int} {p long:Int} (hp:IsP p) (i k:Nat):(tbR ns p long i k).length=k /\ Bd (tbR ns p long i k):=by
  have p2:=hp.1
  have p3:=hp.2.1
  refine ⟨by unfold tbR; rw [List.length_map,List.length_range],fun m hm=>?_⟩
  obtain ⟨j,_,rfl⟩:=List.mem_map.mp hm
  have h1:=Int.emod_nonneg (ns.getD (16 + (i:Int) * long + (j:Int)).toNat 0 % 10 ^ 18) (show 3 * p ≠ 0 by omega)
  have h2:=Int.emod_lt_of_pos (ns.getD (16 + (i:Int) * long + (j:Int)).toNat 0 % 10 ^ 18) (show 0 < 3 * p by omega)
  refine Nat.lt_of_le_of_lt (m:=2 ^ 15) ?_ (Nat.pow_lt_pow_right (by decide) (by decide))
  generalize ns.getD (16 + (i:Int) * long + (j:Int)).toNat 0 % 10 ^ 18 % (3 * p)=x at *
  omega
def tbF (ns:List Int) (p:Int) (m:Nat) (l:Nat):Tab:=(List.range m).map fun i=>tbR ns p (l:Int) i l
theorem qVH (ns:List Int) (p:Int) (m l:Nat):tbF ns p (m + 1) l=tbF ns p m l ++ [tbR ns p (l:Int) m l]:=by
  unfold tbF
  rw [List.range_succ,List.map_append]
  rfl
theorem qW4 (T:Top K mg cFE cHP cBA cBL cBP cBT cNO cNW cNP cNN cK cR):Ok P w K mg base 2 "_law_table" ["_law_script","_law_prime","_law_many","_law_long"] (spF K (Gr cR) (fun as=>∃ ns p,∃ m l:Nat,as=[.scr ns,.int p,.int (m:Int),.int (l:Int)] /\ IsP p /\ m <= 50 /\ l <= 50) fun as=>match as with
    | [.scr ns,.int p,.int m,.int l]=>tabP (tbF ns p m.toNat l.toNat)
    | _=>.non):=by
  refine okF T.d_table yK4 (fun as ⟨a,b,c,d,h,_⟩=>by rw [h]; rfl) (fun f cdv A outer s H E hr=>⟨_,(yQ1 (zUH (i:=4) yK4.nd rfl (Or.inl rfl) (zUK yQ3))
 (yQ1 (yWY (k:=5) PassesOwn.never rfl (by rfl) T.b_range (xn 2) yK4.nd rfl (Or.inl rfl)
 (yQ1 (yWK (i:=6) yK4.nd rfl (Or.inl rfl) (yZK yQ3))
 (yQ1 (yWY (k:=7) PassesOwn.never rfl (by rfl) T.b_range (xn 3) yK4.nd rfl (Or.inl rfl)
 (yQ1 (yQ9 (i:=8) yK4.nd rfl (Or.inl rfl) (yZ4 (xci (yW0 T) hr (yQ0 (xr 0) (yQ0 (yJY (yJY yQ2 (yX4 (xn 5) (xn 3))) (xn 7)) yQ3))) (zJY yQ2 yQ2)))
 (yQ5 (zY7 6 (yY5 (yZ4 (xn 8) (yX4 yQ2 (xn 1))) (xn 1))))))
 (yJ4 6 (yQ5 (zU8 4 (xl 6)))))))
 (yJ4 4 (yQ5 (yQX (xv 4)))))),fun as hp=>?_⟩)
  obtain ⟨ns,p,m,l,rfl,hp,hm,hl⟩:=hp
  have p2:=hp.1
  have p3:=hp.2.1
  refine ⟨tJ,fun r0 er0=>?_⟩
  have er0:r0=[]:=er0
  refine yZZ (ρ':=[.fr (.scr ns),.fr (.int p),.fr (.int (m:Int)),.fr (.int (l:Int)),.ow (.lst r0),.un,.un,.un,.un]) rfl ?_
  refine ⟨rfl,⟨by show -(2:Int) ^ 62 <= (m:Int); omega,by show (m:Int) < 2 ^ 62; omega⟩,fun i ρ=>∃ v5 v6 v7 v8,ρ=[.fr (.scr ns),.fr (.int p),.fr (.int (m:Int)),.fr (.int (l:Int)),.ow (tabP (tbF ns p i l)),v5,v6,v7,v8],⟨.un,.un,.un,.un,by rw [er0]; rfl⟩,?_,?_⟩
  . rintro i ρ hi ⟨v5,v6,v7,v8,rfl⟩
    have hi:i < ((m:Nat):Int).toNat:=hi
    refine ⟨⟨tJ,tJ⟩,fun w0 ew0=>?_⟩
    have ew0:w0=[]:=ew0
    refine ⟨rfl,⟨by show -(2:Int) ^ 62 <= (l:Int); omega,by show (l:Int) < 2 ^ 62; omega⟩,fun k ρ=>∃ v7 v8,ρ=[.fr (.scr ns),.fr (.int p),.fr (.int (m:Int)),.fr (.int (l:Int)),.ow (tabP (tbF ns p i l)),.fr (.int (i:Int)),.ow (.ints (tbR ns p (l:Int) i k)),v7,v8],⟨v7,v8,by rw [ew0]; rfl⟩,?_,?_⟩
    . rintro k ρ hk ⟨v7,v8,rfl⟩
      have hk:k < ((l:Nat):Int).toNat:=hk
      have i0:0 <= (i:Int) * (l:Int):=Int.mul_nonneg (by omega) (by omega)
      refine ⟨⟨⟨⟨rfl,⟨⟨tJ,rfl,rfl,yKU ⟨by show -(2:Int) ^ 64 < (i:Int); omega,by show (i:Int) < (2:Int) ^ 64; omega⟩⟩,rfl⟩,tJ⟩,tJ,rfl,by show (0:Int) <= 16 + (i:Int) * (l:Int) + (k:Int); omega⟩,⟨tJ,tJ,by decide,by decide,by decide⟩,by show (0:Int) < 10 ^ 18; decide⟩,fun c ec=>?_⟩
      have ec:c=ns.getD (16 + (i:Int) * (l:Int) + (k:Int)).toNat 0 % 10 ^ 18:=ec
      obtain ⟨tl,_⟩:=qU4 (ns:=ns) (long:=(l:Int)) hp i k
      refine ⟨rfl,⟨⟨rfl,⟨tJ,rfl,yKU ⟨by decide,by decide⟩⟩,by show 0 < 3 * p; omega⟩,rfl⟩,?_,⟨.fr (.int (k:Int)),.fr (.int c),?_⟩⟩
      . show (tbR ns p (l:Int) i k).length < sizeLine
        rw [tl]
        exact small1000 (by omega)
      . rw [qWU,<- ec]
        rfl
    . rintro ρ ⟨v7,v8,rfl⟩
      have el:((l:Nat):Int).toNat=l:=by omega
      have fl:(tbF ns p i l).length=i:=by unfold tbF; rw [List.length_map,List.length_range]
      refine ⟨rfl,rfl,?_,⟨.fr (.int (i:Int)),.fr (.ints (tbR ns p (l:Int) i ((l:Nat):Int).toNat)),v7,v8,?_⟩⟩
      . show ((tbF ns p i l).map PV.ints).length < sizeLine
        rw [List.length_map,fl]
        exact small1000 (by omega)
      . have e:tabP (tbF ns p (i + 1) l)=.lst ((tbF ns p i l).map PV.ints ++ [.ints (tbR ns p (l:Int) i ((l:Nat):Int).toNat)]):=by
          rw [qVH,el]
          unfold tabP
          rw [List.map_append]
          rfl
        rw [e]
        rfl
  . rintro ρ ⟨v5,v6,v7,v8,rfl⟩
    exact ⟨rfl,rfl⟩
theorem okx {C a:Addr} {b:Bool} (k:ErrK K C) (h:PySem.W.kitOne K (.ref C) (.ref a)=some b):instOkX K (.ob 1 ((C:Nat):Int)) (.cls a):=.inr ⟨C,_,_,rfl,k,rfl,h⟩
theorem zK6 (T:Top K mg cFE cHP cBA cBL cBP cBT cNO cNW cNP cNN cK cR):Ok P w K mg base 1 "_law_no_other" ["_law_kept"] (spFB K (Gr cR) (fun as=>as=[.ob 1 ((cHP:Nat):Int)]) fun _=>true):=by
  refine okF T.d_no_other zW3 (fun as h=>by rw [h]; rfl) (fun f cdv A outer s H E hr=>⟨_,(yQ1 (yY3 (L2.PW.pt (zXX (xt_V (yKW yXH T.b_isinstance (xv 0) (yWJ (by rfl) T.m_BadAsk))) (zXX (xt_V (yKW yXH T.b_isinstance (xv 0) (yWJ (by rfl) T.m_BadLift))) (zVK (xt_V (yKW yXH T.b_isinstance (xv 0) (yWJ (by rfl) T.m_BadProduct)))))))
 (yQ5 (yQX qX2))
 yZJ)
 (yQ1 (yY3 (L2.PW.pt (zXX (xt_V (yKW yXH T.b_isinstance (xv 0) (yWJ (by rfl) T.m_BadText))) (zXX (xt_V (yKW yXH T.b_isinstance (xv 0) (yWJ (by rfl) T.m_NoOver))) (zVK (xt_V (yKW yXH T.b_isinstance (xv 0) (yWJ (by rfl) T.m_NoPower)))))))
 (yQ5 (yQX qX2))
 yZJ)
 (yQ5 (yQX (zKQ (qU7 (yKW yXH T.b_isinstance (xv 0) (yWJ (by rfl) T.m_NoPrime))) (pe_one (qU7 (yKW yXH T.b_isinstance (xv 0) (yWJ (by rfl) T.m_Nought))))))))),fun as hp=>?_⟩)
  subst hp
  have a1:instPX K (.ob 1 ((cHP:Nat):Int)) (.cls cBA)=false:=yZY rfl T.i_hp_BadAsk
  have a2:instPX K (.ob 1 ((cHP:Nat):Int)) (.cls cBL)=false:=yZY rfl T.i_hp_BadLift
  have a3:instPX K (.ob 1 ((cHP:Nat):Int)) (.cls cBP)=false:=yZY rfl T.i_hp_BadProduct
  have a4:instPX K (.ob 1 ((cHP:Nat):Int)) (.cls cBT)=false:=yZY rfl T.i_hp_BadText
  have a5:instPX K (.ob 1 ((cHP:Nat):Int)) (.cls cNO)=false:=yZY rfl T.i_hp_NoOver
  have a6:instPX K (.ob 1 ((cHP:Nat):Int)) (.cls cNW)=false:=yZY rfl T.i_hp_NoPower
  have a7:instPX K (.ob 1 ((cHP:Nat):Int)) (.cls cNP)=false:=yZY rfl T.i_hp_NoPrime
  have a8:instPX K (.ob 1 ((cHP:Nat):Int)) (.cls cNN)=false:=yZY rfl T.i_hp_Nought
  refine ⟨⟨⟨rfl,tJ,okx T.k_HasParts T.i_hp_BadAsk⟩,fun _=>⟨⟨rfl,tJ,okx T.k_HasParts T.i_hp_BadLift⟩,fun _=>⟨rfl,tJ,okx T.k_HasParts T.i_hp_BadProduct⟩⟩⟩,fun h=>?_,fun _=>?_⟩
  . have h:instPX K (.ob 1 ((cHP:Nat):Int)) (.cls cBA)=true \/ instPX K (.ob 1 ((cHP:Nat):Int)) (.cls cBL)=true \/ instPX K (.ob 1 ((cHP:Nat):Int)) (.cls cBP)=true:=h
    rw [a1,a2,a3] at h
    rcases h with h | h | h <;> cases h
  refine ⟨⟨⟨rfl,tJ,okx T.k_HasParts T.i_hp_BadText⟩,fun _=>⟨⟨rfl,tJ,okx T.k_HasParts T.i_hp_NoOver⟩,fun _=>⟨rfl,tJ,okx T.k_HasParts T.i_hp_NoPower⟩⟩⟩,fun h=>?_,fun _=>?_⟩
  . have h:instPX K (.ob 1 ((cHP:Nat):Int)) (.cls cBT)=true \/ instPX K (.ob 1 ((cHP:Nat):Int)) (.cls cNO)=true \/ instPX K (.ob 1 ((cHP:Nat):Int)) (.cls cNW)=true:=h
    rw [a4,a5,a6] at h
    rcases h with h | h | h <;> cases h
  refine ⟨⟨⟨rfl,tJ,okx T.k_HasParts T.i_hp_NoPrime⟩,fun _=>⟨rfl,tJ,okx T.k_HasParts T.i_hp_Nought⟩⟩,?_⟩
  show PV.bl (decide (¬ instPX K (.ob 1 ((cHP:Nat):Int)) (.cls cNP)=true /\ ¬ instPX K (.ob 1 ((cHP:Nat):Int)) (.cls cNN)=true))=PV.bl true
  rw [a7,a8]
  rfl
theorem qQ4 (T:Top K mg cFE cHP cBA cBL cBP cBT cNO cNW cNP cNN cK cR):Ok P w K mg base 10 "_law_refused" ["_law_kind","_law_g"] (spFB K (Gr cR) (fun as=>∃ p g,as=[.ob 0 p,.ints g] /\ Pr2 p (Tz p g) /\ DOk p g /\ g.length <= 60) fun _=>true):=by
  refine okF T.d_refused yH6 (fun as ⟨a,b,h,_⟩=>by rw [h]; rfl) (fun f cdv A outer s H E hr=>⟨_,(yQ1 (yZQ (i:=2) yH6.nd rfl (Or.inl rfl) qKJ)
 (yQ1 (jZ9 (i:=3) (j:=2) yXH (qWQ T) hr rfl rfl rfl rfl (by rfl) T.m_HasParts yH6.nd rfl rfl rfl rfl rfl (by decide) (by decide) (fun _ _=>(yQ0 (xv 0) (yQ0 (newL (yH8 T.b_list (xl 1) (fun _=>.inl rfl))) yQ3))))
 (yQ5 (yQX (zKQ (yKW yXH T.b_isinstance (xv 2) (yWJ (by rfl) T.m_ForgeError)) (zKQ (yKW yXH T.b_isinstance (xv 2) (jJ0 (by rfl) T.b_ValueError zX3)) (pe_one (xcb (zK6 T) hr (yQ0 (xv 2) yQ3))))))))),fun as hp=>?_⟩)
  obtain ⟨p,g,rfl,pr,dk,gl⟩:=hp
  refine ⟨tJ,fun v ev=>?_⟩
  have ev:v=.non:=ev
  subst ev
  refine ⟨⟨rfl,rfl,tJ⟩,⟨p,g,rfl,pr,dk,gl⟩,fun q eq=>?_,fun c ec=>?_⟩
  . have eq:Rs.err cHP=.val q:=eq
    cases eq
  have ec:Rs.err cHP=.err c:=ec
  cases ec
  have e1:instPX K (.ob 1 ((cHP:Nat):Int)) (.cls cFE)=true:=yZY rfl T.i_hp_fe
  have e2:instPX K (.ob 1 ((cHP:Nat):Int)) (.ty "ValueError")=true:=yZY rfl T.i_hp_ve
  refine ⟨T.y_hp,⟨⟨rfl,tJ,okx T.k_HasParts T.i_hp_fe⟩,fun _=>⟨⟨rfl,tJ,.inr ⟨cHP,_,_,rfl,T.k_HasParts,rfl,T.i_hp_ve⟩⟩,fun _=>⟨⟨rfl,tJ⟩,rfl⟩⟩⟩,?_⟩
  show PV.bl (decide (instPX K (.ob 1 ((cHP:Nat):Int)) (.cls cFE)=true /\ instPX K (.ob 1 ((cHP:Nat):Int)) (.ty "ValueError")=true /\ true=true))=PV.bl true
  rw [e1,e2]
  rfl
theorem prod2 {p:Int} {x y:List Int} (hp:IsP p) (hx:PcOk p x) (hy:PcOk p y):Pr2 p (Tz p (convL x y)) /\ (Tz p (convL x y)).length=x.length + y.length - 1:=by
  have p2:=hp.1
  have x2:=hx.l2
  have x4:=hx.l4
  have y2:=hy.l2
  have y4:=hy.l4
  have top:cm x y (x.length - 1 + (y.length - 1))=1:=by
    have:=qUQ (z:=0) (E:=x) (d:=y) (i:=x.length - 1) (by omega) (fun j hj=>by rw [yQ6 (by omega)]; exact Int.dvd_zero 0)
    have:=Int.zero_dvd.mp this
    have e:x.getD (x.length - 1) 0=1:=hx.one
    rw [e,hy.one] at this
    omega
  have gt:(Tz p (convL x y)).getD (x.length - 1 + (y.length - 1)) 0=1:=by rw [yZX,yQ4,top,zHZ p2]
  have le:(Tz p (convL x y)).length <= x.length + y.length - 1:=yKY (yZ0 p _) fun n hn=>by rw [yZX,yQ4,qHV (by omega),pl_0]
  have ge:x.length - 1 + (y.length - 1) < (Tz p (convL x y)).length:=by
    refine Classical.byContradiction fun c=>?_
    rw [yQ6 (by omega)] at gt
    cases gt
  have len:(Tz p (convL x y)).length=x.length + y.length - 1:=by omega
  have one:lastI (Tz p (convL x y))=1:=by
    show (Tz p (convL x y)).getD ((Tz p (convL x y)).length - 1) 0=1
    rw [len,show x.length + y.length - 1 - 1=x.length - 1 + (y.length - 1) by omega]
    exact gt
  have tz:Tz p (Tz p (convL x y))=Tz p (convL x y):=yU2 (yZ0 p _) (yX7 p _)
  refine ⟨⟨hp,zQX hp (yZ0 p _) (yX7 p _) (List.length_pos_iff.mp (by omega)) (by omega),tz,one,by omega,by omega,x,y,x2,hx.one,y2,hy.one,fun n=>?_⟩,len⟩
  rw [yZX,yQ4]
  exact yJ1 p _
theorem qK2 {p:Int} {b h:List Int} (tz:Tz p b=b) (e:∀ n,p ∣ h.getD n 0 - b.getD n 0):Tz p h=b:=by
  rw [<- tz]
  exact yV2 (yZ0 p _) (yZ0 p _) fun n=>by
    rw [yZX,yZX]
    exact (zZY p _ _).mpr (e n)
theorem qY3 {p:Int} {b h:List Int} (hp:IsP p) (d:DOk p b) (tz:Tz p b=b) (e:Tz p h=b) (hl:h.length <= 200):DOk p h:=⟨hp,hl,by rw [e,<- tz]; exact d.ne,by rw [e]; have:=d.gcd; rw [tz] at this; exact this⟩
structure LedOk (p:Int) (l:List Int):Prop where
  len:l.length <= 60
  l3:3 <= (Tz p l).length
  pr:lastI (Tz p l)=1 -> Pr2 p (Tz p l)
theorem jZ5 {p:Int} {b:List Int} (h:Pr2 p b):LedOk p b:=⟨by have:=h.l40; omega,by rw [h.tz]; exact h.l3,fun _=>by rw [h.tz]; exact h⟩
theorem jZ2 {p:Int} {b:List Int} (h:Pr2 p b):LedOk p (Tz p (convL b [p - 1])):=by
  have hp:=h.pr
  have p2:=hp.1
  have l3:=h.l3
  have l40:=h.l40
  have tz:Tz p (Tz p (convL b [p - 1]))=Tz p (convL b [p - 1]):=yU2 (yZ0 p _) (yX7 p _)
  have get:∀ n,(Tz p (convL b [p - 1])).getD n 0=pl p ((p - 1) * b.getD n 0):=fun n=>by rw [yZX,yQ4,yQK,cm_c]
  have top:(Tz p (convL b [p - 1])).getD (b.length - 1) 0=p - 1:=by
    rw [get,show b.getD (b.length - 1) 0=1 from h.one,Int.mul_one,yX6 (by omega)]
    exact Int.emod_eq_of_lt (by omega) (by omega)
  have le:(Tz p (convL b [p - 1])).length <= b.length:=yKY (yZ0 p _) fun n hn=>by rw [get,yQ6 hn,Int.mul_zero,pl_0]
  have ge:b.length - 1 < (Tz p (convL b [p - 1])).length:=by
    refine Classical.byContradiction fun c=>?_
    rw [yQ6 (by omega)] at top
    omega
  refine ⟨by omega,by rw [tz]; omega,fun z=>?_⟩
  rw [tz] at z ⊢
  have z:(Tz p (convL b [p - 1])).getD ((Tz p (convL b [p - 1])).length - 1) 0=1:=z
  rw [show (Tz p (convL b [p - 1])).length - 1=b.length - 1 by omega,top] at z
  have e:Tz p (convL b [p - 1])=b:=by
    conv=>rhs; rw [<- h.tz]
    refine yV2 (yZ0 p _) (yZ0 p _) fun n=>?_
    rw [get,yZX,z,Int.one_mul]
  rw [e]
  exact h
structure AbOk (a:List Int):Prop where
  len:a.length <= 100
  bd:Bd a
theorem jY1 {p:Int} {f g:List Int} (hp:IsP p) (hf:f.length <= 60) (hg:g.length <= 60):AbOk (shF p f g).2.1 /\ AbOk (shF p f g).2.2:=by
  obtain ⟨I,_,_,l2,l3⟩:=qU0 (p:=p) (f:=f) (g:=g) (N:=61) hp (by decide) (by omega) (by omega)
  exact ⟨⟨by omega,I.f2.bd hp⟩,⟨by omega,I.f3.bd hp⟩⟩
structure RtOk (r:Tab):Prop where
  len:r.length <= 100
  each:∀ x ∈ r,x.length <= 100 /\ Bd x
theorem jY5 {ns:List Int} {p:Int} {m l:Nat} (hp:IsP p) (hm:m <= 50) (hl:l <= 50):RtOk (tbF ns p m l):=by
  refine ⟨by unfold tbF; rw [List.length_map,List.length_range]; omega,fun x hx=>?_⟩
  obtain ⟨i,_,rfl⟩:=List.mem_map.mp hx
  obtain ⟨a,b⟩:=qU4 (ns:=ns) (long:=(l:Int)) hp i l
  exact ⟨by omega,b⟩
theorem pm1 {k:Int} (h0:0 <= k) (h1:k < 2):([1,-1]:List Int).getD (ixO 2 k) 0=1 \/ ([1,-1]:List Int).getD (ixO 2 k) 0 = -1:=by
  have e:k=0 \/ k=1:=by omega
  rcases e with e | e <;> subst e
  . exact .inl rfl
  . exact .inr rfl
theorem qU8 {p:Int} (hp:IsP p) (l:List Int) (g:Int -> Int):Bd (l.map fun n=>g n % p):=fun m hm=>by
  obtain ⟨n,_,rfl⟩:=List.mem_map.mp hm
  have p2:=hp.1
  have p3:=hp.2.1
  have h1:=Int.emod_nonneg (g n) (show p ≠ 0 by omega)
  have h2:=Int.emod_lt_of_pos (g n) (show 0 < p by omega)
  exact yV7 ⟨h1,by omega⟩
def hdF (p k:Int) (g:List Int):List Int:=(g.mapIdx fun (i:Nat) (n:Int)=>n + p * ((i:Int) % 3 - 1)) ++ List.replicate k.toNat p
theorem qHK (p k:Int) (g:List Int) (n:Nat):p ∣ (hdF p k g).getD n 0 - g.getD n 0:=by
  unfold hdF
  by_cases c:n < g.length
  . rw [gQ,List.getElem?_append_left (by rw [List.length_mapIdx]; exact c),List.getElem?_mapIdx,List.getElem?_eq_getElem c,yQQ c]
    exact ⟨(n:Int) % 3 - 1,by show g[n] + p * ((n:Int) % 3 - 1) - g[n]=_; omega⟩
  . rw [yQ6 (xs:=g) (by omega),Int.sub_zero,gQ,List.getElem?_append_right (by rw [List.length_mapIdx]; omega),List.getElem?_replicate]
    split
    . exact Int.dvd_refl p
    . exact Int.dvd_zero p
theorem jYQ (T:Top K mg cFE cHP cBA cBL cBP cBT cNO cNW cNP cNN cK cR) {f:Addr} {fd:FuncData} (F:Fun K "law" "law" qQ0 f fd):FnOk P w K mg base CX0 12 f fd ["_law_script"] (spLaw2 K):=by
  refine lawF2 (G:=Gr cR) F yZW (fun cdv A outer s H E hr=>⟨_,(yQ1 (yQ9 (i:=1) yZW.nd rfl (Or.inl rfl) (xci (jQZ T) hr (yQ0 (xr 0) yQ3)))
 (yQ1 (yQ9 (i:=2) yZW.nd rfl (Or.inr rfl) (xci (zJ7 T) hr (yQ0 (xci (yW0 T) hr (yQ0 (xr 0) (yQ0 yQ2 yQ3))) yQ3)))
 (yX9 (yY3 (yKK (yZ4 (xn 1) yQ2) yQ2)
 (yQ5 (yQ9 (i:=2) yZW.nd rfl (Or.inr rfl) (yJY yQ2 (yZ4 (yVW (xn 1) yQ2) yQ2))))
 yZJ)
 (yQ1 (yZQ (i:=3) yZW.nd rfl (Or.inl rfl) (xk_R (qWW T) hr gRE (xn 2)))
 (yQ1 (yZ1 (i:=4) yZW.nd rfl (Or.inl rfl) (newL (xcl (zH3 T) hr (yQ0 (xci (yW0 T) hr (yQ0 (xr 0) (yQ0 yQ2 yQ3))) (yQ0 (xn 2) yQ3)))))
 (yQ1 (yZ1 (i:=5) yZW.nd rfl (Or.inl rfl) (newL (xcl (zH3 T) hr (yQ0 (xci (yW0 T) hr (yQ0 (xr 0) (yQ0 yQ2 yQ3))) (yQ0 (xn 2) yQ3)))))
 (yX9 (yY3 (yKK (yZ4 (yVW (xn 1) yQ2) yQ2) yQ2)
 (yQ5 (yZ1 (i:=5) yZW.nd rfl (Or.inl rfl) (newL (yH8 T.b_list (xl 4) (fun _=>.inl rfl)))))
 yZJ)
 (yQ1 (yZ1 (i:=6) yZW.nd rfl (Or.inl rfl) (newL (xcl (zQ7 T) hr (yQ0 (xl 4) (yQ0 (xl 5) (yQ0 (xn 2) yQ3))))))
 (yQ1 (yQ9 (i:=7) yZW.nd rfl (Or.inl rfl) (yY5 (yJ2 6 T.b_len) yQ2))
 (yQ1 (yQ9 (i:=8) yZW.nd rfl (Or.inl rfl) (yY5 (yJ2 6 T.b_len) yQ2))
 (yX9 (yY3 (yKK (yZ4 (yVW (xn 1) yQ2) yQ2) yQ2)
 (yQ5 (yQ9 (i:=7) yZW.nd rfl (Or.inl rfl) (yJY (xn 7) (zW5 (yQJ (newL (yZK (yQ0 yQ2 (yQ0 (zQ3 yQ2) yQ3)))) (yZ4 (yVW (xn 1) yQ2) yQ2) (fun _ _=>rfl))))))
 yZJ)
 (yX9 (yY3 (yKK (yZ4 (yVW (xn 1) yQ2) yQ2) yQ2)
 (yQ5 (yQ9 (i:=8) yZW.nd rfl (Or.inl rfl) (yJY (xn 8) (zW5 (yQJ (newL (yZK (yQ0 yQ2 (yQ0 (zQ3 yQ2) yQ3)))) (yZ4 (yVW (xn 1) yQ2) yQ2) (fun _ _=>rfl))))))
 yZJ)
 (yQ1 (yZQ (i:=9) yZW.nd rfl (Or.inl rfl) (xc (qW4 T) hr (yQ0 (xr 0) (yQ0 (xn 2) (yQ0 (xn 7) (yQ0 (xn 8) yQ3))))))
 (yX9 (yY3 (L2.PW.pt (zY0 (yKK (yJ2 6 T.b_len) yQ2) (zY0 (jXU hr.units (rdX (xl 4)) (rdX (xl 5))) (zZ2 (yKK (yZ4 (yVW (xn 1) yQ2) yQ2) yQ2)))))
 (yQ5 (yZQ (i:=9) yZW.nd rfl (Or.inl rfl) (newP (zUK (yQ0 (newL (yZK (yQ0 yQ2 yQ3))) (yQ0 (newL (yZK (yQ0 (yY5 (xn 2) yQ2) yQ3))) yQ3))))))
 yZJ)
 (yQ1 (zU4 (i:=10) yZW.nd rfl rfl (N':=["_law_cell","_law_prime"]) (cap:=[some 2]) (yX3 rfl rfl rfl rfl ⟨⟨rfl,Or.inr (Or.inl rfl),(fun z=>nomatch (show (some NameKind.cell:Option NameKind)=some NameKind.local from z)),Or.inl rfl,_,rfl,rfl⟩,tJ⟩ ⟨rfl,tJ⟩ rfl) rfl (newL (yV6 (xr 0) (yJX yQ2) (yJX yQ2) (fun _ _=>.inr rfl))) (fun _ _ _=>(pg_name (i:=0) (show (["_law_cell","_law_prime"]:List Str).Nodup by decide +kernel) rfl (Or.inl rfl) (.inr rfl))) (fun _ _ _=>(yZ4 (yZ4 (xn 0) (zJY yQ2 yQ2)) (xn 1))) rfl)
 (yQ1 (zU4 (i:=11) yZW.nd rfl rfl (N':=["_law_cell","_law_prime"]) (cap:=[some 2]) (yX3 rfl rfl rfl rfl ⟨⟨rfl,Or.inr (Or.inl rfl),(fun z=>nomatch (show (some NameKind.cell:Option NameKind)=some NameKind.local from z)),Or.inl rfl,_,rfl,rfl⟩,tJ⟩ ⟨rfl,tJ⟩ rfl) rfl (newL (yV6 (xr 0) (yJX yQ2) (yJX yQ2) (fun _ _=>.inr rfl))) (fun _ _ _=>(pg_name (i:=0) (show (["_law_cell","_law_prime"]:List Str).Nodup by decide +kernel) rfl (Or.inl rfl) (.inr rfl))) (fun _ _ _=>(yZ4 (yZ4 (xn 0) (zJY yQ2 yQ2)) (xn 1))) rfl)
 (yX9 (yY3 (yKK (yZ4 (yVW (xn 1) yQ2) yQ2) yQ2)
 (yQ5 (zH7 (xc (zZ1 T) hr (yQ0 (xv 3) (yQ0 (newL (yH8 T.b_list (xl 6) (fun _=>.inl rfl))) (yQ0 (newL (xcl (zQ4 T) hr (yQ0 (xl 6) yQ3))) yQ3)))) (pg_tup rfl (pgs_cons (pg_name (i:=12) yZW.nd rfl (Or.inl rfl)) (pgs_cons (pg_name (i:=10) yZW.nd rfl (Or.inl rfl)) (pgs_cons (pg_name (i:=11) yZW.nd rfl (Or.inl rfl)) pgs_nil))))))
 yZJ)
 (yX9 (yY3 (yKK (yZ4 (yVW (xn 1) yQ2) yQ2) yQ2)
 (yQ5 (zH7 (xc (zZ1 T) hr (yQ0 (xv 3) (yQ0 (newL (yH8 T.b_list (xl 4) (fun _=>.inl rfl))) (yQ0 (newL (xcl (zQ4 T) hr (yQ0 (xl 4) yQ3))) yQ3)))) (pg_tup rfl (pgs_cons (pg_name (i:=12) yZW.nd rfl (Or.inl rfl)) (pgs_cons (pg_name (i:=10) yZW.nd rfl (Or.inl rfl)) (pgs_cons (pg_name (i:=11) yZW.nd rfl (Or.inl rfl)) pgs_nil))))))
 yZJ)
 (yQ1 (yZ1 (i:=13) yZW.nd rfl (Or.inl rfl) (xl 6))
 (yX9 (yY3 (yKK (yZ4 (yVW (xn 1) yQ2) yQ2) yQ2)
 (yQ5 (yZ1 (i:=13) yZW.nd rfl (Or.inl rfl) (newL (xcl (zQ7 T) hr (yQ0 (xl 6) (yQ0 (newL (yZK (yQ0 (yY5 (xn 2) yQ2) yQ3))) (yQ0 (xn 2) yQ3)))))))
 yZJ)
 (yQ1 (yY3 (qH1 (xcb (qW0 T) hr (yQ0 (xv 3) (yQ0 (newL (yH8 T.b_list (xl 13) (fun _=>.inl rfl))) (yQ0 (zQK (yQ0 (xl 10) (yQ0 (xl 11) (yQ0 (xv 9) yQ3)))) yQ3)))))
 (yQ5 (yQX qX2))
 yZJ)
 (yQ5 (yQX (xcb (qQ4 T) hr (yQ0 (xv 3) (yQ0 (newL (zQU (newL (qUK (N':=["_law_k","_law_number","_law_prime"]) (cap:=[some 2]) (yX3 rfl rfl rfl rfl ⟨⟨rfl,Or.inr (Or.inl rfl),(fun z=>nomatch (show (some NameKind.cell:Option NameKind)=some NameKind.local from z)),Or.inl rfl,_,rfl,rfl⟩,tJ⟩ ⟨rfl,tJ⟩ rfl) rfl (by rfl) T.b_enumerate (xl 6) (fun _ _ _=>(pg_tup rfl (pgs_cons (pg_name (i:=0) (show (["_law_k","_law_number","_law_prime"]:List Str).Nodup by decide +kernel) rfl (Or.inl rfl) (.inr rfl)) (pgs_cons (pg_name (i:=1) (show (["_law_k","_law_number","_law_prime"]:List Str).Nodup by decide +kernel) rfl (Or.inl rfl) (.inr rfl)) pgs_nil)))) (fun _ _ _=>(yJY (xn 1) (yX4 (xn 2) (yY5 (yZ4 (xn 0) yQ2) yQ2)))))) (newL (zQ6 (yZK (yQ0 (xn 2) yQ3)) (yZ4 (xn 1) yQ2) (fun _=>rfl))))) yQ3)))))))))))))))))))))))))),fun ns h63 hbits=>?_⟩)
  refine ⟨⟨⟨rfl,tJ⟩,ns,rfl⟩,fun hd ehd=>?_⟩
  have ehd:hd=headN (ns.getD 0 0):=ehd
  have hd0:0 <= hd:=by rw [ehd]; exact qV2 _
  clear ehd
  refine ⟨⟨⟨⟨⟨rfl,tJ,tJ⟩,tJ,rfl,by show (0:Int) <= 1; decide⟩,tJ⟩,_,rfl⟩,fun p0 ep0=>?_⟩
  have ep0:p0=smF (ns.getD 1 0):=ep0
  have hp0:IsP p0:=by rw [ep0]; exact qH3 _
  clear ep0
  have dv:∀ k:Int,0 < k -> k <= 1000 -> CDivB hd k:=fun k k0 k1=>⟨k0,(Nat.log2_lt (by omega)).mpr (Nat.lt_of_le_of_lt (show k.natAbs <= 2 ^ 10 by omega) (Nat.pow_lt_pow_right (by decide) (by decide)))⟩
  refine yZZ (ρ':=[.fr (.scr ns),.fr (.int hd),.fr (.int p0),.un,.un,.un,.un,.un,.un,.un,.un,.un,.un,.un]) rfl ?_
  refine ⟨fun ρ=>∃ p,ρ=[.fr (.scr ns),.fr (.int hd),.fr (.int p),.un,.un,.un,.un,.un,.un,.un,.un,.un,.un,.un] /\ IsP p,⟨⟨⟨rfl,tJ,by show (0:Int) < 2; decide⟩,tJ⟩,fun _=>?_,fun _=>⟨p0,rfl,hp0⟩⟩,?_⟩
  . refine ⟨⟨tJ,⟨rfl,tJ,dv 2 (by decide) (by decide)⟩,tJ,by show (0:Int) < 2; decide⟩,fun v ev=>⟨v,rfl,?_⟩⟩
    have ev:v=2 + hd / 2 % 2:=ev
    have h1:=Int.emod_nonneg (hd / 2) (show (2:Int) ≠ 0 by decide)
    have h2:=Int.emod_lt_of_pos (hd / 2) (show (0:Int) < 2 by decide)
    have e:v=2 \/ v=3:=by omega
    rcases e with e | e <;> rw [e]
    . exact isP2
    . exact isP3
  clear hp0
  rintro ρ ⟨p,rfl,hp⟩
  have p2:=hp.1
  have p3:=hp.2.1
  refine ⟨⟨rfl,hp⟩,fun kd ekd=>?_⟩
  have ekd:kd=.ob 0 p:=ekd
  subst ekd
  refine ⟨⟨⟨⟨⟨rfl,tJ,tJ⟩,tJ,rfl,by show (0:Int) <= 2; decide⟩,rfl,tJ⟩,_,p,rfl,hp⟩,fun x ex=>?_⟩
  have ex:x=pcF p (ns.getD 2 0):=ex
  have hx:PcOk p x:=by rw [ex]; exact qUY p2 _
  clear ex
  refine ⟨⟨⟨⟨⟨rfl,tJ,tJ⟩,tJ,rfl,by show (0:Int) <= 3; decide⟩,rfl,tJ⟩,_,p,rfl,hp⟩,fun y0 ey0=>?_⟩
  have ey0:y0=pcF p (ns.getD 3 0):=ey0
  have hy0:PcOk p y0:=by rw [ey0]; exact qUY p2 _
  clear ey0
  refine yZZ (ρ':=[.fr (.scr ns),.fr (.int hd),.fr (.int p),.fr (.ob 0 p),.fr (.ints x),.fr (.ints y0),.un,.un,.un,.un,.un,.un,.un,.un]) rfl ?_
  refine ⟨fun ρ=>∃ y,ρ=[.fr (.scr ns),.fr (.int hd),.fr (.int p),.fr (.ob 0 p),.fr (.ints x),.fr (.ints y),.un,.un,.un,.un,.un,.un,.un,.un] /\ PcOk p y,⟨⟨⟨⟨rfl,tJ,dv 4 (by decide) (by decide)⟩,tJ,by show (0:Int) < 3; decide⟩,tJ⟩,fun _=>?_,fun _=>⟨y0,rfl,hy0⟩⟩,?_⟩
  . refine ⟨rfl,fun v ev=>⟨v,rfl,?_⟩⟩
    have ev:v=x:=ev
    rw [ev]
    exact hx
  clear hy0
  rintro ρ ⟨y,rfl,hy⟩
  have x2:=hx.l2
  have x4:=hx.l4
  have y2:=hy.l2
  have y4:=hy.l4
  have xb:Bd x:=hx.fo.bd hp
  have yb:Bd y:=hy.fo.bd hp
  obtain ⟨PR,gl⟩:=prod2 hp hx hy
  refine ⟨⟨⟨rfl,rfl,rfl,tJ⟩,x,y,p,rfl,by omega,by omega,xb,yb⟩,fun g eg=>?_⟩
  have eg:g=Tz p (convL x y):=eg
  rw [<- eg] at PR gl
  clear eg
  have gb:Bd g:=(⟨by have:=PR.tz; rw [<- this]; exact yZ0 p g,fun n=>by have:=yX7 p g n; rw [PR.tz] at this; exact this⟩:Fo p g).bd hp
  refine ⟨⟨.inl rfl,tJ⟩,fun m0 em0=>?_⟩
  have em0:m0=(g.length:Int) - 1:=em0
  refine ⟨⟨.inl rfl,tJ⟩,fun l0 el0=>?_⟩
  have el0:l0=(g.length:Int) - 2:=el0
  refine yZZ (ρ':=[.fr (.scr ns),.fr (.int hd),.fr (.int p),.fr (.ob 0 p),.fr (.ints x),.fr (.ints y),.fr (.ints g),.fr (.int m0),.fr (.int l0),.un,.un,.un,.un,.un]) rfl ?_
  have q0:=Int.emod_nonneg (hd / 60) (show (2:Int) ≠ 0 by decide)
  have q1:=Int.emod_lt_of_pos (hd / 60) (show (0:Int) < 2 by decide)
  have pq:=pm1 q0 q1
  refine ⟨fun ρ=>∃ m:Nat,ρ=[.fr (.scr ns),.fr (.int hd),.fr (.int p),.fr (.ob 0 p),.fr (.ints x),.fr (.ints y),.fr (.ints g),.fr (.int (m:Int)),.fr (.int l0),.un,.un,.un,.un,.un] /\ m <= 50,⟨⟨⟨⟨rfl,tJ,dv 12 (by decide) (by decide)⟩,tJ,by show (0:Int) < 5; decide⟩,tJ⟩,fun _=>?_,fun _=>?_⟩,?_⟩
  . refine ⟨⟨rfl,⟨⟨⟨tJ,tJ,tJ⟩,tJ⟩,⟨⟨rfl,tJ,dv 60 (by decide) (by decide)⟩,tJ,by show (0:Int) < 2; decide⟩,⟨by show -(2:Int) <= hd / 60 % 2; omega,by show hd / 60 % 2 < (2:Int); omega⟩⟩,rfl⟩,fun v ev=>?_⟩
    have ev:v=m0 + ([1,-1]:List Int).getD (ixO 2 (hd / 60 % 2)) 0:=ev
    obtain ⟨m,rfl⟩:∃ m:Nat,v=(m:Int):=⟨v.toNat,by omega⟩
    exact ⟨m,rfl,by omega⟩
  . obtain ⟨m,rfl⟩:∃ m:Nat,m0=(m:Int):=⟨m0.toNat,by omega⟩
    exact ⟨m,rfl,by omega⟩
  clear em0
  rintro ρ ⟨m,rfl,hm⟩
  refine ⟨fun ρ=>∃ l:Nat,ρ=[.fr (.scr ns),.fr (.int hd),.fr (.int p),.fr (.ob 0 p),.fr (.ints x),.fr (.ints y),.fr (.ints g),.fr (.int (m:Int)),.fr (.int (l:Int)),.un,.un,.un,.un,.un] /\ l <= 50,⟨⟨⟨⟨rfl,tJ,dv 12 (by decide) (by decide)⟩,tJ,by show (0:Int) < 5; decide⟩,tJ⟩,fun _=>?_,fun _=>?_⟩,?_⟩
  . refine ⟨⟨rfl,⟨⟨⟨tJ,tJ,tJ⟩,tJ⟩,⟨⟨rfl,tJ,dv 60 (by decide) (by decide)⟩,tJ,by show (0:Int) < 2; decide⟩,⟨by show -(2:Int) <= hd / 60 % 2; omega,by show hd / 60 % 2 < (2:Int); omega⟩⟩,rfl⟩,fun v ev=>?_⟩
    have ev:v=l0 + ([1,-1]:List Int).getD (ixO 2 (hd / 60 % 2)) 0:=ev
    obtain ⟨l,rfl⟩:∃ l:Nat,v=(l:Int):=⟨v.toNat,by omega⟩
    exact ⟨l,rfl,by omega⟩
  . obtain ⟨l,rfl⟩:∃ l:Nat,l0=(l:Int):=⟨l0.toNat,by omega⟩
    exact ⟨l,rfl,by omega⟩
  clear el0 pq
  rintro ρ ⟨l,rfl,hl⟩
  refine ⟨⟨⟨rfl,rfl,rfl,rfl,tJ⟩,ns,p,m,l,rfl,hp,hm,hl⟩,fun rt ert=>?_⟩
  have ert:rt=tabP (tbF ns p m l):=ert
  subst ert
  have RT0:=jY5 (ns:=ns) hp hm hl
  generalize tbF ns p m l=R0 at *
  refine yZZ (ρ':=[.fr (.scr ns),.fr (.int hd),.fr (.int p),.fr (.ob 0 p),.fr (.ints x),.fr (.ints y),.fr (.ints g),.fr (.int (m:Int)),.fr (.int (l:Int)),.fr (tabP R0),.un,.un,.un,.un]) rfl ?_
  refine ⟨fun ρ=>∃ R,ρ=[.fr (.scr ns),.fr (.int hd),.fr (.int p),.fr (.ob 0 p),.fr (.ints x),.fr (.ints y),.fr (.ints g),.fr (.int (m:Int)),.fr (.int (l:Int)),.fr (tabP R),.un,.un,.un,.un] /\ RtOk R,⟨⟨⟨.inl rfl,tJ⟩,fun _=>⟨⟨rfl,rfl⟩,fun _=>⟨⟨⟨rfl,tJ,dv 960 (by decide) (by decide)⟩,tJ,by show (0:Int) < 2; decide⟩,tJ⟩⟩⟩,fun _=>?_,fun _=>⟨R0,rfl,RT0⟩⟩,?_⟩
  . refine ⟨⟨⟨⟨tJ,tJ⟩,tJ⟩,⟨⟨⟨rfl,tJ⟩,tJ⟩,tJ⟩,tJ⟩,fun v ev=>⟨[[0],[p - 1]],?_,⟨by show 2 <= 100; decide,fun z hz=>?_⟩⟩⟩
    . have ev:v=tabP [[0],[p - 1]]:=ev
      rw [ev]
      rfl
    . simp only [List.mem_cons,List.not_mem_nil,or_false] at hz
      rcases hz with rfl | rfl
      . exact ⟨by show 1 <= 100; decide,fun k hk=>by rw [List.mem_singleton.mp hk]; exact yV7 ⟨by decide,by decide⟩⟩
      . exact ⟨by show 1 <= 100; decide,fun k hk=>by rw [List.mem_singleton.mp hk]; exact yV7 ⟨by omega,by omega⟩⟩
  clear RT0
  rintro ρ ⟨R,rfl,RT⟩
  have c4:=yH3 ns (some 4) (some 10)
  have c5:=yH3 ns (some 10) (some 16)
  refine ⟨⟨⟨rfl,tJ,tJ⟩,by show (cutI ns (some 4) (some 10)).length <= 1000; omega,fun n hn=>⟨⟨rfl,⟨tJ,tJ,by decide,by decide,by decide⟩,by show (0:Int) < 10 ^ 18; decide⟩,rfl,by show 0 < p; omega⟩⟩,fun a0 ea0=>?_⟩
  have ea0:a0=(cutI ns (some 4) (some 10)).map fun n=>n % 10 ^ 18 % p:=ea0
  have A0:AbOk a0:=by
    rw [ea0]
    exact ⟨by rw [List.length_map]; omega,qU8 hp _ fun n=>n % 10 ^ 18⟩
  clear ea0
  refine ⟨⟨⟨rfl,tJ,tJ⟩,by show (cutI ns (some 10) (some 16)).length <= 1000; omega,fun n hn=>⟨⟨rfl,⟨tJ,tJ,by decide,by decide,by decide⟩,by show (0:Int) < 10 ^ 18; decide⟩,rfl,by show 0 < p; omega⟩⟩,fun b0 eb0=>?_⟩
  have eb0:b0=(cutI ns (some 10) (some 16)).map fun n=>n % 10 ^ 18 % p:=eb0
  have B0:AbOk b0:=by
    rw [eb0]
    exact ⟨by rw [List.length_map]; omega,qU8 hp _ fun n=>n % 10 ^ 18⟩
  clear eb0
  refine yZZ (ρ':=[.fr (.scr ns),.fr (.int hd),.fr (.int p),.fr (.ob 0 p),.fr (.ints x),.fr (.ints y),.fr (.ints g),.fr (.int (m:Int)),.fr (.int (l:Int)),.fr (tabP R),.fr (.ints a0),.fr (.ints b0),.un,.un]) rfl ?_
  have gs:=qQY g
  have xs':=qQY x
  refine ⟨fun ρ=>∃ a b v,ρ=[.fr (.scr ns),.fr (.int hd),.fr (.int p),.fr (.ob 0 p),.fr (.ints x),.fr (.ints y),.fr (.ints g),.fr (.int (m:Int)),.fr (.int (l:Int)),.fr (tabP R),.fr (.ints a),.fr (.ints b),v,.un] /\ AbOk a /\ AbOk b,⟨⟨⟨⟨rfl,tJ,dv 120 (by decide) (by decide)⟩,tJ,by show (0:Int) < 4; decide⟩,tJ⟩,fun _=>?_,fun _=>⟨a0,b0,_,rfl,A0,B0⟩⟩,?_⟩
  . obtain ⟨s1,s2⟩:=jY1 (f:=g) (g:=slL g) hp (by omega) (by omega)
    exact ⟨⟨⟨rfl,rfl,⟨⟨rfl,tJ⟩,g,rfl,by omega⟩,tJ⟩,p,g,slL g,rfl,hp,by omega,by omega⟩,_,_,_,rfl,_,_,_,rfl,s1,s2⟩
  clear A0 B0
  rintro ρ ⟨a0,b0,v0,rfl,A0,B0⟩
  refine ⟨fun ρ=>∃ a b v,ρ=[.fr (.scr ns),.fr (.int hd),.fr (.int p),.fr (.ob 0 p),.fr (.ints x),.fr (.ints y),.fr (.ints g),.fr (.int (m:Int)),.fr (.int (l:Int)),.fr (tabP R),.fr (.ints a),.fr (.ints b),v,.un] /\ AbOk a /\ AbOk b,⟨⟨⟨⟨rfl,tJ,dv 120 (by decide) (by decide)⟩,tJ,by show (0:Int) < 4; decide⟩,tJ⟩,fun _=>?_,fun _=>⟨a0,b0,v0,rfl,A0,B0⟩⟩,?_⟩
  . obtain ⟨s1,s2⟩:=jY1 (f:=x) (g:=slL x) hp (by omega) (by omega)
    exact ⟨⟨⟨rfl,rfl,⟨⟨rfl,tJ⟩,x,rfl,by omega⟩,tJ⟩,p,x,slL x,rfl,hp,by omega,by omega⟩,_,_,_,rfl,_,_,_,rfl,s1,s2⟩
  clear A0 B0
  rintro ρ ⟨a,b,v,rfl,AO,BO⟩
  refine ⟨rfl,fun d0 ed0=>?_⟩
  have ed0:d0=g:=ed0
  refine yZZ (ρ':=[.fr (.scr ns),.fr (.int hd),.fr (.int p),.fr (.ob 0 p),.fr (.ints x),.fr (.ints y),.fr (.ints g),.fr (.int (m:Int)),.fr (.int (l:Int)),.fr (tabP R),.fr (.ints a),.fr (.ints b),v,.fr (.ints d0)]) rfl ?_
  refine ⟨fun ρ=>∃ d,ρ=[.fr (.scr ns),.fr (.int hd),.fr (.int p),.fr (.ob 0 p),.fr (.ints x),.fr (.ints y),.fr (.ints g),.fr (.int (m:Int)),.fr (.int (l:Int)),.fr (tabP R),.fr (.ints a),.fr (.ints b),v,.fr (.ints d)] /\ LedOk p d,⟨⟨⟨⟨rfl,tJ,dv 480 (by decide) (by decide)⟩,tJ,by show (0:Int) < 8; decide⟩,tJ⟩,fun _=>?_,fun _=>⟨d0,rfl,by rw [ed0]; exact jZ5 PR⟩⟩,?_⟩
  . refine ⟨⟨⟨rfl,⟨⟨⟨rfl,tJ⟩,tJ⟩,tJ⟩,rfl,tJ⟩,g,[p - 1],p,rfl,by omega,by show g.length + 1 <= 1000; omega,gb,fun k hk=>by rw [List.mem_singleton.mp hk]; exact yV7 ⟨by omega,by omega⟩⟩,fun w ew=>⟨w,rfl,?_⟩⟩
    have ew:w=Tz p (convL g [p - 1]):=ew
    rw [ew]
    exact jZ2 PR
  clear ed0
  rintro ρ ⟨d,rfl,LO⟩
  refine ⟨⟨⟨rfl,rfl,⟨rfl,rfl,rfl,tJ⟩,tJ⟩,p,d,a,b,R,rfl,hp,LO.len,LO.l3,LO.pr,AO.len,BO.len,AO.bd,BO.bd,RT.len,RT.each⟩,fun q=>?_,fun _=>?_⟩
  . have q:false=true:=q
    cases q
  have h1:=Int.emod_nonneg hd (show (3:Int) ≠ 0 by decide)
  have h2:=Int.emod_lt_of_pos hd (show (0:Int) < 3 by decide)
  have hl':(hdF p (hd % 3) g).length <= 60:=by
    unfold hdF
    rw [List.length_append,List.length_mapIdx,List.length_replicate]
    omega
  have tz:=qK2 PR.tz (qHK p (hd % 3) g)
  have dk:=qY3 hp PR.ok PR.tz tz (by omega)
  refine ⟨⟨⟨rfl,⟨⟨rfl,by show g.length <= 1000; omega,fun k n hk=>⟨rfl,rfl,⟨⟨rfl,tJ,by show (0:Int) < 3; decide⟩,tJ⟩,?_⟩⟩,⟨⟨⟨rfl,tJ⟩,tJ⟩,⟨rfl,tJ,by show (0:Int) < 3; decide⟩,by show -(2:Int) ^ 63 <= hd % 3; omega,by show (hd % 3).toNat <= 1000; omega⟩,?_⟩,tJ⟩,p,hdF p (hd % 3) g,rfl,by rw [tz]; exact PR,dk,hl'⟩,rfl⟩
  . exact yKU ⟨by show -(2:Int) ^ 64 < p; omega,by show p < (2:Int) ^ 64; omega⟩
  . refine Nat.le_of_lt (small1000 ?_)
    show (g.mapIdx fun (i:Nat) (n:Int)=>n + p * ((i:Int) % 3 - 1)).length + (List.replicate (hd % 3).toNat p).length <= 1000
    rw [List.length_mapIdx,List.length_replicate]
    omega
end
theorem all_mk:AMk:=by
  intro l w K h mg fa cFE cHP cBA cBL cBP cBT cNO cNW cNP cNN cK cR X G hfa f0 od0 an0 sl0 oc0 kV0 dc0 pm0 cd0 ct0 f1 od1 an1 sl1 oc1 kV1 dc1 pm1 cd1 ct1 f2 od2 an2 sl2 oc2 kV2 dc2 pm2 cd2 ct2 f3 od3 an3 sl3 oc3 kV3 dc3 pm3 cd3 ct3 f4 od4 an4 sl4 oc4 kV4 dc4 pm4 cd4 ct4 f5 od5 an5 sl5 oc5 kV5 dc5 pm5 cd5 ct5 f6 od6 an6 sl6 oc6 kV6 dc6 pm6 cd6 ct6 f7 od7 an7 sl7 oc7 kV7 dc7 pm7 cd7 ct7 f8 od8 an8 sl8 oc8 kV8 dc8 pm8 cd8 ct8 f9 od9 an9 sl9 oc9 kV9 dc9 pm9 cd9 ct9 f10 od10 an10 sl10 oc10 kV10 dc10 pm10 cd10 ct10 f11 od11 an11 sl11 oc11 kV11 dc11 pm11 cd11 ct11 f12 od12 an12 sl12 oc12 kV12 dc12 pm12 cd12 ct12 f13 od13 an13 sl13 oc13 kV13 dc13 pm13 cd13 ct13 f14 od14 an14 sl14 oc14 kV14 dc14 pm14 cd14 ct14 f15 od15 an15 sl15 oc15 kV15 dc15 pm15 cd15 ct15 f16 od16 an16 sl16 oc16 kV16 dc16 pm16 cd16 ct16 f17 od17 an17 sl17 oc17 kV17 dc17 pm17 cd17 ct17 f18 od18 an18 sl18 oc18 kV18 dc18 pm18 cd18 ct18 f19 od19 an19 sl19 oc19 kV19 dc19 pm19 cd19 ct19 f20 od20 an20 sl20 oc20 kV20 dc20 pm20 cd20 ct20 f21 od21 an21 sl21 oc21 kV21 dc21 pm21 cd21 ct21 f22 od22 an22 sl22 oc22 kV22 dc22 pm22 cd22 ct22 f23 od23 an23 sl23 oc23 kV23 dc23 pm23 cd23 ct23 f24 od24 an24 sl24 oc24 kV24 dc24 pm24 cd24 ct24 f25 od25 an25 sl25 oc25 kV25 dc25 pm25 cd25 ct25 f26 od26 an26 sl26 oc26 kV26 dc26 pm26 cd26 ct26 f27 od27 an27 sl27 oc27 kV27 dc27 pm27 cd27 ct27 f28 od28 an28 sl28 oc28 kV28 dc28 pm28 cd28 ct28 f29 od29 an29 sl29 oc29 kV29 dc29 pm29 cd29 ct29 f30 od30 an30 sl30 oc30 kV30 dc30 pm30 cd30 ct30 f31 od31 an31 sl31 oc31 kV31 dc31 pm31 cd31 ct31 f32 od32 an32 sl32 oc32 kV32 dc32 pm32 cd32 ct32 f33 od33 an33 sl33 oc33 kV33 dc33 pm33 cd33 ct33 f34 od34 an34 sl34 oc34 kV34 dc34 pm34 cd34 ct34 f35 od35 an35 sl35 oc35 kV35 dc35 pm35 cd35 ct35 f36 od36 an36 sl36 oc36 kV36 dc36 pm36 cd36 ct36 f37 od37 an37 sl37 oc37 kV37 dc37 pm37 cd37 ct37 f38 od38 an38 sl38 oc38 kV38 dc38 pm38 cd38 ct38 f39 od39 an39 sl39 oc39 kV39 dc39 pm39 cd39 ct39 f40 od40 an40 sl40 oc40 kV40 dc40 pm40 cd40 ct40 f41 od41 an41 sl41 oc41 kV41 dc41 pm41 cd41 ct41 f42 od42 an42 sl42 oc42 kV42 dc42 pm42 cd42 ct42 f43 od43 an43 sl43 oc43 kV43 dc43 pm43 cd43 ct43 f44 od44 an44 sl44 oc44 kV44 dc44 pm44 cd44 ct44 f45 od45 an45 sl45 oc45 kV45 dc45 pm45 cd45 ct45 f46 od46 an46 sl46 oc46 kV46 dc46 pm46 cd46 ct46 f47 od47 an47 sl47 oc47 kV47 dc47 pm47 cd47 ct47 f48 od48 an48 sl48 oc48 kV48 dc48 pm48 cd48 ct48 f49 od49 an49 sl49 oc49 kV49 dc49 pm49 cd49 ct49 tk0 fm0 odm0 anm0 slm0 ocm0 kVm0 dcm0 pmm0 cdm0 ctm0 fm1 odm1 anm1 slm1 ocm1 kVm1 dcm1 pmm1 cdm1 ctm1 fm2 odm2 anm2 slm2 ocm2 kVm2 dcm2 pmm2 cdm2 ctm2 fm3 odm3 anm3 slm3 ocm3 kVm3 dcm3 pmm3 cdm3 ctm3 fm4 odm4 anm4 slm4 ocm4 kVm4 dcm4 pmm4 cdm4 ctm4 a0 l0 c0 k0 a1 l1 c1 k1 a2 l2 c2 k2 a3 l3 c3 k3 a4 l4 c4 k4 a5 l5 c5 k5 a6 l6 c6 k6 a7 l7 c7 k7 a8 l8 c8 k8 a9 l9 c9 k9 a10 l10 c10 k10 a11 l11 c11 k11 a12 l12 c12 k12 a13 l13 c13 k13 a14 l14 c14 k14 a15 l15 c15 k15 a16 l16 c16 k16 a17 l17 c17 k17 a18 l18 c18 k18 a19 l19 c19 k19 a20 l20 c20 k20 a21 l21 c21 k21 a22 l22 c22 k22 a23 l23 c23 k23 a24 l24 c24 k24 a25 l25 c25 k25 a26 l26 c26 k26 a27 l27 c27 k27 a28 l28 c28 k28 a29 l29 c29 k29 a30 l30 c30 k30 a31 l31 c31 k31 a32 l32 c32 k32 a33 l33 c33 k33 a34 l34 c34 k34 a35 l35 c35 k35 a36 l36 c36 k36 a37 l37 c37 k37 a38 l38 c38 k38 a39 l39 c39 k39 a40 l40 c40 k40 a41 l41 c41 k41 a42 l42 c42 k42 a43 l43 c43 k43 a44 l44 c44 k44 a45 l45 c45 k45 a46 l46 c46 k46 a47 l47 c47 k47 a48 l48 c48 k48 a49 l49 c49 k49 z0 z1 z2 z3 z4 z5 z6 z7 z8 y0 q_ForgeError q_HasParts e_HasParts ag_HasParts ak_HasParts ab_HasParts ad_HasParts aa_HasParts an_HasParts at_HasParts am_HasParts q_BadAsk q_BadLift q_BadProduct q_BadText q_NoOver e_NoOver q_NoPower q_NoPrime q_Nought q_Kind q_Rests pg_Rests hd_Rests po_Rests sa_Rests na_Rests_size fcm0 lm0 cm0 km0 gam0 rdm0 gm1_Rests lm1 cm1 km1 fnm1 gm2_Rests lm2 cm2 km2 fnm2 gm3_Rests lm3 cm3 km3 fnm3 fim4 lm4 cm4 km4 mkm4 fnm4 kcm4 i0 i1 i2 i3 i4 i5 i6 i7 i8 i9 yy0
  have e:=hfa.symm.trans (W.mg_of X G a49)
  cases e
  have F0:=fun_mk (st:=yJ9) l0 c0 k0
  have b0:=F0.binds (ps:=["numbers"]) fun _ _ _ _ _ _ us hl=>match us,hl with | [_],_=>rfl
  have F1:=fun_mk (st:=yVX) l1 c1 k1
  have b1:=F1.binds (ps:=["kind","f"]) fun _ _ _ _ _ _ us hl=>match us,hl with | [_,_],_=>rfl
  have F2:=fun_mk (st:=zY3) l2 c2 k2
  have b2:=F2.binds (ps:=["kind","f","g"]) fun _ _ _ _ _ _ us hl=>match us,hl with | [_,_,_],_=>rfl
  have F3:=fun_mk (st:=zJH) l3 c3 k3
  have b3:=F3.binds (ps:=["kind","f","g"]) fun _ _ _ _ _ _ us hl=>match us,hl with | [_,_,_],_=>rfl
  have F4:=fun_mk (st:=yHX) l4 c4 k4
  have b4:=F4.binds (ps:=["kind","f","g"]) fun _ _ _ _ _ _ us hl=>match us,hl with | [_,_,_],_=>rfl
  have F5:=fun_mk (st:=yK5) l5 c5 k5
  have b5:=F5.binds (ps:=["kind","f","number"]) fun _ _ _ _ _ _ us hl=>match us,hl with | [_,_,_],_=>rfl
  have F6:=fun_mk (st:=zQ0) l6 c6 k6
  have b6:=F6.binds (ps:=["kind","f"]) fun _ _ _ _ _ _ us hl=>match us,hl with | [_,_],_=>rfl
  have F7:=fun_mk (st:=yVY) l7 c7 k7
  have b7:=F7.binds (ps:=["kind","f","g"]) fun _ _ _ _ _ _ us hl=>match us,hl with | [_,_,_],_=>rfl
  have F8:=fun_mk (st:=yJJ) l8 c8 k8
  have b8:=F8.binds (ps:=["kind","f"]) fun _ _ _ _ _ _ us hl=>match us,hl with | [_,_],_=>rfl
  have F9:=fun_mk (st:=yK8) l9 c9 k9
  have b9:=F9.binds (ps:=["kind","f","g"]) fun _ _ _ _ _ _ us hl=>match us,hl with | [_,_,_],_=>rfl
  have F10:=fun_mk (st:=yXV) l10 c10 k10
  have b10:=F10.binds (ps:=["kind","row","often","other"]) fun _ _ _ _ _ _ us hl=>match us,hl with | [_,_,_,_],_=>rfl
  have F11:=fun_mk (st:=yXJ) l11 c11 k11
  have b11:=F11.binds (ps:=["kind","one","other","g"]) fun _ _ _ _ _ _ us hl=>match us,hl with | [_,_,_,_],_=>rfl
  have F12:=fun_mk (st:=yK7) l12 c12 k12
  have b12:=F12.binds (ps:=["kind","f","many","g"]) fun _ _ _ _ _ _ us hl=>match us,hl with | [_,_,_,_],_=>rfl
  have F13:=fun_mk (st:=yY0) l13 c13 k13
  have b13:=F13.binds (ps:=["kind","f","count","g"]) fun _ _ _ _ _ _ us hl=>match us,hl with | [_,_,_,_],_=>rfl
  have F14:=fun_mk (st:=yXX) l14 c14 k14
  have b14:=F14.binds (ps:=["kind","g"]) fun _ _ _ _ _ _ us hl=>match us,hl with | [_,_],_=>rfl
  have F15:=fun_mk (st:=yVK) l15 c15 k15
  have b15:=F15.binds (ps:=["kind","ones","others"]) fun _ _ _ _ _ _ us hl=>match us,hl with | [_,_,_],_=>rfl
  have F16:=fun_mk (st:=yK6) l16 c16 k16
  have b16:=F16.binds (ps:=["rows","at"]) fun _ _ _ _ _ _ us hl=>match us,hl with | [_,_],_=>rfl
  have F17:=fun_mk (st:=yJQ) l17 c17 k17
  have b17:=F17.binds (ps:=["kind","row","columns"]) fun _ _ _ _ _ _ us hl=>match us,hl with | [_,_,_],_=>rfl
  have F18:=fun_mk (st:=yZ7) l18 c18 k18
  have b18:=F18.binds (ps:=["ones","others"]) fun _ _ _ _ _ _ us hl=>match us,hl with | [_,_],_=>rfl
  have F19:=fun_mk (st:=yY4) l19 c19 k19
  have b19:=F19.binds (ps:=["length"]) fun _ _ _ _ _ _ us hl=>match us,hl with | [_],_=>rfl
  have F20:=fun_mk (st:=yXY) l20 c20 k20
  have b20:=F20.binds (ps:=["at","length"]) fun _ _ _ _ _ _ us hl=>match us,hl with | [_,_],_=>rfl
  have F21:=fun_mk (st:=yVU) l21 c21 k21
  have b21:=F21.binds (ps:=["kind","rows"]) fun _ _ _ _ _ _ us hl=>match us,hl with | [_,_],_=>rfl
  have F22:=fun_mk (st:=yQV) l22 c22 k22
  have b22:=F22.binds (ps:=["kind","rows","width"]) fun _ _ _ _ _ _ us hl=>match us,hl with | [_,_,_],_=>rfl
  have F23:=fun_mk (st:=yYK) l23 c23 k23
  have b23:=F23.binds (ps:=["kind","row"]) fun _ _ _ _ _ _ us hl=>match us,hl with | [_,_],_=>rfl
  have F24:=fun_mk (st:=yQH) l24 c24 k24
  have b24:=F24.binds (ps:=["rows","at","done"]) fun _ _ _ _ _ _ us hl=>match us,hl with | [_,_,_],_=>rfl
  have F25:=fun_mk (st:=yZ8) l25 c25 k25
  have b25:=F25.binds (ps:=["rows","found","done"]) fun _ _ _ _ _ _ us hl=>match us,hl with | [_,_,_],_=>rfl
  have F26:=fun_mk (st:=yQW) l26 c26 k26
  have b26:=F26.binds (ps:=["kind","rows","at","done"]) fun _ _ _ _ _ _ us hl=>match us,hl with | [_,_,_,_],_=>rfl
  have F27:=fun_mk (st:=yJ8) l27 c27 k27
  have b27:=F27.binds (ps:=["kind","row","at","first"]) fun _ _ _ _ _ _ us hl=>match us,hl with | [_,_,_,_],_=>rfl
  have F28:=fun_mk (st:=yQU) l28 c28 k28
  have b28:=F28.binds (ps:=["kind","g"]) fun _ _ _ _ _ _ us hl=>match us,hl with | [_,_],_=>rfl
  have F29:=fun_mk (st:=yZH) l29 c29 k29
  have b29:=F29.binds (ps:=["kind","row","at"]) fun _ _ _ _ _ _ us hl=>match us,hl with | [_,_,_],_=>rfl
  have F30:=fun_mk (st:=yHW) l30 c30 k30
  have b30:=F30.binds (ps:=["kind","g","paper"]) fun _ _ _ _ _ _ us hl=>match us,hl with | [_,_,_],_=>rfl
  have F31:=fun_mk (st:=yQY) l31 c31 k31
  have b31:=F31.binds (ps:=["kind","g","paper"]) fun _ _ _ _ _ _ us hl=>match us,hl with | [_,_,_],_=>rfl
  have F32:=fun_mk (st:=yZ9) l32 c32 k32
  have b32:=F32.binds (ps:=["kind","g","r"]) fun _ _ _ _ _ _ us hl=>match us,hl with | [_,_,_],_=>rfl
  have F33:=fun_mk (st:=yHQ) l33 c33 k33
  have b33:=F33.binds (ps:=["kind","g"]) fun _ _ _ _ _ _ us hl=>match us,hl with | [_,_],_=>rfl
  have F34:=fun_mk (st:=yJZ) l34 c34 k34
  have b34:=F34.binds (ps:=["kind","rows"]) fun _ _ _ _ _ _ us hl=>match us,hl with | [_,_],_=>rfl
  have F35:=fun_mk (st:=yXZ) l35 c35 k35
  have b35:=F35.binds (ps:=["number"]) fun _ _ _ _ _ _ us hl=>match us,hl with | [_],_=>rfl
  have F36:=fun_mk (st:=yKJ) l36 c36 k36
  have b36:=F36.binds (ps:=["number","size"]) fun _ _ _ _ _ _ us hl=>match us,hl with | [_,_],_=>rfl
  have F37:=fun_mk (st:=yZ5) l37 c37 k37
  have b37:=F37.binds (ps:=["number"]) fun _ _ _ _ _ _ us hl=>match us,hl with | [_],_=>rfl
  have F38:=fun_mk (st:=yVH) l38 c38 k38
  have b38:=F38.binds (ps:=["_law_script","_law_k"]) fun _ _ _ _ _ _ us hl=>match us,hl with | [_,_],_=>rfl
  have F39:=fun_mk (st:=zJ9) l39 c39 k39
  have b39:=F39.binds (ps:=["_law_script"]) fun _ _ _ _ _ _ us hl=>match us,hl with | [_],_=>rfl
  have F40:=fun_mk (st:=zY6) l40 c40 k40
  have b40:=F40.binds (ps:=["_law_row","_law_size"]) fun _ _ _ _ _ _ us hl=>match us,hl with | [_,_],_=>rfl
  have F41:=fun_mk (st:=yJ7) l41 c41 k41
  have b41:=F41.binds (ps:=["_law_cell"]) fun _ _ _ _ _ _ us hl=>match us,hl with | [_],_=>rfl
  have F42:=fun_mk (st:=yYX) l42 c42 k42
  have b42:=F42.binds (ps:=["_law_f","_law_g","_law_size"]) fun _ _ _ _ _ _ us hl=>match us,hl with | [_,_,_],_=>rfl
  have F43:=fun_mk (st:=zQ2) l43 c43 k43
  have b43:=F43.binds (ps:=["_law_cell","_law_prime"]) fun _ _ _ _ _ _ us hl=>match us,hl with | [_,_],_=>rfl
  have F44:=fun_mk (st:=yHV) l44 c44 k44
  have b44:=F44.binds (ps:=["_law_number","_law_size"]) fun _ _ _ _ _ _ us hl=>match us,hl with | [_,_],_=>rfl
  have F45:=fun_mk (st:=yYU) l45 c45 k45
  have b45:=F45.binds (ps:=["_law_f"]) fun _ _ _ _ _ _ us hl=>match us,hl with | [_],_=>rfl
  have F46:=fun_mk (st:=zQ1) l46 c46 k46
  have b46:=F46.binds (ps:=["_law_script","_law_prime","_law_many","_law_long"]) fun _ _ _ _ _ _ us hl=>match us,hl with | [_,_,_,_],_=>rfl
  have F47:=fun_mk (st:=yXQ) l47 c47 k47
  have b47:=F47.binds (ps:=["_law_kept"]) fun _ _ _ _ _ _ us hl=>match us,hl with | [_],_=>rfl
  have F48:=fun_mk (st:=yVV) l48 c48 k48
  have b48:=F48.binds (ps:=["_law_kind","_law_g"]) fun _ _ _ _ _ _ us hl=>match us,hl with | [_,_],_=>rfl
  have F49:=fun_mk (st:=qQ0) l49 c49 k49
  have Fm0:=fun_mk (st:=yYW) lm0 cm0 km0
  have bm0:=Fm0.binds (ps:=["self","size"]) fun _ _ _ _ _ _ us hl=>match us,hl with | [_,_],_=>rfl
  have Fm1:=fun_mk (st:=yY2) lm1 cm1 km1
  have bm1:=Fm1.binds (ps:=["self","number"]) fun _ _ _ _ _ _ us hl=>match us,hl with | [_,_],_=>rfl
  have Fm2:=fun_mk (st:=yYH) lm2 cm2 km2
  have bm2:=Fm2.binds (ps:=["self","a","b"]) fun _ _ _ _ _ _ us hl=>match us,hl with | [_,_,_],_=>rfl
  have Fm3:=fun_mk (st:=yYY) lm3 cm3 km3
  have bm3:=Fm3.binds (ps:=["self","a","b"]) fun _ _ _ _ _ _ us hl=>match us,hl with | [_,_,_],_=>rfl
  have Fm4:=fun_mk (st:=yY1) lm4 cm4 km4
  have bm4:=Fm4.binds (ps:=["self","prime"]) fun _ _ _ _ _ _ us hl=>match us,hl with | [_,_],_=>rfl
  have T:Top K mg cFE cHP cBA cBL cBP cBT cNO cNW cNP cNN cK cR:=⟨Def.mk' F0 b0 (W.mg_of X G a0),
    Def.mk' F1 b1 (W.mg_of X G a1),
    Def.mk' F2 b2 (W.mg_of X G a2),
    Def.mk' F3 b3 (W.mg_of X G a3),
    Def.mk' F4 b4 (W.mg_of X G a4),
    Def.mk' F5 b5 (W.mg_of X G a5),
    Def.mk' F6 b6 (W.mg_of X G a6),
    Def.mk' F7 b7 (W.mg_of X G a7),
    Def.mk' F8 b8 (W.mg_of X G a8),
    Def.mk' F9 b9 (W.mg_of X G a9),
    Def.mk' F10 b10 (W.mg_of X G a10),
    Def.mk' F11 b11 (W.mg_of X G a11),
    Def.mk' F12 b12 (W.mg_of X G a12),
    Def.mk' F13 b13 (W.mg_of X G a13),
    Def.mk' F14 b14 (W.mg_of X G a14),
    Def.mk' F15 b15 (W.mg_of X G a15),
    Def.mk' F16 b16 (W.mg_of X G a16),
    Def.mk' F17 b17 (W.mg_of X G a17),
    Def.mk' F18 b18 (W.mg_of X G a18),
    Def.mk' F19 b19 (W.mg_of X G a19),
    Def.mk' F20 b20 (W.mg_of X G a20),
    Def.mk' F21 b21 (W.mg_of X G a21),
    Def.mk' F22 b22 (W.mg_of X G a22),
    Def.mk' F23 b23 (W.mg_of X G a23),
    Def.mk' F24 b24 (W.mg_of X G a24),
    Def.mk' F25 b25 (W.mg_of X G a25),
    Def.mk' F26 b26 (W.mg_of X G a26),
    Def.mk' F27 b27 (W.mg_of X G a27),
    Def.mk' F28 b28 (W.mg_of X G a28),
    Def.mk' F29 b29 (W.mg_of X G a29),
    Def.mk' F30 b30 (W.mg_of X G a30),
    Def.mk' F31 b31 (W.mg_of X G a31),
    Def.mk' F32 b32 (W.mg_of X G a32),
    Def.mk' F33 b33 (W.mg_of X G a33),
    Def.mk' F34 b34 (W.mg_of X G a34),
    Def.mk' F35 b35 (W.mg_of X G a35),
    Def.mk' F36 b36 (W.mg_of X G a36),
    Def.mk' F37 b37 (W.mg_of X G a37),
    Def.mk' F38 b38 (W.mg_of X G a38),
    Def.mk' F39 b39 (W.mg_of X G a39),
    Def.mk' F40 b40 (W.mg_of X G a40),
    Def.mk' F41 b41 (W.mg_of X G a41),
    Def.mk' F42 b42 (W.mg_of X G a42),
    Def.mk' F43 b43 (W.mg_of X G a43),
    Def.mk' F44 b44 (W.mg_of X G a44),
    Def.mk' F45 b45 (W.mg_of X G a45),
    Def.mk' F46 b46 (W.mg_of X G a46),
    Def.mk' F47 b47 (W.mg_of X G a47),
    Def.mk' F48 b48 (W.mg_of X G a48),
    W.mg_none_of X G z0,
    W.mg_none_of X G z1,
    W.mg_none_of X G z2,
    W.mg_none_of X G z3,
    W.mg_none_of X G z4,
    W.mg_none_of X G z5,
    W.mg_none_of X G z6,
    W.mg_none_of X G z7,
    W.mg_none_of X G z8,
    ⟨_,W.mg_of X G y0⟩,
    i0,
    i1,
    i2,
    i3,
    i4,
    i5,
    i6,
    i7,
    i8,
    i9,
    W.mg_of X G q_ForgeError,
    W.mg_of X G q_HasParts,
    e_HasParts,
    ⟨ag_HasParts,ak_HasParts,ab_HasParts,ad_HasParts,aa_HasParts,an_HasParts,at_HasParts,am_HasParts⟩,
    W.mg_of X G q_BadAsk,
    W.mg_of X G q_BadLift,
    W.mg_of X G q_BadProduct,
    W.mg_of X G q_BadText,
    W.mg_of X G q_NoOver,
    e_NoOver,
    W.mg_of X G q_NoPower,
    W.mg_of X G q_NoPrime,
    W.mg_of X G q_Nought,
    W.mg_of X G q_Kind,
    W.mg_of X G q_Rests,
    ⟨pg_Rests,hd_Rests,po_Rests,sa_Rests⟩,
    na_Rests_size,
    yy0,
    ⟨_,_,Fm0,bm0,gam0,rdm0,fcm0,km0⟩,
    ⟨_,_,Fm1,bm1,⟨gm1_Rests,fnm1,km1⟩⟩,
    ⟨_,_,Fm2,bm2,⟨gm2_Rests,fnm2,km2⟩⟩,
    ⟨_,_,Fm3,bm3,⟨gm3_Rests,fnm3,km3⟩⟩,
    ⟨_,_,Fm4,bm4,mkm4,fim4,fnm4,kcm4⟩⟩
  exact ⟨_,fun s v=>.of_eq rfl,fun base _ _=>jYQ T F49⟩
end K45
theorem PySem.Challenge.cw_factorforge_k45_whole_no_paper_for_a_pro_holds : PySem.Challenge.rw_factorforge_k45_whole_no_paper_for_a_pro.Holds :=
  K45.pre K45.all_mk
