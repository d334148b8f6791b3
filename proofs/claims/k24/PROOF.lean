import PyProof.Rows.All
import Wide.All
import KE.KNestM
import KE.KUnpack
import KE.KEqDeep
import KE.KPassesOwn
import KE.RegKIsAll
import KE.RegKTryMore
import OpenK.KOwn
import KE.KItem
import KE.KNest
import KE.KLam
import KE.KSortKey
import KE.KSortTup
import KE.KRevIter
import KE.KDictSum
import Wide.FinOn
import Lean
import PyProof.EqAt
import PyProof.EqKinds
import PyProof.TupleCall
import KE.KNest
import KE.KNestM
import KE.KLam
import KE.KSortKey
import KE.KSortTup
import KE.KDictSum
import PySem.Challenge.RW_factorforge_k24_squares_of_roots
set_option Elab.async false
set_option linter.all false
set_option maxRecDepth 100000
set_option maxHeartbeats 4000000
local macro_rules | `(tactic| omega) => `(tactic| lia)
noncomputable section
abbrev Li:=List Int
abbrev Fg:=PySem.W.Frag
abbrev Mg:=PySem.Str->Option PySem.Value
abbrev Lv:=List PySem.Value
abbrev Ls:=List PySem.Str
def aa:=@List.length_map
def ac:=@List.mem_cons_of_mem
def ae:=@if_pos
def af:=@if_neg
def ag:=@List.mem_cons_self
def ah:=@PySem.Heap.get?_push_of_some
def ai:=@PySem.Heap.lt_size
def aj:=@Nat.le_refl
def ak:=@PySem.wpAny_bind
def ao:=@List.size_toArray
def au:=@List.getElem?_map
def aw:=@Option.some.inj
def ay:=@Nat.lt_of_lt_of_le
def az:=@List.mem_cons
def aA:=@List.map_cons
def aB:=@List.getElem?_eq_getElem
def aC:=@List.mem_append_right
def aD:=@List.getElem?_eq_some_iff
def aE:=@List.length_range
def aG:=@Nat.le_trans
def aH:=@decide_eq_false
def aI:=@Int.dvd_zero
def aJ:=@List.filterMap_cons
def aK:=@Bool.false_ne_true
def aM:=@decide_eq_true
def aN:=@List.length_append
def aO:=@Nat.ne_of_lt
def aP:=@PySem.Heap.get?_push_size
def aQ:=@PySem.PassesOwn.never
def aR:=@Int.mul_le_mul_of_nonneg_left
def aS:=@List.getElem?_append_left
def aT:=@List.length_set
def aU:=@PySem.Heap.get?_update_other
def aV:=@PySem.wpAny_pure
def aW:=@Int.sub_zero
def aX:=@List.getElem?_append_right
def aY:=@Int.toNat_of_nonneg
def aZ:=@List.append_nil
def a9:=@Int.dvd_mul_of_dvd_right
def bc:=@Nat.lt_of_le_of_lt
def bd:=@Int.mul_zero
def be:=@Nat.zero_le
def bf:=@List.getElem?_replicate
def bg:=@PySem.W.mg_of
def bh:=@List.length_cons
def bi:=@Int.mul_nonpos_of_nonneg_of_nonpos
def bj:=@Int.emod_lt_of_pos
def bn:=@PySem.W.kia_one
def bp:=@List.length_singleton
def bq:=@Int.add_zero
def br:=@Int.dvd_mul_of_dvd_left
def bt:=@Int.one_mul
def bu:=@Int.dvd_neg
def bv:=@Int.zero_mul
def bw:=@List.mem_singleton
def bx:=@Int.emod_nonneg
def bA:=@List.length_replicate
def bB:=@Int.emod_eq_of_lt
def bC:=@Nat.lt_irrefl
def bD:=@List.mem_filterMap
def bE:=@List.nodup_cons
def bF:=@List.map_append
def bG:=@List.getElem_range
def bH:=@Int.mul_assoc
def bI:=@List.find?_cons
def bJ:=@Int.dvd_add
def bK:=@List.mem_of_getElem?
def bL:=@Nat.pow_lt_pow_right
def bM:=@Nat.le_of_lt
def bN:=@Nat.mul_comm
def bO:=@List.getElem_map
def bP:=@Ne.symm
def bQ:=@Option.isSome_iff_exists
def bR:=@Int.mul_one
def bS:=@List.length_take
def bT:=@List.mem_append_left
def bU:=@Int.emod_eq_zero_of_dvd
def bV:=@Int.mul_comm
def bW:=@List.mem_map
def bX:=@List.getElem?_set
def bY:=@PyProof.Rows.callWith_type1
def bZ:=@PySem.mem_of_lookup
def b7:=@List.replicate_succ
def b8:=@Bool.decide_eq_true
def b9:=@List.take_of_length_le
def ce:=@Array.getElem?_eq_some_iff
def cf:=@PySem.Heap.get?_update_self
def cg:=@PySem.Obj.data_mapFields
def ck:=@List.pairwise_cons
def cp:=@Nat.pow_succ
def cq:=@Int.sub_self
def cr:=@Int.emod_emod_of_dvd
def cu:=@PySem.wpAny_passesOwn
def cw:=@List.pairwise_map
def cx:=@Int.mul_sub
def cy:=@Nat.lt_succ_self
def cA:=@List.all_eq_true
def cB:=@List.getElem_mem
def cC:=@List.take_length
def cD:=@Nat.lt_of_not_le
def cE:=@List.mem_range
def cF:=@PySem.wpAny_Call_Name_kw
def cG:=@List.dropLast_concat_getLast
def cH:=@List.zip_cons_cons
def cI:=@List.mem_append
def cJ:=@PySem.Obj.isFreed_of_fields
def cL:=@List.getElem?_eq_none
def cM:=@List.length_filter_le
def cN:=@Int.natAbs_dvd_natAbs
def cO:=@PySem.wpAny_truthy_bool
def cQ:=@PySem.wpAny_holding
def cS:=@Int.toNat_natCast
def cT:=@List.flatten_cons
def cU:=@of_decide_eq_true
def cV:=@Nat.mul_assoc
def cX:=@Bool.and_eq_true_iff
def cY:=@Int.emod_eq_emod_iff_emod_sub_eq_zero
def cZ:=@List.mapIdx_eq_zipIdx_map
def c6:=@Nat.le_of_not_lt
def c7:=@Int.dvd_refl
def c8:=@Int.zero_add
def c9:=@PySem.F.slot_dict_keyiterator_iter
def da:=@PySem.wpAny_execs_nil
def de:=@PySem.W.callWith_K
def df:=@PySem.F.plainAttrs_list
def dh:=@List.filter_append
def di:=@List.length_mapIdx
def dj:=@Int.natCast_mul
def dk:=@Int.natCast_dvd_natCast
def dm:=@PyProof.Rows.subscriptTail_builtinR
def dn:=@PySem.Calls.callWith_builtin
def dq:=@PySem.wpAny_mono
def dt:=@List.take_add_one
def dw:=@Int.add_mul
def dy:=@Nat.pow_pos
def dz:=@Nat.ne_of_gt
def dA:=@Int.mul_emod
def dB:=@Nat.le_of_ble_eq_true
def dC:=@PySem.F.slot_dict_get
def dD:=@Classical.choose_spec
def dE:=@List.length_drop
def dF:=@Bool.and_eq_true
def dG:=@List.ext_getElem
def dH:=@List.getElem?_set_ne
def dI:=@PySem.wpAny_loadName_local
def dJ:=@PySem.W.looks_findIn
def dL:=@PySem.Calls.evalArgs_plain
def dM:=@List.map_eq_cons_iff
def dN:=@List.any_cons
def dO:=@List.mem_filter
def dP:=@Array.length_toList
def dQ:=@Bool.eq_iff_iff
def dR:=@PySem.sizeLine_eq
def dS:=@PySem.W.plainGet_of
def dU:=@Int.neg_one_mul
def dW:=@Int.dvd_sub_self_of_emod_eq
def dX:=@PySem.Calls.Name_function_global
def dY:=@PySem.F.excBase_ValueError
def dZ:=@PySem.Calls.spliced_cons
def d5:=@List.map_nil
def d6:=@Nat.zero_add
def d7:=@List.map_map
def d8:=@PySem.tupleKind_room_in1
def d9:=@Nat.mul_div_cancel
def ee:=@List.getElem?_eq_none_iff
def eh:=@List.mem_of_find?_eq_some
def ei:=@PySem.F.slot_list_append
def eu:=@PySem.F.type_list_append
def eA:=@Int.mul_left_comm
def eB:=@Classical.not_imp
def eC:=@List.length_filterMap_le
def eE:=@PySem.Paired.length
def eG:=@List.length_eq_zero_iff
def eI:=@PySem.F.attr_ValueError
def eJ:=@PySem.F.args_dict_get_3
def eK:=@List.getLast_eq_getElem
def eM:=@Int.dvd_of_emod_eq_zero
def eO:=@Nat.dvd_div_iff_mul_dvd
def eP:=@List.sum_cons
def eQ:=@PySem.W.any_some
def eS:=@Int.dvd_mul_left
def eT:=@List.not_mem_nil
def eU:=@List.filter_cons
def eV:=@List.getElem?_set_self
def eW:=@PySem.W.cellsFrom_some
def eX:=@List.drop_eq_nil_of_le
def eY:=@PySem.F.entry_dict_get
def eZ:=@List.pairwise_lt_range
def fe:=@List.filter_eq_nil_iff
def fg:=@Option.map_some
def fh:=@PySem.codeAny_mono
def fi:=@PySem.W.methodCall_KW
def fj:=@List.of_mem_zip
def fk:=@Array.getElem?_toList
def fm:=@Nat.succ_mul
def fq:=@Bool.beq_eq_decide_eq
def ft:=@List.getElem?_toArray
def fw:=@Int.mul_ediv_add_emod
def fx:=@PySem.wpAny_call
def fy:=@decide_not
def fA:=@List.length_dropLast
def fB:=@Classical.not_forall
def fE:=@Nat.mul_le_mul_right
def fF:=@Nat.pow_le_pow_right
def fG:=@Int.mul_nonneg
def fH:=@List.length_pos_iff
def fI:=@Sum.inl.inj
def fJ:=@Nat.le_succ
def fK:=@PySem.W.codeHd_of_K
def fL:=@List.reverse_append
def fM:=@Int.sub_mul
def fN:=@Array.toList_append
def fO:=@List.map_congr_left
def fP:=@Int.mul_add
def fQ:=@Nat.mul_le_mul_left
def fR:=@Nat.pow_le_pow_left
def fS:=@List.mem_map_of_mem
def fU:=@PySem.wpAny_Name
def fV:=@PySem.call_meets
def fW:=@beq_iff_eq
def fX:=@Nat.le_of_eq
def fY:=@Nat.sub_zero
def fZ:=@Int.emod_def
def f6:=@Int.le_of_lt
def f7:=@Nat.zero_div
def f8:=@Int.mul_neg
def f9:=@Int.pow_one
def gf:=@dif_pos
local macro_rules | `(tactic| walk_at "v") => `(tactic| first | exact Or.inl rfl | exact Or.inr (Or.inl rfl) | exact Or.inr (Or.inr rfl))
local macro_rules | `(tactic| walk_at "w") => `(tactic| first | exact .inl rfl | exact .inr rfl | assumption)
theorem tT:True:=True.intro
theorem gQ {A:Type _}{l:List A}{i:Nat}{a:A}:l.getD i a=l[i]?.getD a:=List.getD_eq_getElem?_getD ..
theorem lP {A:Type _}{l:List A}(h:l≠[]):0<l.length:=fH.mpr h
section
open PySem PySem.W PyProof.Rows
namespace iU
def top (i:Nat):Stmt:=PySem.Challenge.pw_factorforge_k24_squares_of_roots.main.body.getD i (.Pass ⟨0,0,0,0⟩)
end iU
def iU.view:PySem.Program:={ PySem.Challenge.rw_factorforge_k24_squares_of_roots.row.toRowW.prog with main:={ PySem.Challenge.rw_factorforge_k24_squares_of_roots.row.toRowW.prog.main with body:=[iU.top 0,iU.top 2,iU.top 3,iU.top 4,iU.top 5,iU.top 6,iU.top 7,iU.top 8,iU.top 9,iU.top 10,iU.top 11,iU.top 13,iU.top 14,iU.top 15,iU.top 16,iU.top 17,iU.top 19,iU.top 20,iU.top 21,iU.top 23,iU.top 24,iU.top 26,iU.top 27,iU.top 28,iU.top 29,iU.top 30,iU.top 31,iU.top 33,iU.top 34,iU.top 35,iU.top 36,iU.top 37,iU.top 38,iU.top 39,iU.top 40,iU.top 41,iU.top 42,iU.top 43] } }
def X.Nh (tb:String->Option Builtin)(p:Program)(w:World)(n₀:Nat)(ann:Option Value):Nat->SharedT->Thread->Option SharedT
 |0,_,_=>none
 |n+1,s,t=>match through t with
  |true=>some s
  |false=>match stepOk n₀ ann t with
   |false=>none
   |true=>match stepT (denote tb) p w s t with
    |some (s',t')=>X.Nh tb p w n₀ ann n s' t'
    |none=>none
theorem X.FQ {tb:String->Option Builtin}{p:Program}{w:World}{n₀:Nat}{ann:Option Value}:∀{n:Nat} {s s':SharedT} {t:Thread},X.Nh tb p w n₀ ann n s t=some s' -> topRun tb p w n₀ ann n s.abs t=some s'.abs
 |0,_,_,_,h=>by cases h
 |n+1,s,s',t,h=>by
  unfold X.Nh at h;unfold topRun;cases ht:through t with
  |true=>rw[ht]at h;cases h;rfl
  |false=>
   rw[ht]at h;cases hk:stepOk n₀ ann t with
   |false=>rw[hk]at h;cases h
   |true=>
    rw[hk]at h;cases hs:stepT (denote tb) p w s t with
    |none=>rw[hs]at h;cases h
    |some r=>obtain⟨s₂,t₂⟩:=r;rw[hs]at h;rw[stepT_spec hs];exact X.FQ h
def X.toT (s:Shared):SharedT:=⟨(s.heap.objs.toList.foldl (λ(x:BT×Nat) o=>(x.1.ins x.2 o,x.2+1)) (BT.nil,0)).1,s.heap.objs.size,s.heap.life,s.gens,s.drawn,s.toks,s.os⟩
def X.RT (tb:String->Option Builtin)(p:Program)(w:World)(N:Nat):Option (Shared×SharedT):=(fencedOpening tb p w N).bind λs0=>(X.Nh tb p w s0.heap.objs.size (s0.heap.nsMap mainGlobals "__annotations__") N (X.toT s0) (topStub p)).map λs1=>(s0,s1)
def X.Qa (p:Program)(s0 s1:Shared):Bool:=(s0.heap.isNs mainGlobals && s0.gens.size == 0) && (staticsOk (importedModules p.main.body) s0.heap s1.heap && namesBound p s1.heap && gensDone s1 && laidKept s0.heap s1.heap)
theorem X.wA {p:Program}{w:World}{N:Nat}{A:Type}{f:Shared->A}{a:A}(h0:(fencedOpening treeTable p w N).map (λs=>(X.toT s).tree.list s.heap.objs.size)=(fencedOpening treeTable p w N).map (λs=>s.heap.objs.toList))
  (h1:(X.RT treeTable p w N).map (λx=>(X.Qa p x.1 x.2.abs,f x.2.abs))=some (true,a)):(openEnds treeTable p w N).map f=some a:=by
 unfold X.RT at h1;unfold openEnds;cases e:fencedOpening treeTable p w N with
 |none=>rw[e]at h1;cases h1
 |some s0=>
  rw[e]at h0 h1;have hl:(X.toT s0).tree.list s0.heap.objs.size=s0.heap.objs.toList:=aw h0;have ha:(X.toT s0).abs=s0:=by obtain⟨⟨objs,life⟩,gens,drawn,toks,os⟩:=s0;show(⟨⟨((X.toT ⟨⟨objs,life⟩,gens,drawn,toks,os⟩).tree.list objs.size).toArray,life⟩,gens,drawn,toks,os⟩:Shared)=_;rw[hl]
  have h1:((X.Nh treeTable p w s0.heap.objs.size (s0.heap.nsMap mainGlobals "__annotations__") N (X.toT s0) (topStub p)).map λs1=>(s0,s1)).map (λx=>(X.Qa p x.1 x.2.abs,f x.2.abs))=some (true,a):=h1;cases e1:X.Nh treeTable p w s0.heap.objs.size (s0.heap.nsMap mainGlobals "__annotations__") N (X.toT s0) (topStub p) with
  |none=>rw[e1]at h1;cases h1
  |some s1=>
   rw[e1]at h1;have h1:=aw h1;have c:=congrArg Prod.fst h1;have d:=congrArg Prod.snd h1;have c:X.Qa p s0 s1.abs=true:=c;have d:f s1.abs=a:=d;have r:=X.FQ e1;rw[ha]at r;obtain⟨c1,c2⟩:=cX.mp c;show(topFrom treeTable p w N s0).map f=some a;unfold topFrom;rw[c1,r];show(match staticsOk (importedModules p.main.body) s0.heap s1.abs.heap && namesBound p s1.abs.heap && gensDone s1.abs && laidKept s0.heap s1.abs.heap with|true=>some s1.abs|false=>none).map f=some a
   rw[c2];exact congrArg some d
theorem X.both {S A B:Type}{o:Option S}{c:S->Bool}{f:S->A}{y:S->B}{g:A}{a:B}(h1:o.map (λx=>(c x,f x))=some (true,g))(h2:o.map y=some a):o.map (λx=>(c x,(f x,y x)))=some (true,(g,a)):=by
 cases o with
 |none=>cases h2
 |some s=>have e1:=aw h1;have e2:=aw h2;have e3:c s=true:=congrArg Prod.fst e1;have e4:f s=g:=congrArg Prod.snd e1;show some (c s,(f s,y s))=_;rw[e3,e4,e2]
abbrev iU.HH (s:Shared):=openSeen iU.view [] (importedModules PySem.Challenge.rw_factorforge_k24_squares_of_roots.row.toRowW.prog.main.body) (λs=>xlAt iU.view [] s && recOk (RowW.records PySem.Challenge.rw_factorforge_k24_squares_of_roots.row.toRowW) s) true s
theorem iU.h0:∀w,(fencedOpening treeTable PySem.Challenge.rw_factorforge_k24_squares_of_roots.row.toRowW.prog w 20000).map (λs=>(X.toT s).tree.list s.heap.objs.size)=(fencedOpening treeTable PySem.Challenge.rw_factorforge_k24_squares_of_roots.row.toRowW.prog w 20000).map (λs=>s.heap.objs.toList):=by intro w;kernel_rfl
theorem iU.h1:∀w,(X.RT treeTable PySem.Challenge.rw_factorforge_k24_squares_of_roots.row.toRowW.prog w 20000).map (λx=>(X.Qa PySem.Challenge.rw_factorforge_k24_squares_of_roots.row.toRowW.prog x.1 x.2.abs,iU.HH x.2.abs))=some (true,openGood iU.view []):=by intro w;kernel_rfl
theorem iU.fin {A:Type}{y:Shared->A}{a:A}(w:World)(h:(X.RT treeTable PySem.Challenge.rw_factorforge_k24_squares_of_roots.row.toRowW.prog w 20000).map (λx=>y x.2.abs)=some a):(openEnds treeTable PySem.Challenge.rw_factorforge_k24_squares_of_roots.row.toRowW.prog w 20000).map (λs=>(iU.HH s,y s))=some (openGood iU.view [],a):=
 X.wA (f:=λs=>(iU.HH s,y s)) (iU.h0 w) (X.both (iU.h1 w) h)
end
namespace L2
open PySem PySem.Spec PyProof.Rows
abbrev Key:=Sum Int Str
def keyIs:Key->Value->Bool
 | .inl k,v=>Value.isInt k v
 | .inr x,v=>Value.isStrOf x v
def keyH (w:World):Key->Int
 | .inl k=>hashInt k
 | .inr x=>hashStr w x
theorem keyIs_shape:∀{k:Key} {v:Value},keyIs k v=true->(∃i t,k=Sum.inl i/\v=Value.int i t)\/(∃x t,k=Sum.inr x/\v=Value.str x t)
 | .inl i,v,h=>by obtain⟨t,e⟩:=Value.isInt_shape (k:=i) (v:=v) h;exact .inl ⟨i,t,rfl,e⟩
 | .inr x,v,h=>by obtain⟨t,e⟩:=Value.isStrOf_shape (x:=x) (v:=v) h;exact .inr ⟨x,t,rfl,e⟩
theorem keyIs_int (i:Int)(t:Tok):keyIs (.inl i) (.int i t)=true:=by simp[keyIs,Value.isInt]
theorem keyIs_str (x:Str)(t:Tok):keyIs (.inr x) (.str x t)=true:=by simp[keyIs,Value.isStrOf]
theorem key_ll (a b:Int):decide ((Sum.inl a:Key)=Sum.inl b)=(a == b):=by
 by_cases e:a=b
 ·subst e;simp
 ·have h:¬(Sum.inl a:Key)=Sum.inl b:=λq=>e (fI q);rw[aH h];exact(beq_eq_false_iff_ne.mpr e).symm
theorem key_rr (a b:Str):decide ((Sum.inr a:Key)=Sum.inr b)=decide (a=b):=by
 by_cases e:a=b
 ·subst e;simp
 ·have h:¬(Sum.inr a:Key)=Sum.inr b:=λq=>e (Sum.inr.inj q);rw[aH h,aH e]
theorem key_lr (a:Int)(b:Str):decide ((Sum.inl a:Key)=Sum.inr b)=false:=aH (λq=>nomatch q)
theorem key_rl (a:Str)(b:Int):decide ((Sum.inr a:Key)=Sum.inl b)=false:=aH (λq=>nomatch q)
def mixKind (prog:Program)(w:World):PySem.KeyKind prog w Key where
 is:=keyIs
 hash:=keyH w
 inj:=λv a b ha hb=>by
  rcases keyIs_shape ha with⟨i,t,rfl,rfl⟩|⟨x,t,rfl,rfl⟩
  ·rcases keyIs_shape hb with⟨j,u,rfl,e⟩|⟨y,u,rfl,e⟩
   ·injection e with e1 _;rw[e1]
   ·exact nomatch e
  ·rcases keyIs_shape hb with⟨j,u,rfl,e⟩|⟨y,u,rfl,e⟩
   ·exact nomatch e
   ·injection e with e1 _;rw[e1]
 byValue:=λk v h=>by rcases keyIs_shape h with⟨i,t,rfl,rfl⟩|⟨x,t,rfl,rfl⟩<;>rfl
 pyHash:=λhv h=>by
  rcases keyIs_shape hv with⟨i,t,rfl,rfl⟩|⟨x,t,rfl,rfl⟩
  ·exact wpAny_pyHash_int h
  ·exact wpAny_pyHash_str h
 eqBool:=λhu hv h=>by
  rcases keyIs_shape hu with⟨i,t,rfl,rfl⟩|⟨x,t,rfl,rfl⟩
  ·rcases keyIs_shape hv with⟨j,u,rfl,rfl⟩|⟨y,u,rfl,rfl⟩
   ·rw[key_ll]at h;exact wpAny_eqBool_int h
   ·rw[key_lr]at h;exact SeqAt.EqAt.int_str i t y u _ _ _ _ h
  ·rcases keyIs_shape hv with⟨j,u,rfl,rfl⟩|⟨y,u,rfl,rfl⟩
   ·rw[key_rl]at h;exact SeqAt.EqAt.str_int x t j u _ _ _ _ h
   ·rw[key_rr]at h;exact wpAny_eqBool_str h
 «strs»:=λk x t v h=>by
  rcases keyIs_shape h with⟨i,u,rfl,e⟩|⟨y,u,rfl,e⟩
  ·exact nomatch e
  ·injection e with e1 _;subst e1;cases v<;>rfl
theorem mixKind_int (prog:Program)(w:World)(i:Int)(t:Tok):(mixKind prog w).is (.inl i) (.int i t)=true:=keyIs_int i t
theorem mixKind_str (prog:Program)(w:World)(x:Str)(t:Tok):(mixKind prog w).is (.inr x) (.str x t)=true:=keyIs_str x t
inductive V where
 |non|bl (b:Bool)|int (i:Int)|str (x:Str)|byt (b:Array UInt8)|flt (b:UInt64)|ref (a:Addr)|ty (n:String)
 deriving DecidableEq
def RelV:V->Value->Prop
 | .non,u=>u=Value.none
 | .bl b,u=>u=Value.bool b
 | .int i,u=>∃t,u=Value.int i t
 | .str x,u=>∃t,u=Value.str x t
 | .byt b,u=>∃t,u=Value.bytes b t
 | .flt b,u=>∃t,u=Value.float b t
 | .ref a,u=>u=Value.ref a
 | .ty n,u=>u=Value.type n
abbrev Vals:List V->List Value->Prop:=Paired RelV
theorem Vals.length (r:Vals xs us):xs.length=us.length:=eE r
theorem Vals.get:∀{xs:List V} {us:Lv} {i:Nat} {x:V},Vals xs us->xs[i]?=some x->∃u,us[i]?=some u/\RelV x u
 |_,_,_,_,.nil,e=>by simp at e
 |_,_,0,_,.cons r _,e=>by simp at e;subst e;exact⟨_,rfl,r⟩
 |_,_,i+1,x,.cons _ t,e=>by obtain⟨u,h1,h2⟩:=Vals.get (i:=i) (x:=x) t (by simpa using e);exact⟨u,by simpa using h1,h2⟩
theorem Vals.set (r:RelV x u):∀{xs:List V} {us:Lv} (i:Nat),Vals xs us->Vals (xs.set i x) (us.set i u)
 |_,_,_,.nil=>.nil
 |_,_,0,.cons _ t=>.cons r t
 |_,_,i+1,.cons q t=>.cons q (Vals.set r i t)
theorem Vals.append:∀{xs ys:List V} {us ws:Lv},Vals xs us->Vals ys ws->Vals (xs++ys) (us++ws)
 |_,_,_,_,.nil,s=>s
 |_,_,_,_,.cons r t,s=>.cons r (Vals.append t s)
theorem Vals.take:∀{xs:List V} {us:Lv} (n:Nat),Vals xs us->Vals (xs.take n) (us.take n)
 |_,_,0,_=>.nil
 |_,_,_+1,.nil=>.nil
 |_,_,n+1,.cons r t=>.cons r (Vals.take n t)
theorem Vals.drop:∀{xs:List V} {us:Lv} (n:Nat),Vals xs us->Vals (xs.drop n) (us.drop n)
 |_,_,0,r=>r
 |_,_,_+1,.nil=>.nil
 |_,_,n+1,.cons _ t=>Vals.drop n t
theorem Vals.none_of:∀{xs:List V} {us:Lv} {i:Nat},Vals xs us->xs[i]?=none->us[i]?=none:=λ{xs us i} r e=>by have h1:=r.length;have h2:xs.length<=i:=ee.mp e;exact ee.mpr (by lia)
def RelO:Option V->Option Value->Prop
 |some v,some u=>RelV v u
 |none,none=>True
 |_,_=>False
def KV {κ:Type}:List (κ×V)->List (κ×Value)->Prop:=Paired λ(p:κ×V) (q:κ×Value)=>p.1=q.1/\RelV p.2 q.2
def kV:Key->V
 | .inl i=>.int i
 | .inr x=>.str x
structure qY where
 q:Str
 ps:Array Value
instance:HAppend qY (Array Value) qY:=⟨λt m=>⟨t.q,t.ps++m⟩⟩
@[simp] theorem qY.append_nil (t:qY):t++(#[]:Array Value)=t:=by obtain⟨q,ps⟩:=t;show qY.mk q (ps ++ #[])=⟨q,ps⟩;rw[Array.append_empty]
theorem qY.append_assoc (t:qY)(a b:Array Value):t++a++b=t++(a++b):=by obtain⟨q,ps⟩:=t;show qY.mk q (ps++a++b)=⟨q,ps++(a++b)⟩;rw[Array.append_assoc]
def uY (o:Obj)(q:Str):Prop:=∃vs t,o.data=.fields vs/\vs[1]?=some (.str q t)
inductive HO where
 |lst (xs:List V)
 |tup (xs:List V)
 |dK (kvs:List (Key×V))|dT (kvs:List (List Key×V))
 |set (S:Int->Bool) (n:Nat)
 |ins (C dx:Addr) (fs:List (Str×V))
 |own (x:Addr)
 |xd (fs:List (Str×V))
 |met (f x:Addr)
 |rng (lo hi:Int)
 |frz (o:Obj) (u:HO)
 |tbl (ps:qY)
 |ext (φ:Heap->Prop)
abbrev Hp:=Addr->Option HO
def upd (H:Hp)(a:Addr)(o:HO):Hp:=λb=>if b=a then some o else H b
theorem upd_same:upd H a o a=some o:=by unfold upd;rw[ae rfl]
theorem upd_ne (h:b≠a):upd H a o b=H b:=by unfold upd;rw[af h]
theorem upd_upd:upd (upd H a o) a u=upd H a u:=by funext b;unfold upd;split<;>rfl
theorem ne_of {H:Hp}{a b:Addr}{o u:HO}(h:H a=some o)(h':H b=some u)(d:o≠u):a≠b:=by intro e;subst e;rw[h]at h';exact d (aw h')
theorem ne_of_none {H:Hp}{a b:Addr}{o:HO}(h:H a=some o)(h':H b=none):a≠b:=by intro e;subst e;rw[h]at h';cases h'
section
variable (P:Program)(w:World)
def ObjOk (H:Hp)(h:Heap)(a:Addr):HO->Prop
 | .lst xs=>xs.length<=sizeLine/\∃(its:List Value) (n:Nat),Vals xs its/\h.get? a=some { cls:=.type "list",data:=.seq its.toArray n }
 | .tup xs=>xs.length<=sizeLine/\∃its:List Value,Vals xs its/\IsTup h a its.toArray
 | .dK kvs=>kvs.length<=sizeLine/\(a == sysModules)=false/\∃vs,KV kvs vs/\h.DictOf (mixKind P w) a vs
 | .dT kvs=>kvs.length<=sizeLine/\(a == sysModules)=false/\∃xs:List (List Key×Addr×Value),
   Paired (λ(p:List Key×V) (q:List Key×Addr×Value)=>p.1=q.1/\H q.2.1=some (.tup (p.1.map kV))/\RelV p.2 q.2.2) kvs xs /\
   ∃o es ep,h.get? a=some o/\o.ExactDict/\o.data=.dict es ep/\es.toList=xs.map (entryOfKey (tupleKind (mixKind P w)))/\(xs.map (·.1)).Nodup
 | .set S n=>h.SetOf (intKind P w) a S n
 | .ins C dx fs=>H dx=some (.own a)/\fs.length<=1000/\dx≠a/\h.get? a=some (W.instObj C dx) /\
   ∃mA,h.Ns1 dx mA/\(∀f,RelO (fs.lookup f) (mA f))/\PySem.Within mA (fs.map (·.1))
 | .own _=>∃o,h.get? a=some o
 | .xd fs=>∃mA,h.Ns1 a mA/\∀f,RelO (fs.lookup f) (mA f)
 | .rng lo hi=>∃t u v,h.get? a=some { cls:=.type "range",data:=.fields #[.int lo t,.int hi u,.int 1 v] }
 | .frz o u=>h.get? a=some o/\ObjOk H h a u
 | .tbl ps=>h.get? a=some { cls:=.none,data:=.fields ps.ps }/\TriplesOk ps.ps.toList/\∀p cv,codeAmong p ps.ps.toList=some cv->∃c oc u,cv=Value.ref c/\H c=some (.frz oc u)/\uY oc ps.q
 | .met f x=>h.get? a=some (W.methodObj (.ref f) (.ref x))
 | .ext φ=>φ h/\(∃o,h.get? a=some o)/\∀h1 h2:Heap,φ h1->(∀o,h1.get? a=some o->h2.get? a=some o)->φ h2
def HOk (H:Hp)(h:Heap):Prop:=∀a o,H a=some o->ObjOk P w H h a o
end
section
variable {P:Program}{w:World}{H H':Hp}{h h':Heap}{a:Addr}{o:HO}
theorem ObjOk.lt (x:ObjOk P w H h a o):a<h.objs.size:=by
 cases o with
 |lst xs=>obtain⟨_,_,_,_,e⟩:=x;exact ai e
 |tup xs=>obtain⟨_,_,_,p⟩:=x;exact p.lt
 |dK kvs=>obtain⟨_,_,_,_,o,_,_,e,_⟩:=x;exact ai e
 |dT kvs=>obtain⟨_,_,_,_,o,_,_,e,_⟩:=x;exact ai e
 |set S n=>obtain⟨o,_,_,_,e,_⟩:=x;exact ai e
 |ins C dx fs=>obtain⟨_,_,_,e,_⟩:=x;exact ai e
 |own y=>obtain⟨_,e⟩:=x;exact ai e
 |xd fs=>obtain⟨_,⟨_,_,_,e,_⟩,_⟩:=x;exact ai e
 |rng lo hi=>obtain⟨_,_,_,e⟩:=x;exact ai e
 |frz ob u=>obtain⟨e,_⟩:=x;exact ai e
 |tbl ps=>exact ai x.1
 |met f y=>exact ai (show h.get? a=some _ from x)
 |ext φ=>obtain⟨_,⟨_,e⟩,_⟩:=x;exact ai e
theorem Paired.mapP:∀{l₁:List α} {l₂:List β},Paired F l₁ l₂->(∀a b,F a b->G a b)->Paired G l₁ l₂
 |_,_,.nil,_=>.nil
 |_,_,.cons r t,f=>.cons (f _ _ r) (Paired.mapP t f)
theorem ObjOk.stay (x:ObjOk P w H h a o)(k:∀b u,(b=a\/H b=some (.own a))->h.get? b=some u->h'.get? b=some u)
  (ho:∀b,H b=some (.own a)->H' b=some (.own a)) (ht:∀b xs,H b=some (.tup xs)->H' b=some (.tup xs)) (hz:∀b o u,H b=some (.frz o u)->H' b=some (.frz o u):=by intro _ _ _ q;exact q):ObjOk P w H' h' a o:=by
 induction o with
 |lst xs=>obtain⟨z,its,n,r,e⟩:=x;exact⟨z,its,n,r,k _ _ (.inl rfl) e⟩
 |tup xs=>obtain⟨z,its,r,ob,e,c⟩:=x;exact⟨z,its,r,ob,k _ _ (.inl rfl) e,c⟩
 |dK kvs=>obtain⟨z,y,vs,r,ob,es,ep,e,c⟩:=x;exact⟨z,y,vs,r,ob,es,ep,k _ _ (.inl rfl) e,c⟩
 |dT kvs=>obtain⟨z,y,xs,r,ob,es,ep,e,c⟩:=x;exact⟨z,y,xs,Paired.mapP r λp q z=>⟨z.1,ht _ _ z.2.1,z.2.2⟩,ob,es,ep,k _ _ (.inl rfl) e,c⟩
 |set S n=>obtain⟨ob,es,ep,t,e,c⟩:=x;exact⟨ob,es,ep,t,k _ _ (.inl rfl) e,c⟩
 |ins C dx fs=>obtain⟨d,z,ne,e,mA,⟨od,es,ep,e2,c⟩,r⟩:=x;exact⟨ho _ d,z,ne,k _ _ (.inl rfl) e,mA,⟨od,es,ep,k _ _ (.inr d) e2,c⟩,r⟩
 |own y=>obtain⟨ob,e⟩:=x;exact⟨ob,k _ _ (.inl rfl) e⟩
 |xd fs=>obtain⟨mA,⟨od,es,ep,e,c⟩,r⟩:=x;exact⟨mA,⟨od,es,ep,k _ _ (.inl rfl) e,c⟩,r⟩
 |rng lo hi=>obtain⟨t,u,v,e⟩:=x;exact⟨t,u,v,k _ _ (.inl rfl) e⟩
 |frz ob u ih=>obtain⟨e,q⟩:=x;exact⟨k _ _ (.inl rfl) e,ih q⟩
 |tbl ps=>obtain⟨e,t,g⟩:=x;exact⟨k a _ (.inl rfl) e,t,λp cv hc=>let ⟨c,oc,u,y,z,q⟩:=g p cv hc;⟨c,oc,u,y,hz _ _ _ z,q⟩⟩
 |met f y=>have e:h.get? a=some (W.methodObj (.ref f) (.ref y)):=x;show h'.get? a=some (W.methodObj (.ref f) (.ref y));exact k a _ (.inl rfl) e
 |ext φ=>obtain⟨p,⟨o,e⟩,st⟩:=x;exact⟨st _ _ p λo q=>k _ _ (.inl rfl) q,⟨o,k _ _ (.inl rfl) e⟩,st⟩
theorem HOk.lt (x:HOk P w H h)(e:H a=some o):a<h.objs.size:=(x a o e).lt
theorem HOk.fresh (x:HOk P w H h)(e:h.objs.size<=a):H a=none:=by
 cases q:H a with
 |none=>rfl
 |some u=>exact absurd (ay (x.lt q) e) (bC _)
theorem HOk.kept (x:HOk P w H h)(k:∀b u,h.get? b=some u->h'.get? b=some u):HOk P w H h':=λa o e=>
 (x a o e).stay (λb u _ q=>k b u q) (λ_ q=>q) λ_ _ q=>q
theorem HOk.laid (x:HOk P w H h)(k:∀b u,h.get? b=some u->h'.get? b=some u)(hp:h.objs.size<=a)(new:ObjOk P w (upd H a o) h' a o):HOk P w (upd H a o) h':=λb u e=>by
 have hn:=x.fresh hp;by_cases hb:b=a
 ·subst hb;rw[upd_same]at e;cases e;exact new
 ·rw[upd_ne hb]at e;exact(x b u e).stay (λc v _ q=>k c v q) (λc q=>by rw[upd_ne (ne_of_none q hn)];exact q) (λc xs q=>by rw[upd_ne (ne_of_none q hn)];exact q) λc _ _ q=>by rw[upd_ne (ne_of_none q hn)];exact q
end
def Rd (H:Hp)(a:Addr)(u:HO):Prop:=H a=some u\/∃o,H a=some (.frz o u)
theorem Rd.ok (r:Rd H a u)(x:HOk P w H h):ObjOk P w H h a u:=by
 rcases r with r|⟨o,r⟩
 ·exact x a u r
 ·obtain⟨_,q⟩:=x a _ r;exact q
def Mut:Option HO->Prop
 |some (.lst _)=>True
 |some (.dK _)=>True
 |some (.dT _)=>True
 |some (.set _ _)=>True
 |some (.ins _ _ _)=>True
 |some (.ext _)=>True
 |_=>False
section
variable {P:Program}{w:World}{H:Hp}{h h':Heap}{x e:Addr}{o':HO}
theorem HOk.write (ok:HOk P w H h)(mu:Mut (H x))(he:e=x\/H e=some (.own x))(k:∀b u,b≠e->h.get? b=some u->h'.get? b=some u)(heo:∃u,h'.get? e=some u)
  (new:ObjOk P w (upd H x o') h' x o'):HOk P w (upd H x o') h':=λb u q=>by
 have nown:∀c y,H c=some (.own y)->c≠x:=λc y r z=>by subst z;rw[r]at mu;exact mu
 have ntup:∀c xs,H c=some (.tup xs)->c≠x:=λc xs r z=>by subst z;rw[r]at mu;exact mu
 have nfrz:∀c o u,H c=some (.frz o u)->c≠x:=λc o u r z=>by subst z;rw[r]at mu;exact mu
 by_cases hb:b=x
 ·subst hb;rw[upd_same]at q;cases q;exact new
 ·rw[upd_ne hb]at q;by_cases hbe:b=e
  ·have q':H b=some (.own x):=by
    rcases he with z|z
    ·exact absurd (hbe.trans z) hb
    ·rw[hbe];exact z
   rw[q]at q';cases q';obtain⟨v,hv⟩:=heo;exact⟨v,by rw[hbe];exact hv⟩
  ·refine(ok b u q).stay (λc v hc r=>k c v ?_ r) (λc r=>by rw[upd_ne (nown c b r)];exact r) (λc xs r=>by rw[upd_ne (ntup c xs r)];exact r) λc o u r=>by rw[upd_ne (nfrz c o u r)];exact r
   rcases hc with rfl|hc
   ·exact hbe
   ·rintro rfl;rcases he with z|z
    ·exact nown c b hc z
    ·rw[hc]at z;cases z;exact hb rfl
end
structure Un (fs ex:List Addr)(H H':Hp)(h h':Heap):Prop where
 keep:∀b o,h.get? b=some o->H b=none->b∉fs->b∉ex->h'.get? b=some o
 slot:∀b o,h.get? b=some o->H b=none->b∈fs->b∉ex->∃sl,h'.get? b=some { o with slots:=sl }
 free:∀b o,h.get? b=some o->H b=none->b∉ex->H' b=none
 there:∀b o,h.get? b=some o->b∉ex->∃o',h'.get? b=some o'
 tups:∀b xs,H b=some (.tup xs)->H' b=some (.tup xs)
 frzs:∀b o u,H b=some (.frz o u)->H' b=some (.frz o u)
 tbls:∀b ps,H b=some (.tbl ps)->∃more:Array Value,H' b=some (.tbl (ps++more))
section
variable {fs fs' ex ex':List Addr}{H H1 H2:Hp}{h h1 h2 h':Heap}{a x e:Addr}{o:HO}
theorem Un.any (u:Un fs ex H H1 h h1)(q:h.get? b=some ob)(n:H b=none)(hx:b∉ex):∃sl,h1.get? b=some { ob with slots:=sl }:=by
 by_cases hb:b∈fs
 ·exact u.slot b ob q n hb hx
 ·exact⟨ob.slots,u.keep b ob q n hb hx⟩
theorem Un.kept (k:∀b u,h.get? b=some u->h'.get? b=some u):Un fs ex H H h h':=
 ⟨λb ob q _ _ _=>k b ob q,λb ob q _ _ _=>⟨ob.slots,k b ob q⟩,λ_ _ _ n _=>n,λb ob q _=>⟨ob,k b ob q⟩,λ_ _ q=>q,λ_ _ _ q=>q,λ_ ps q=>⟨#[],by rw[q];simp⟩⟩
theorem Un.refl:Un fs ex H H h h:=Un.kept λ_ _ q=>q
theorem Un.laid (k:∀b u,h.get? b=some u->h'.get? b=some u)(hp:h.objs.size<=a)(hn:H a=none):Un fs ex H (upd H a o) h h' where
 keep:=λb u q _ _ _=>k b u q
 slot:=λb u q _ _ _=>⟨u.slots,k b u q⟩
 free:=λb u q n _=>by rw[upd_ne (aO (ay (ai q) hp))];exact n
 there:=λb u q _=>⟨u,k b u q⟩
 tups:=λb xs q=>by rw[upd_ne (ne_of_none q hn)];exact q
 frzs:=λb u xs q=>by rw[upd_ne (ne_of_none q hn)];exact q
 tbls:=λb ps q=>⟨#[],by rw[upd_ne (ne_of_none q hn),q];simp⟩
theorem Un.write (mu:Mut (H x))(he:e=x\/H e=some (.own x))(k:∀b u,b≠e->h.get? b=some u->h'.get? b=some u)(heo:∃u,h'.get? e=some u):Un fs ex H (upd H x o) h h':=by
 have hx:∀b,H b=none->b≠x:=λb n z=>by subst z;rw[n]at mu;exact mu
 have hb:∀b,H b=none->b≠e:=λb n z=>by
  subst z;rcases he with r|r
  ·exact hx b n r
  ·rw[n]at r;cases r
 have hm:∀b u,H b=some u->¬Mut (some u)->b≠x:=λb u q nm z=>by subst z;rw[q]at mu;exact nm mu
 refine⟨λb u q n _ _=>k b u (hb b n) q,λb u q n _ _=>⟨u.slots,k b u (hb b n) q⟩,λb u q n _=>by rw[upd_ne (hx b n)];exact n,λb u q _=>?_,
  λb xs q=>by rw[upd_ne (hm b _ q λz=>z)];exact q,λb u xs q=>by rw[upd_ne (hm b _ q λz=>z)];exact q,λb ps q=>⟨#[],by rw[upd_ne (hm b _ q λz=>z),q];simp⟩⟩
 by_cases hbe:b=e
 ·subst hbe;exact heo
 ·exact⟨u,k b u hbe q⟩
end
def trk (h:Heap)(H:Hp):List Addr:=(List.range h.objs.size).filter λa=>(H a).isSome
def hidT (h:Heap)(H:Hp):Heap:=W.hideAll h (trk h H)
theorem hidT_size (h:Heap)(H:Hp):(hidT h H).objs.size=h.objs.size:=W.hideAll_size _ _
theorem hidT_get (e:h.get? b=some o)(n:H b=none):(hidT h H).get? b=some o:=
 W.hideAll_get _ e λhm=>by have q:(H b).isSome=true:=(dO.mp hm).2;rw[n]at q;simp at q
theorem of_hidT (e:(hidT h H).get? b=some o):h.get? b=some o/\H b=none:=by
 have e':h.get? b=some o:=W.of_hideAll (trk h H) e;refine⟨e',?_⟩;cases q:H b with
 |none=>rfl
 |some x=>have hm:b∈trk h H:=dO.mpr ⟨cE.mpr (ai e'),by simp[q]⟩;have z:(hidT h H).get? b=none:=W.hideAll_none (trk h H) hm;rw[z]at e;cases e
def allNews (g h:Heap)(L:Addr):List (Addr×Obj):=(List.range h.objs.size).filterMap λa=>if a=L\/(g.get? a).isSome=true then none else(h.get? a).map λo=>(a,o)
theorem mem_allNews (h1:a≠L)(h2:g.get? a=none)(h3:h.get? a=some o):(a,o)∈allNews g h L:=
 bD.mpr ⟨a,cE.mpr (ai h3),by simp[h1,h2,h3]⟩
theorem of_mem_allNews (hp:p∈allNews g h L):p.1≠L/\g.get? p.1=none/\h.get? p.1=some p.2:=by
 obtain⟨b,_,e⟩:=bD.mp hp;split at e
 ·cases e
 ·rename_i hn;cases q:h.get? b with
  |none=>rw[q]at e;simp at e
  |some u=>
   rw[q]at e;simp only[fg,Option.some.injEq]at e;subst e;refine⟨λz=>hn (.inl z),?_,q⟩;show g.get? b=none;cases r:g.get? b with
   |none=>rfl
   |some v=>exact(hn (.inr (by simp[r]))).elim
def rest (g h:Heap)(L d:Addr):List (Addr×Obj):=(allNews g h L).filter λp=>decide (p.1≠d)
theorem news_all:News g L h (allNews g h L):=λp hp=>let ⟨a,b,c⟩:=of_mem_allNews hp;⟨c,a,b⟩
def O8 (mg:Mg)(h:Heap):Prop:=∃bm ob,mg "__builtins__"=some (.ref bm)/\bm≠builtinsNs/\h.get? bm=some ob/\ob.cls=.type "module"/\ob.dict=some builtinsNs/\ob.data=.plain
structure Mod (K:Fg)(mg:Mg)(base:Heap):Prop where
 kin:K.In base
 glob:base.Ns mainGlobals mg
 blt:∃mb,base.Ns builtinsNs mb/\∀x:Str,x≠"__name__"->mb x=bootBuiltins x
 nolimit:base.NoLimit
 bm:O8 mg base
structure Cx where
 prog:Program
 w:World
 K:Fg
 mg:Str->Option Value
 base:Heap
 A:Around
 N:List Str
 s₀:Shared
 H₀:Hp
 env:Env
 outer:List Env
 stack:List Env
 ex:List Addr
 fn:Str->Bool
 calm:Bool
 pn:List (Addr×Obj)
 xe:Value->Shared->Prop
def frs (l:List Env):List Addr:=l.filterMap (·.frame)
abbrev Cx.fs (X:Cx):List Addr:=frs X.outer
def Vis (sc:Scope)(x:Str):Prop:=sc.names.lookup x=some .local\/sc.names.lookup x=some .cell\/sc.names.lookup x=some .free
def Loc (sc:Scope)(x:Str):Prop:=sc.names.lookup x=some .local\/sc.names.lookup x=some .cell
def Look (env:Env)(h:Heap)(m:Mg)(x:Str)(u:Value):Prop:=
 (env.kindOf x=some .local/\m x=some u)\/((env.kindOf x=some .cell\/env.kindOf x=some .free)/\∃c,env.cells.lookup x=some c/\h.IsCell c (some u))
def JW:Stmt->Bool
 | .Return (some (.Call _ _ [⟨_,.Lambda _ _ _ _,_⟩] _)) _=>true
 | .Return (some (.Tuple [_,.Call _ _ [⟨_,.Lambda _ _ _ _,_⟩] _] _ _)) _=>true
 |_=>false
def JV:FuncBody->Bool
 | .stmts ss=>ss.any JW
 |_=>false
def ju (K:Fg):List (Addr×Addr×Str):=K.filterMap λx=>match x.2.data with
 | .func fd=>if JV fd.body=true then(match fd.code with
   | .ref c=>(match K.lookup c with
    |some ⟨_,_,.fields vs,_⟩=>(match (vs[11]?:Option Value) with
     |some (.ref P)=>if W.codeHdIn K c P=true then some (c,P,fd.qualname++".<locals>."++"<lambda>") else none
     |_=>none)
    |_=>none)
   |_=>none) else none
 |_=>none
structure Q8 (K:Fg)(H:Hp)(fs:List Addr):Prop where
 f:∀b∈fs,H b=none
 t:∀x∈ju K,∃ps,H x.2.1=some (.tbl ⟨x.2.2,ps⟩)
structure Cx.Ok (X:Cx):Prop where
 mod:Mod X.K X.mg X.base
 kind:X.env.scope.kind=.function
 glob:X.env.globals=mainGlobals
 blt:X.env.builtins=builtinsNs
 above:X.s₀.heap.objs.size<=X.env.locals
 inj:∀x y c,X.env.cells.lookup x=some c->X.env.cells.lookup y=some c->x=y
 has:∀x,(X.env.kindOf x=some .cell\/X.env.kindOf x=some .free)->∃c,X.env.cells.lookup x=some c
 cab:∀x c,X.fn x=true->X.env.cells.lookup x=some c->X.s₀.heap.objs.size<=c
 hd:X.calm=true->X.A.handled=none
 frames:X.A.frames=some X.stack
 stk:X.stack=X.outer\/(X.stack=X.env::X.outer/\X.env.frame=some X.env.locals)
 exf:∀b∈X.ex,b≠X.env.locals/\∀x c,X.env.cells.lookup x=some c->c≠b
 bs:∀b o,X.base.get? b=some o->X.s₀.heap.get? b=some o/\X.H₀ b=none
 bsz:X.base.objs.size<=X.s₀.heap.objs.size
 noex:∀b o,X.base.get? b=some o->b∉X.ex
 exfs:∀b∈X.ex,b∉X.fs
 funs:X.s₀.heap.FunFrames X.base X.outer
 frf:Q8 X.K X.H₀ X.fs
structure Inv (X:Cx)(pins:List (Addr×Obj))(σ:List (Option V))(H:Hp)(s:Shared):Prop where
 ok:X.Ok
 os:s.os=X.s₀.os
 bare:AllBare s.gens
 base:Un X.fs X.ex X.H₀ H X.s₀.heap s.heap
 loc:∃m,s.heap.Ns X.env.locals m/\∀(i:Nat) (x:Str) (v:V),X.N[i]?=some x->σ[i]?=some (some v)->Vis X.env.scope x->∃u,RelV v u/\Look X.env s.heap m x u
 cell:∀x c,X.env.cells.lookup x=some c->∃v,s.heap.IsCell c v
 free:H X.env.locals=none
 freeC:∀x c,X.env.cells.lookup x=some c->H c=none
 pin:∀p∈X.pn++pins,s.heap.get? p.1=some p.2/\H p.1=none/\p.1≠X.env.locals/\p.1∉X.fs/\∀v,p.2.data ≠ .cell v
 hok:HOk X.prog X.w H s.heap
 len:σ.length=X.N.length
section
variable {X:Cx}{pins:List (Addr×Obj)}{σ:List (Option V)}{H H':Hp}{s:Shared}{h':Heap}
theorem Cx.Ok.nofr (ok:X.Ok)(e:X.base.get? b=some o):b∉X.fs:=λhb=>by have:=(ok.funs.mem hb).1;rw[e]at this;cases this
theorem Inv.bs (I:Inv X pins σ H s):∀b o,X.base.get? b=some o->s.heap.get? b=some o/\H b=none:=λb o e=>
 ⟨I.base.keep b o (I.ok.bs b o e).1 (I.ok.bs b o e).2 (I.ok.nofr e) (I.ok.noex b o e),I.base.free b o (I.ok.bs b o e).1 (I.ok.bs b o e).2 (I.ok.noex b o e)⟩
theorem Inv.bk (I:Inv X pins σ H s):∀b o,X.base.get? b=some o->s.heap.get? b=some o:=λb o e=>(I.bs b o e).1
theorem Inv.mod (I:Inv X pins σ H s):Mod X.K X.mg X.base:=I.ok.mod
theorem Inv.kIn (I:Inv X pins σ H s):X.K.In s.heap:=I.ok.mod.kin.keeps I.bk
theorem Inv.fr (I:Inv X pins σ H s):∃m,Fr X.base X.env.locals s.heap m:=
 let ⟨m,hn,_⟩:=I.loc
 ⟨m,hn,I.bk,aG I.ok.bsz I.ok.above⟩
theorem Inv.lt (I:Inv X pins σ H s):X.env.locals<s.heap.objs.size:=let ⟨_,hn,_⟩:=I.loc;hn.lt
theorem Inv.sz (I:Inv X pins σ H s):X.s₀.heap.objs.size<=s.heap.objs.size:=aG I.ok.above (bM I.lt)
theorem Inv.nofs (I:Inv X pins σ H s){a:Addr}(h:s.heap.objs.size<=a):a∉X.fs:=λhb=>by obtain⟨_,o,ho,_⟩:=I.ok.funs.mem hb;exact absurd (ay (ai ho) (aG I.sz h)) (bC _)
theorem Inv.cne (I:Inv X pins σ H s):∀x c,X.env.cells.lookup x=some c->c≠X.env.locals:=λx c e z=>by obtain⟨v,o,ho,hd⟩:=I.cell x c e;obtain⟨m,⟨o',es,ep,ho',hd',_⟩,_⟩:=I.loc;rw[z,ho']at ho;cases ho;rw[hd']at hd;cases hd
theorem Inv.funs (I:Inv X pins σ H s):s.heap.FunFrames X.base X.outer:=by
 have all:∀(l:List Env),(∀b∈frs l,b∈X.fs)->X.s₀.heap.FunFrames X.base l->s.heap.FunFrames X.base l:=by
  intro l
  induction l with
  |nil=>intro _ _;trivial
  |cons env r ih=>intro hs hl;obtain⟨hk,⟨L,o,hf,hn,ho,hd⟩,hr⟩:=hl;have hL:L∈X.fs:=hs L (by unfold frs;rw[aJ,hf];exact ag);obtain⟨sl,e⟩:=I.base.slot L o ho (I.ok.frf.f L hL) hL λz=>I.ok.exfs L z hL;exact⟨hk,⟨L,_,hf,hn,e,hd⟩,ih (λb hb=>hs b (by unfold frs;rw[aJ,hf];exact ac _ hb)) hr⟩
 exact all X.outer (λ_ hb=>hb) I.ok.funs
theorem Inv.stack (I:Inv X pins σ H s):s.heap.FunFrames X.base X.stack:=by
 rcases I.ok.stk with e|⟨e,hf⟩
 ·rw[e];exact I.funs
 ·rw[e];obtain⟨m,hn,_⟩:=I.loc;refine .cons (by rw[I.ok.kind];decide) hf hn ?_ I.funs;exact Heap.get?_none_of_le (aG I.ok.bsz I.ok.above)
theorem Inv.stkSub (I:Inv X pins σ H s):∀b∈frs X.stack,b∈X.env.locals::X.fs:=λb hb=>by
 rcases I.ok.stk with e|⟨e,hf⟩
 ·rw[e]at hb;exact ac _ hb
 ·rw[e]at hb;unfold frs at hb;rw[aJ,hf]at hb;exact hb
theorem Inv.stkFree (I:Inv X pins σ H s):∀b∈frs X.stack,H b=none:=λb hb=>by
 rcases az.mp (I.stkSub b hb) with e|hb
 ·rw[e];exact I.free
 ·obtain⟨_,o,ho,_⟩:=I.ok.funs.mem hb;exact I.base.free b o ho (I.ok.frf.f b hb) λz=>I.ok.exfs b z hb
theorem Inv.step {g':Array GenState}{t':Nat}{d':Drawn}{ch:List Addr}(I:Inv X pins σ H s)
  (hch:∀b∈ch,(b∈X.ex\/X.s₀.heap.objs.size<=b)/\b≠X.env.locals/\(∀x c,X.env.cells.lookup x=some c->c≠b)/\∀p∈X.pn++pins,p.1≠b)
  (keep:∀b o,b≠X.env.locals->b∉X.fs->b∉ch->s.heap.get? b=some o->H b=none->h'.get? b=some o)
  (slot:∀b o,b≠X.env.locals->b∈X.fs->b∉ch->s.heap.get? b=some o->H b=none->∃sl,h'.get? b=some { o with slots:=sl }) (free:∀b o,b∉ch->s.heap.get? b=some o->H b=none->H' b=none)
  (there:∀b o,b∉ch->s.heap.get? b=some o->∃o',h'.get? b=some o')
  (tups:∀b xs,H b=some (.tup xs)->H' b=some (.tup xs)) (frzs:∀b o u,H b=some (.frz o u)->H' b=some (.frz o u)) (tbls:∀b ps,H b=some (.tbl ps)->∃more:Array Value,H' b=some (.tbl (ps++more)))
  (ns:∀m,s.heap.Ns X.env.locals m->h'.Ns X.env.locals m) (hok:HOk X.prog X.w H' h') (hg:AllBare g') :
  Inv X pins σ H' { s with heap:=h',gens:=g',drawn:=d',toks:=t' }:=by
 have neL:∀b o,X.s₀.heap.get? b=some o->b≠X.env.locals:=λb o e=>aO (ay (ai e) I.ok.above);have neC:∀b o,X.s₀.heap.get? b=some o->b∉X.ex->b∉ch:=λb o e hx hb=>by
  rcases (hch b hb).1 with z|z
  ·exact hx z
  ·exact absurd (ay (ai e) z) (bC _)
 have cellK:∀x c,X.env.cells.lookup x=some c->∀v,s.heap.IsCell c v->h'.IsCell c v:=λx c e v ⟨o,ho,hd⟩=>by
  have nch:c∉ch:=λz=>(hch c z).2.2.1 x c e rfl;by_cases hc:c∈X.fs
  ·obtain⟨sl,q⟩:=slot c o (I.cne x c e) hc nch ho (I.freeC x c e);exact⟨_,q,hd⟩
  ·exact⟨o,keep c o (I.cne x c e) hc nch ho (I.freeC x c e),hd⟩
 refine⟨I.ok,I.os,hg,⟨λb o e n hb hx=>?_,λb o e n hb hx=>?_,λb o e n hx=>?_,λb o e hx=>?_,λb xs e=>tups b xs (I.base.tups b xs e),λb o xs e=>frzs b o xs (I.base.frzs b o xs e),λb ps e=>?_⟩,?_,λx c e=>?_,?_,λx c e=>?_,λp hp=>?_,hok,I.len⟩
 ·exact keep b o (neL b o e) hb (neC b o e hx) (I.base.keep b o e n hb hx) (I.base.free b o e n hx)
 ·obtain⟨sl,e1⟩:=I.base.slot b o e n hb hx;obtain⟨sl',e2⟩:=slot b _ (neL b o e) hb (neC b o e hx) e1 (I.base.free b o e n hx);exact⟨sl',e2⟩
 ·obtain⟨o',e1⟩:=I.base.there b o e hx;exact free b o' (neC b o e hx) e1 (I.base.free b o e n hx)
 ·obtain⟨o',e1⟩:=I.base.there b o e hx;exact there b o' (neC b o e hx) e1
 ·obtain⟨m1,e1⟩:=I.base.tbls b ps e;obtain⟨m2,e2⟩:=tbls b _ e1;exact⟨m1++m2,by rw[e2,qY.append_assoc]⟩
 ·obtain⟨m,hn,hl⟩:=I.loc;refine⟨m,ns m hn,λi x v e1 e2 e3=>?_⟩;obtain⟨u,r,l⟩:=hl i x v e1 e2 e3;refine⟨u,r,?_⟩;rcases l with l|⟨k,c,e,z⟩
  ·exact .inl l
  ·exact .inr ⟨k,c,e,cellK x c e _ z⟩
 ·obtain⟨v,z⟩:=I.cell x c e;exact⟨v,cellK x c e v z⟩
 ·obtain⟨m,⟨o,_,_,ho,_⟩,_⟩:=I.loc;exact free _ o (λz=>(hch _ z).2.1 rfl) ho I.free
 ·obtain⟨v,o,ho,hd⟩:=I.cell x c e;exact free c o (λz=>(hch c z).2.2.1 x c e rfl) ho (I.freeC x c e)
 ·obtain⟨e,n,ne,nf,d⟩:=I.pin p hp;have nch:p.1∉ch:=λz=>(hch p.1 z).2.2.2 p hp rfl;exact⟨keep p.1 p.2 ne nf nch e n,free p.1 p.2 nch e n,ne,nf,d⟩
theorem Inv.un {t':Nat}(I:Inv X pins σ H s)(u:Un X.fs [] H H' s.heap h')(hok:HOk X.prog X.w H' h'):Inv X pins σ H' { s with heap:=h',toks:=t' }:=by
 obtain⟨m,⟨o,es,ep,ho,r⟩,_⟩:=id I.loc;obtain⟨sl,hL⟩:=u.any ho I.free (by simp);exact I.step (g':=s.gens) (d':=s.drawn) (ch:=[]) (λ_ z=>nomatch z) (λb o _ hb _ e n=>u.keep b o e n hb (by simp)) (λb o _ hb _ e n=>u.slot b o e n hb (by simp)) (λb o _ e n=>u.free b o e n (by simp)) (λb o _ e=>u.there b o e (by simp)) u.tups u.frzs u.tbls (λm' hm=>by
  obtain⟨o',es',ep',ho',r'⟩:=hm;rw[ho]at ho';cases ho';exact⟨_,es',ep',hL,r'⟩) hok I.bare
theorem Inv.call {g':Array GenState}{t':Nat}{d':Drawn}{ch:List Addr}(I:Inv X pins σ H s)(u:Un (frs X.stack) ch H H' s.heap h')(hok:HOk X.prog X.w H' h')(hg:AllBare g')
  (hch:∀b∈ch,(b∈X.ex\/X.s₀.heap.objs.size<=b)/\b≠X.env.locals/\(∀x c,X.env.cells.lookup x=some c->c≠b)/\∀p∈X.pn++pins,p.1≠b) :
  Inv X pins σ H' { s with heap:=h',gens:=g',drawn:=d',toks:=t' }:=by
 obtain⟨m,⟨o,es,ep,ho,r⟩,_⟩:=id I.loc;obtain⟨sl,hL⟩:=u.any ho I.free λz=>(hch _ z).2.1 rfl;exact I.step (ch:=ch) hch (λb o hL hb hc e n=>u.keep b o e n (λz=>(az.mp (I.stkSub b z)).elim hL hb) hc) (λb o _ _ hc e n=>u.any e n hc) (λb o hc e n=>u.free b o e n hc) (λb o hc e=>u.there b o e hc) u.tups u.frzs u.tbls (λm' hm=>by
  obtain⟨o',es',ep',ho',r'⟩:=hm;rw[ho]at ho';cases ho';exact⟨_,es',ep',hL,r'⟩) hok hg
theorem Inv.turned {t':Nat}{it:Addr}(I:Inv X pins σ H s)(k:∀b o,b≠it->s.heap.get? b=some o->h'.get? b=some o)(hn:H it=none)(hL:it≠X.env.locals)
  (h1:it∈X.ex\/X.s₀.heap.objs.size<=it) (h2:∀x c,X.env.cells.lookup x=some c->c≠it) (h3:∀p∈X.pn++pins,p.1≠it):Inv X pins σ H { s with heap:=h',toks:=t' }:=by
 have nit:∀b u,H b=some u->b≠it:=λb u e z=>by rw[z,hn]at e;cases e
 refine I.step (g':=s.gens) (d':=s.drawn) (ch:=[it]) (λb hb=>?_) (λb o _ _ hc e _=>k b o (λz=>hc (by simp[z])) e) (λb o _ _ hc e _=>⟨o.slots,k b o (λz=>hc (by simp[z])) e⟩) (λ_ _ _ _ n=>n)
  (λb o hc e=>⟨o,k b o (λz=>hc (by simp[z])) e⟩) (λ_ _ e=>e) (λ_ _ _ e=>e) (λb ps e=>⟨#[],by rw[e];simp⟩) (λm hm=>?_) (λb u e=>?_) I.bare
 ·have e:b=it:=by simpa using hb
  subst e;exact⟨h1,hL,h2,h3⟩
 ·obtain⟨o,es,ep,ho,r⟩:=hm;exact⟨o,es,ep,k _ o (bP hL) ho,r⟩
 ·refine(I.hok b u e).stay (λc v hc q=>k c v ?_ q) (λ_ q=>q) λ_ _ q=>q;rcases hc with z|z
  ·rw[z];exact nit b u e
  ·exact nit c _ z
theorem Inv.tok (I:Inv X pins σ H s)(t:Nat):Inv X pins σ H { s with toks:=t }:=I.un (h':=s.heap) (t':=t) Un.refl I.hok
theorem Inv.kept (I:Inv X pins σ H s)(k:∀b u,s.heap.get? b=some u->h'.get? b=some u):Inv X pins σ H { s with heap:=h',toks:=t' }:=I.un (Un.kept k) (I.hok.kept k)
theorem Inv.laid {a:Addr}{o:HO}{t':Nat}(I:Inv X pins σ H s)(k:∀b u,s.heap.get? b=some u->h'.get? b=some u)(hp:s.heap.objs.size<=a)(new:ObjOk X.prog X.w (upd H a o) h' a o) :
  Inv X pins σ (upd H a o) { s with heap:=h',toks:=t' }:=I.un (Un.laid k hp (I.hok.fresh hp)) (I.hok.laid k hp new)
theorem Inv.write (I:Inv X pins σ H s)(mu:Mut (H x))(he:e=x\/H e=some (.own x))(k:∀b u,b≠e->s.heap.get? b=some u->h'.get? b=some u)(heo:∃u,h'.get? e=some u)
  (new:ObjOk X.prog X.w (upd H x o) h' x o):Inv X pins σ (upd H x o) { s with heap:=h',toks:=t' }:=I.un (Un.write mu he k heo) (I.hok.write mu he k heo new)
theorem Inv.weak (I:Inv X pins σ H s)(hl:σ'.length=σ.length)(w:∀(i:Nat) v,σ'[i]?=some (some v)->σ[i]?=some (some v)):Inv X pins σ' H s:=
 ⟨I.ok,I.os,I.bare,I.base,let ⟨m,hn,hl'⟩:=I.loc;⟨m,hn,λi x v e1 e2 e3=>hl' i x v e1 (w i v e2) e3⟩,I.cell,I.free,I.freeC,I.pin,I.hok,hl.trans I.len⟩
theorem Inv.pins_of (I:Inv X pins σ H s)(h:∀p∈pins',s.heap.get? p.1=some p.2/\H p.1=none/\p.1≠X.env.locals/\p.1∉X.fs/\∀v,p.2.data ≠ .cell v):Inv X pins' σ H s:=
 ⟨I.ok,I.os,I.bare,I.base,I.loc,I.cell,I.free,I.freeC,λp hp=>(cI.mp hp).elim (λz=>I.pin p (bT _ z)) (h p),I.hok,I.len⟩
theorem nodup_ix {N:Ls}(hN:N.Nodup){i j:Nat}{x:Str}(a:N[i]?=some x)(b:N[j]?=some x):i=j:=by obtain⟨h1,e1⟩:=aD.mp a;obtain⟨h2,e2⟩:=aD.mp b;exact(List.getElem_inj hN).mp (e1.trans e2.symm)
theorem store_ok2 {M:Model}{A:Around}{E:Value->Shared->Prop}{i:Nat}{x:Str}{v:V}{u:Value}{Q:Unit->Shared->Prop}(I:Inv X pins σ H s)(hN:X.N.Nodup)(hi:X.N[i]?=some x)(hx:Loc X.env.scope x)(r:RelV v u)
  (h:∀s',Inv X pins (σ.set i (some v)) H s' -> (∃a,Heap.SameBut a s.heap s'.heap/\(a=X.env.locals\/X.env.cells.lookup x=some a))->Q () s') (hf:X.fn x=true\/X.env.scope.names.lookup x=some .local:=by walk_at "w"):wpAny M A (storeName X.env x u) Q E s:=by
 obtain⟨m,hn,hl⟩:=id I.loc;have hcls:(X.env.scope.kind == .class || (X.env.scope.kind == .module && X.env.locals != X.env.globals))=false:=by rw[I.ok.kind];rfl
 have hiσ:i<σ.length:=by rw[I.len];exact(aD.mp hi).1
 have cne:=I.cne;have tracked:∀{a:Addr} {h':Heap},(∃o,s.heap.get? a=some o/\H a=none)->Heap.SameBut a s.heap h' -> HOk X.prog X.w H h':=λ{a h'} ha hs b ob e=>by
  obtain⟨_,_,hfree⟩:=ha;refine(I.hok b ob e).stay (λc w' hc q=>(hs.2 c ?_).trans q) (λ_ q=>q) λ_ _ q=>q;rintro rfl;rcases hc with rfl|hc
  ·rw[hfree]at e;cases e
  ·rw[hfree]at hc;cases hc
 rcases hx with hk|hk
 ·refine wpAny_storeName_local hk hn (λh' hn' hs=>?_) hcls;obtain⟨oL,_,_,hoL,_⟩:=id hn;refine h _ ⟨I.ok,I.os,I.bare,⟨λb o e n hb hx=>?_,λb o e n hb hx=>?_,I.base.free,λb o e hx=>?_,I.base.tups,I.base.frzs,I.base.tbls⟩,⟨_,hn',λj y v' e1 e2 e3=>?_⟩,λy c e=>?_,I.free,I.freeC,λp hp=>?_,tracked ⟨oL,hoL,I.free⟩ hs,by simpa using I.len⟩ ⟨_,hs,.inl rfl⟩
  ·exact(hs.2 b (aO (ay (ai e) I.ok.above))).trans (I.base.keep b o e n hb hx)
  ·obtain⟨sl,e1⟩:=I.base.slot b o e n hb hx;exact⟨sl,(hs.2 b (aO (ay (ai e) I.ok.above))).trans e1⟩
  ·obtain⟨o',e1⟩:=I.base.there b o e hx;exact⟨o',(hs.2 b (aO (ay (ai e) I.ok.above))).trans e1⟩
  ·by_cases hj:j=i
   ·subst hj;rw[hi]at e1;cases e1;rw[eV hiσ]at e2;cases e2;exact⟨u,r,.inl ⟨hk,by simp⟩⟩
   ·rw[dH (bP hj)]at e2;obtain⟨u',r',q⟩:=hl j y v' e1 e2 e3;refine⟨u',r',?_⟩;rcases q with⟨k,e⟩|⟨k,c,e,z⟩
    ·refine .inl ⟨k,?_⟩;have:y≠x:=λe=>hj (nodup_ix hN e1 (e ▸ hi));simp[this,e]
    ·exact .inr ⟨k,c,e,z.sameBut hs (cne y c e)⟩
  ·obtain⟨w',z⟩:=I.cell y c e;exact⟨w',z.sameBut hs (cne y c e)⟩
  ·obtain⟨e,n,ne,nf,d⟩:=I.pin p hp;exact⟨(hs.2 p.1 ne).trans e,n,ne,nf,d⟩
 ·have hfn:X.fn x=true:=by
   rcases hf with z|z
   ·exact z
   ·rw[z]at hk;cases hk
  obtain⟨c,hc⟩:=I.ok.has x (.inl hk);obtain⟨w',z⟩:=I.cell x c hc;refine wpAny_storeName_cell I.ok.kind hk hc z (λh' hc' hs=>?_);obtain⟨oc,hoc,hocd⟩:=id z;refine h { s with heap:=h' } ⟨I.ok,I.os,I.bare,⟨λb o e n hb hx=>?_,λb o e n hb hx=>?_,I.base.free,λb o e hx=>?_,I.base.tups,I.base.frzs,I.base.tbls⟩,⟨m,hn.sameBut hs (bP (cne x c hc)),λj y v' e1 e2 e3=>?_⟩,λy c' e=>?_,I.free,I.freeC,λp hp=>?_,tracked ⟨oc,hoc,I.freeC x c hc⟩ hs,by simpa using I.len⟩ ⟨c,hs,.inr hc⟩
  ·exact(hs.2 b (aO (ay (ai e) (I.ok.cab x c hfn hc)))).trans (I.base.keep b o e n hb hx)
  ·obtain⟨sl,e1⟩:=I.base.slot b o e n hb hx;exact⟨sl,(hs.2 b (aO (ay (ai e) (I.ok.cab x c hfn hc)))).trans e1⟩
  ·obtain⟨o',e1⟩:=I.base.there b o e hx;exact⟨o',(hs.2 b (aO (ay (ai e) (I.ok.cab x c hfn hc)))).trans e1⟩
  ·by_cases hj:j=i
   ·subst hj;rw[hi]at e1;cases e1;rw[eV hiσ]at e2;cases e2;exact⟨u,r,.inr ⟨.inl hk,c,hc,hc'⟩⟩
   ·rw[dH (bP hj)]at e2;obtain⟨u',r',q⟩:=hl j y v' e1 e2 e3;refine⟨u',r',?_⟩;rcases q with q|⟨k,c',e,z'⟩
    ·exact .inl q
    ·refine .inr ⟨k,c',e,z'.sameBut hs ?_⟩;rintro rfl;exact hj (nodup_ix hN e1 (I.ok.inj _ _ _ e hc ▸ hi))
  ·by_cases hcc:c'=c
   ·subst hcc;exact⟨_,hc'⟩
   ·obtain⟨w2,z2⟩:=I.cell y c' e;exact⟨w2,z2.sameBut hs hcc⟩
  ·obtain⟨e,n,ne,nf,d⟩:=I.pin p hp;refine⟨(hs.2 p.1 ?_).trans e,n,ne,nf,d⟩;intro q;rw[q,hoc]at e;have q':oc=p.2:=aw e;exact d w' (by rw[<- q'];exact hocd)
theorem store_ok (I:Inv X pins σ H s)(hN:X.N.Nodup)(hi:X.N[i]?=some x)(hx:Loc X.env.scope x)(r:RelV v u)
  (h:∀s',Inv X pins (σ.set i (some v)) H s' -> Q () s') (hf:X.fn x=true\/X.env.scope.names.lookup x=some .local:=by walk_at "w"):wpAny M A (storeName X.env x u) Q E s:=
 store_ok2 I hN hi hx r (λs' I' _=>h s' I') hf
theorem Inv.call' (I:Inv X pins σ H s)(ho:s'.os=s.os)(u:Un (frs X.stack) ch H H' s.heap s'.heap)(hok:HOk X.prog X.w H' s'.heap)(hg:AllBare s'.gens)
  (hch:∀b∈ch,(b∈X.ex\/X.s₀.heap.objs.size<=b)/\b≠X.env.locals/\(∀x c,X.env.cells.lookup x=some c->c≠b)/\∀p∈X.pn++pins,p.1≠b):Inv X pins σ H' s':=by
 obtain⟨h',g',d',t',o'⟩:=s';have e:o'=s.os:=ho;subst e;exact I.call (g':=g') (t':=t') (d':=d') u hok hg hch
end
abbrev XK:=Value->Option Addr->Hp->Prop
abbrev St:=List (Option V)
abbrev VK:=V->Hp->Prop
abbrev TE:=St->Hp->VK->Prop
abbrev TT:=St->Hp->(Bool->Hp->Prop)->Prop
abbrev TA:=St->Hp->(List V->Hp->Prop)->Prop
structure Ends where
 nx:St->Hp->Prop
 rt:VK
 bk:St->Hp->Prop:=λ_ _=>False
 ct:St->Hp->Prop:=λ_ _=>False
abbrev TS:=Ends->St->Hp->Prop
def EP (X:Cx)(pins:List (Addr×Obj))(σ:St)(Q:VK)(u:Value)(s':Shared):Prop:=∃v H',Inv X pins σ H' s'/\RelV v u/\Q v H'
def TP (X:Cx)(pins:List (Addr×Obj))(σ:St)(Q:Bool->Hp->Prop)(b:Bool)(s':Shared):Prop:=∃H',Inv X pins σ H' s'/\Q b H'
def AP (X:Cx)(pins:List (Addr×Obj))(σ:St)(Q:List V->Hp->Prop)(us:List Value)(s':Shared):Prop:=∃vs H',Inv X pins σ H' s'/\Vals vs us/\Q vs H'
def SP (X:Cx)(pins:List (Addr×Obj))(D:Ends)(f:Flow)(s':Shared):Prop:=
 match f with
 | .next=>∃σ' H',Inv X pins σ' H' s'/\D.nx σ' H'
 | .brk=>∃σ' H',Inv X pins σ' H' s'/\D.bk σ' H'
 | .cont=>∃σ' H',Inv X pins σ' H' s'/\D.ct σ' H'
 | .ret u=>∃v σ' H',Inv X pins σ' H' s'/\RelV v u/\D.rt v H'
def PE (X:Cx)(e:Expr)(t:TE):Prop:=
 ∀(pins:List (Addr×Obj)) (s:Shared) (σ:St) (H:Hp) (Q:VK),Inv X pins σ H s->t σ H Q->wpAny (model X.prog X.w) X.A (eval e X.env) (EP X pins σ Q) X.xe s
def PT (X:Cx)(e:Expr)(t:TT):Prop:=
 ∀(pins:List (Addr×Obj)) (s:Shared) (σ:St) (H:Hp) (Q:Bool->Hp->Prop),Inv X pins σ H s->t σ H Q->wpAny (model X.prog X.w) X.A (isTrue e X.env (eval e X.env)) (TP X pins σ Q) X.xe s
def PW (X:Cx)(e:Expr)(t:TT):Prop:=
 ∀(whole:Sem Value) (pins:List (Addr×Obj)) (s:Shared) (σ:St) (H:Hp) (Q:Bool->Hp->Prop),Inv X pins σ H s->t σ H Q->wpAny (model X.prog X.w) X.A (isTrue e X.env whole) (TP X pins σ Q) X.xe s
theorem PW.pt (h:PW X e t):PT X e t:=h _
def PA (X:Cx)(es:List Expr)(t:TA):Prop:=
 ∀(pos:Pos) (pins:List (Addr×Obj)) (s:Shared) (σ:St) (H:Hp) (Q:List V->Hp->Prop),Inv X pins σ H s->t σ H Q->wpAny (model X.prog X.w) X.A (spliced (backTo pos (starEach es X.env))) (AP X pins σ Q) X.xe s
def PS (X:Cx)(st:Stmt)(t:TS):Prop:=
 ∀(pins:List (Addr×Obj)) (s:Shared) (σ:St) (H:Hp) (D:Ends),Inv X pins σ H s->t D σ H->wpAny (model X.prog X.w) X.A (exec st X.env) (SP X pins D) X.xe s
def PSs (X:Cx)(st:List Stmt)(t:TS):Prop:=
 ∀(pins:List (Addr×Obj)) (s:Shared) (σ:St) (H:Hp) (D:Ends),Inv X pins σ H s->t D σ H->wpAny (model X.prog X.w) X.A (execs st X.env) (SP X pins D) X.xe s
theorem thn {α:Type}{t:Sem α}{Q Q':α->Shared->Prop}{M:Model}{A:Around}{E:Value->Shared->Prop}{s:Shared}(h:wpAny M A t Q E s)(hQ:∀a s,Q a s->Q' a s):wpAny M A t Q' E s:=dq h hQ λ_ _ x=>x
section
variable {X:Cx}
def tVar (i:Nat):TE:=λσ H Q=>∃v,σ[i]?=some (some v)/\Q v H
def tC (v:V):TE:=λ_ H Q=>Q v H
theorem pe_var (hN:X.N[i]?=some x)(hv:Vis X.env.scope x)(hd:(x == ("__debug__":Str))=false:=by decide)(hcd:(x == ("__classdict__":Str))=false:=by decide):PE X (.Name x pos) (tVar i):=by
 intro pins s σ H Q I h;obtain⟨v,e,h⟩:=h;obtain⟨m,hn,hl⟩:=I.loc;obtain⟨u,r,l⟩:=hl i x v hN e hv;have fin:EP X pins σ Q u s:=⟨v,H,I,r,h⟩;rcases l with⟨hk,hm⟩|⟨hk,c,hc,hcell⟩
 ·exact fU (dI I.ok.kind hk hn hm fin) hd
 ·rcases hk with hk|hk
  ·exact fU (wpAny_loadName_cell I.ok.kind hk hc hcell fin) hd
  ·exact fU (wpAny_loadName_free I.ok.kind hk hc hcell fin hcd) hd
theorem pe_int:PE X (.Constant (.int i) j pos) (tC (.int i)):=λ_ _ _ H _ I h=>wpAny_Constant_int ⟨.int i,H,I.tok _,⟨_,rfl⟩,h⟩
theorem pe_bl:PE X (.Constant (.bool b) j pos) (tC (.bl b)):=λ_ _ _ H _ I h=>Constant_bool ⟨.bl b,H,I,rfl,h⟩
theorem pe_non:PE X (.Constant .none j pos) (tC .non):=λ_ _ _ H _ I h=>Constant_none ⟨.non,H,I,rfl,h⟩
theorem pe_str:PE X (.Constant (.str x) j pos) (tC (.str x)):=λ_ _ _ H _ I h=>Calls.Constant_str ⟨.str x,H,I.tok _,⟨_,rfl⟩,h⟩
def Gl (X:Cx)(x:Str):Prop:=X.env.kindOf x=some .globalImplicit
theorem ld_glob (I:Inv X pins σ H s)(hg:Gl X x)(hm:X.mg x=some u)(h:Q u s)
  (hd:(x == ("__debug__":Str))=false:=by decide):wpAny (model X.prog X.w) X.A (eval (.Name x pos) X.env) Q E s:=
 dX I.ok.kind hg (Calls.loadGlobal_global (by rw[I.ok.glob];exact I.mod.glob.keeps I.bk) hm h) hd
theorem ld_blt (I:Inv X pins σ H s)(hg:Gl X x)(hm:X.mg x=none)(hv:bootBuiltins x=some u)(h:Q u s)
  (hn:x≠"__name__":=by decide) (hd:(x == ("__debug__":Str))=false:=by decide):wpAny (model X.prog X.w) X.A (eval (.Name x pos) X.env) Q E s:=by
 obtain⟨mb,h1,h2⟩:=I.mod.blt;exact dX I.ok.kind hg (Calls.loadGlobal_builtin (by rw[I.ok.glob];exact I.mod.glob.keeps I.bk) hm (by rw[I.ok.blt];exact h1.keeps I.bk) ((h2 x hn).trans hv) h) hd
theorem pe_glob (hg:Gl X x)(hm:X.mg x=some u)(r:RelV v u)(hd:(x == ("__debug__":Str))=false:=by decide):PE X (.Name x pos) (tC v):=
 λ_ _ _ H _ I h=>ld_glob I hg hm ⟨v,H,I,r,h⟩ hd
theorem pe_bltn (hg:Gl X x)(hm:X.mg x=none)(hv:bootBuiltins x=some u)(r:RelV v u)(hn:x≠"__name__":=by decide)(hd:(x == ("__debug__":Str))=false:=by decide):PE X (.Name x pos) (tC v):=
 λ_ _ _ H _ I h=>ld_blt I hg hm hv ⟨v,H,I,r,h⟩ hn hd
variable {a b:Expr}{ta tb:TE}{pos:Pos}
def tB (t:TE):TT:=λσ H Q=>t σ H λx H1=>∃c,x=.bl c/\Q c H1
theorem pt_val (h:PE X e t)(he:∀whole,isTrue e X.env whole=(do let v <- whole;standAt e.pos;holding [v] (truthy v)):=by intro _;rfl):PT X e (tB t):=by intro pins s σ H Q I hw;refine isTrue_plain (thn (h pins s σ H _ I hw) λv s1 ⟨x,H1,I1,r1,q1⟩=>?_) (he _);obtain⟨d,rfl,q⟩:=q1;cases r1;exact cO ⟨H1,I1,q⟩
variable {tA tB':TT}{rest:List Expr}
def tAnd (t u:TT):TT:=λσ H Q=>t σ H λc H1=>if c=true then u σ H1 Q else Q false H1
def tOr (t u:TT):TT:=λσ H Q=>t σ H λc H1=>if c=true then Q true H1 else u σ H1 Q
def tNot (t:TT):TT:=λσ H Q=>t σ H λc H1=>Q (!c) H1
theorem pw_and1 (ha:PT X a tA):PW X (.BoolOp .And [a] pos) tA:=by
 intro wh pins s σ H Q I h;refine isTrue_and (thn (ha pins s σ H Q I h) λc s1 e=>?_);cases c with
 |true=>exact isTrue_and_nil e
 |false=>exact e
theorem pw_or1 (ha:PT X a tA):PW X (.BoolOp .Or [a] pos) tA:=by
 intro wh pins s σ H Q I h;refine isTrue_or (thn (ha pins s σ H Q I h) λc s1 e=>?_);cases c with
 |false=>exact isTrue_or_nil e
 |true=>exact e
theorem pw_and (ha:PT X a tA)(hb:PW X (.BoolOp .And (b::rest) pos) tB'):PW X (.BoolOp .And (a::b::rest) pos) (tAnd tA tB'):=by
 intro wh pins s σ H Q I h;refine isTrue_and (thn (ha pins s σ H _ I h) λc s1 ⟨H1,I1,q1⟩=>?_);cases c with
 |true=>exact hb wh pins s1 σ H1 Q I1 q1
 |false=>exact⟨H1,I1,q1⟩
theorem pw_or (ha:PT X a tA)(hb:PW X (.BoolOp .Or (b::rest) pos) tB'):PW X (.BoolOp .Or (a::b::rest) pos) (tOr tA tB'):=by
 intro wh pins s σ H Q I h;refine isTrue_or (thn (ha pins s σ H _ I h) λc s1 ⟨H1,I1,q1⟩=>?_);cases c with
 |true=>exact⟨H1,I1,q1⟩
 |false=>exact hb wh pins s1 σ H1 Q I1 q1
theorem pt_not (ha:PT X a tA):PT X (.UnaryOp .Not a pos) (tNot tA):=by intro pins s σ H Q I h;exact isTrue_not (ha pins s σ H (λc H1=>Q (!c) H1) I h)
def tAndV (ta tb:TE):TE:=λσ H Q=>ta σ H λx H1=>∃c,x=.bl c/\if c=true then tb σ H1 Q else Q (.bl false) H1
def tNotV (ta:TE):TE:=λσ H Q=>ta σ H λx H1=>∃c,x=.bl c/\Q (.bl (!c)) H1
theorem pe_one (h:PE X a t):PE X (.BoolOp op [a] pos) t:=λpins s σ H Q I hw=>BoolOp_one (h pins s σ H Q I hw)
theorem pe_and (ha:PE X a ta)(hb:PE X (.BoolOp .And (b::rest) pos) tb):PE X (.BoolOp .And (a::b::rest) pos) (tAndV ta tb):=by
 intro pins s σ H Q I h;refine BoolOp_and (thn (ha pins s σ H _ I h) λv s1 ⟨x,H1,I1,r1,q1⟩=>?_);obtain⟨c,rfl,q1⟩:=q1;cases r1;refine cO ?_;cases c with
 |true=>exact hb pins s1 σ H1 Q I1 q1
 |false=>exact⟨.bl false,H1,I1,rfl,q1⟩
theorem pe_not (ha:PE X a ta):PE X (.UnaryOp .Not a pos) (tNotV ta):=by intro pins s σ H Q I h;refine UnaryOp_ (thn (ha pins s σ H _ I h) λv s1 ⟨x,H1,I1,r1,q1⟩=>?_);obtain⟨c,rfl,q1⟩:=q1;cases r1;exact not_of (cO ⟨.bl (!c),H1,I1,rfl,q1⟩)
def tIf (t:TT)(ta tb:TE):TE:=λσ H Q=>t σ H λc H1=>if c=true then ta σ H1 Q else tb σ H1 Q
theorem pe_ifExp (hc:PT X c tA)(ha:PE X a ta)(hb:PE X b tb):PE X (.IfExp c a b pos) (tIf tA ta tb):=by
 intro pins s σ H Q I h;refine wpAny_IfExp (thn (hc pins s σ H _ I h) λd s1 ⟨H1,I1,q1⟩=>?_);cases d with
 |true=>exact ha pins s1 σ H1 Q I1 q1
 |false=>exact hb pins s1 σ H1 Q I1 q1
end
def SqL (K:Fg)(H:Hp)(a:Addr)(xs:List V):Prop:=
 Rd H a (.lst xs) \/
  ∃(o:Obj) (its:Array Value) (n:Nat),K.lookup a=some o/\o.cls=.type "list"/\o.dict=none/\o.data=.seq its n/\its.size<=sizeLine/\Vals xs its.toList
def SqT (K:Fg)(H:Hp)(a:Addr)(xs:List V):Prop:=
 Rd H a (.tup xs) \/
  ∃(o:Obj) (its:Array Value) (n:Nat),K.lookup a=some o/\o.cls=.type "tuple"/\o.data=.seq its n/\its.size<=sizeLine/\Vals xs its.toList
def absV:Value->Option V
 | .none=>some .non
 | .bool b=>some (.bl b)
 | .int i _=>some (.int i)
 | .str x _=>some (.str x)
 | .bytes b _=>some (.byt b)
 | .float b _=>some (.flt b)
 | .ref a=>some (.ref a)
 | .type n=>some (.ty n)
 |_=>none
theorem RelV.abs (r:RelV x u):absV u=some x:=by
 cases x with
 |non=>cases r;rfl
 |bl _=>cases r;rfl
 |int _=>obtain⟨t,rfl⟩:=r;rfl
 |str _=>obtain⟨t,rfl⟩:=r;rfl
 |byt _=>obtain⟨t,rfl⟩:=r;rfl
 |flt _=>obtain⟨t,rfl⟩:=r;rfl
 |ref _=>cases r;rfl
 |ty _=>cases r;rfl
theorem RelV.inj (r:RelV x u)(q:RelV y u):x=y:=aw (r.abs.symm.trans q.abs)
theorem Vals.inj:∀{xs ys:List V} {us:Lv},Vals xs us->Vals ys us->xs=ys
 |_,_,_,.nil,.nil=>rfl
 |_,_,_,.cons r t,.cons r' t'=>by rw[r.inj r',Vals.inj t t']
section
variable {X:Cx}{pins:List (Addr×Obj)}{σ:St}{H:Hp}{s:Shared}{a:Addr}{xs ys:List V}
theorem SqL.of {K:Fg}(h:H a=some (.lst xs)):SqL K H a xs:=.inl (.inl h)
theorem SqT.of {K:Fg}(h:H a=some (.tup xs)):SqT K H a xs:=.inl (.inl h)
theorem Inv.list (I:Inv X pins σ H s)(h:SqL X.K H a xs):∃its:List Value,Vals xs its/\PlainL s.heap a its.toArray/\xs.length<=sizeLine:=by
 rcases h with h|⟨o,its,n,hk,hc,hd,hs,hz,r⟩
 ·obtain⟨z,its,n,r,e⟩:=h.ok I.hok;exact⟨its,r,⟨_,n,e,rfl,rfl,rfl⟩,z⟩
 ·refine⟨its.toList,r,⟨o,n,I.kIn a o hk,hc,hd,by simpa using hs⟩,?_⟩;have e:=r.length;simp only[dP]at e;lia
theorem Inv.tuple (I:Inv X pins σ H s)(h:SqT X.K H a xs):∃its:List Value,Vals xs its/\IsTup s.heap a its.toArray/\xs.length<=sizeLine:=by
 rcases h with h|⟨o,its,n,hk,hc,hs,hz,r⟩
 ·obtain⟨z,its,r,p⟩:=h.ok I.hok;exact⟨its,r,p,z⟩
 ·refine⟨its.toList,r,⟨o,I.kIn a o hk,hc,n,by simpa using hs⟩,?_⟩;have e:=r.length;simp only[dP]at e;lia
theorem Inv.list_inj (I:Inv X pins σ H s)(h:SqL X.K H a xs)(h':SqL X.K H a ys):xs=ys:=by
 obtain⟨its,r,⟨o,n,e,_,_,d⟩,_⟩:=I.list h;obtain⟨its',r',⟨o',n',e',_,_,d'⟩,_⟩:=I.list h';rw[e]at e';cases e';rw[d]at d';injection d' with d1 _;have:its=its':=by simpa using congrArg Array.toList d1
 subst this;exact r.inj r'
end
abbrev Cx.wish (X:Cx)(E:Value->Shared->Prop):Cx:={ X with xe:=E }
abbrev Cx.nox (X:Cx):Cx:=X.wish λ_ _=>False
theorem Cx.Ok.wish {X:Cx}(ok:X.Ok)(E:Value->Shared->Prop):(X.wish E).Ok:=
 ⟨ok.mod,ok.kind,ok.glob,ok.blt,ok.above,ok.inj,ok.has,ok.cab,ok.hd,ok.frames,ok.stk,ok.exf,ok.bs,ok.bsz,ok.noex,ok.exfs,ok.funs,ok.frf⟩
theorem Cx.Ok.unwish {X:Cx}{E:Value->Shared->Prop}(ok:(X.wish E).Ok):X.Ok:=
 ⟨ok.mod,ok.kind,ok.glob,ok.blt,ok.above,ok.inj,ok.has,ok.cab,ok.hd,ok.frames,ok.stk,ok.exf,ok.bs,ok.bsz,ok.noex,ok.exfs,ok.funs,ok.frf⟩
section
variable {X:Cx}{pins:List (Addr×Obj)}{σ:St}{H:Hp}{s:Shared}{E:Value->Shared->Prop}
theorem Inv.wish (I:Inv X pins σ H s)(E:Value->Shared->Prop):Inv (X.wish E) pins σ H s:=⟨I.ok.wish E,I.os,I.bare,I.base,I.loc,I.cell,I.free,I.freeC,I.pin,I.hok,I.len⟩
theorem Inv.unwish (I:Inv (X.wish E) pins σ H s):Inv X pins σ H s:=⟨I.ok.unwish,I.os,I.bare,I.base,I.loc,I.cell,I.free,I.freeC,I.pin,I.hok,I.len⟩
theorem SP.unwish (h:SP (X.wish E) pins D f s'):SP X pins D f s':=by
 cases f with
 |next=>obtain⟨σ',H',I,q⟩:=h;exact⟨σ',H',I.unwish,q⟩
 |brk=>obtain⟨σ',H',I,q⟩:=h;exact⟨σ',H',I.unwish,q⟩
 |cont=>obtain⟨σ',H',I,q⟩:=h;exact⟨σ',H',I.unwish,q⟩
 |ret u=>obtain⟨v,σ',H',I,r,q⟩:=h;exact⟨v,σ',H',I.unwish,r,q⟩
theorem PSs.nox {st:List Stmt}{t:TS}(h:PSs X.nox st t):PSs X st t:=λpins s σ H D I hw=>
 dq (h pins s σ H D (I.wish _) hw) (λ_ _ q=>q.unwish) λ_ _ z=>False.elim z
end
section
variable {X:Cx}{st:Stmt}{rest:List Stmt}{t u:TS}{e:Expr}{te:TE}{pos:Pos}
def tNext:TS:=λD σ H=>D.nx σ H
def tSeq (t u:TS):TS:=λD σ H=>t { D with nx:=u D } σ H
theorem pss_nil:PSs X [] tNext:=λ_ _ σ H _ I h=>da ⟨σ,H,I,h⟩
theorem pss_cons (h1:PS X st t)(h2:PSs X rest u):PSs X (st::rest) (tSeq t u):=by
 intro pins s σ H D I h;refine wpAny_execs_cons (thn (h1 pins s σ H { D with nx:=u D } I h) λf s1 q=>?_);cases f with
 |next=>obtain⟨σ',H',I',q⟩:=q;exact h2 pins s1 σ' H' D I' q
 |ret v=>exact q
 |brk=>exact q
 |cont=>exact q
theorem pss_one (h1:PS X st t):PSs X [st] t:=by
 intro pins s σ H D I h;refine wpAny_execs_cons (thn (h1 pins s σ H D I h) λf s1 q=>?_);cases f with
 |next=>exact da q
 |ret v=>exact q
 |brk=>exact q
 |cont=>exact q
theorem Inv.quiet (I:Inv X pins σ H s):interactive X.env=false:=by simp[interactive,I.ok.kind]
def tDrop (te:TE):TS:=λD σ H=>te σ H λ_ H1=>D.nx σ H1
theorem ps_expr (he:PE X e te)(hs:swapsWith e none pos.line X.env=pure false:=by rfl):PS X (.Expr e pos) (tDrop te):=by intro pins s σ H D I h;exact wpAny_Expr_any (thn (he pins s σ H _ I h) λv s1 ⟨x,H1,I1,r1,q1⟩=>⟨σ,H1,I1,q1⟩) I.quiet hs
def tRet (te:TE):TS:=λD σ H=>te σ H D.rt
theorem ps_ret (he:PE X e te):PS X (.Return (some e) pos) (tRet te):=by intro pins s σ H D I h;exact wpAny_Return_some (thn (he pins s σ H _ I h) λv s1 ⟨x,H1,I1,r1,q1⟩=>⟨x,σ,H1,I1,r1,q1⟩)
def tIfS (c:TT)(t u:TS):TS:=λD σ H=>c σ H λb H1=>if b=true then t D σ H1 else u D σ H1
theorem ps_if (hc:PT X c tc)(ha:PSs X a t)(hb:PSs X b u):PS X (.If c a b pos) (tIfS tc t u):=by
 intro pins s σ H D I h;refine wpAny_If (thn (hc pins s σ H _ I h) λd s1 ⟨H1,I1,q1⟩=>?_);cases d with
 |true=>exact ha pins s1 σ H1 D I1 q1
 |false=>exact hb pins s1 σ H1 D I1 q1
def tNever:TS:=λ_ _ _=>False
theorem ps_never:PS X st tNever:=λ_ _ _ _ _ _ h=>h.elim
end
abbrev TG:=V->St->Hp->(St->Hp->Prop)->Prop
abbrev TGs:=List V->St->Hp->(St->Hp->Prop)->Prop
def PG (X:Cx)(target:Expr)(t:TG):Prop:=
 ∀(pins:List (Addr×Obj)) (s:Shared) (σ:St) (H:Hp) (v:V) (u:Value) (Q:St->Hp->Prop),Inv X pins σ H s->RelV v u->t v σ H Q ->
  wpAny (model X.prog X.w) X.A (assign target X.env u) (λ_ s'=>∃σ' H',Inv X pins σ' H' s'/\Q σ' H') X.xe s
def PGs (X:Cx)(ts:List Expr)(t:TGs):Prop:=
 ∀(pins:List (Addr×Obj)) (s:Shared) (σ:St) (H:Hp) (vs:List V) (us:List Value) (Q:St->Hp->Prop),Inv X pins σ H s->Vals vs us->t vs σ H Q ->
  wpAny (model X.prog X.w) X.A (assignInOrder ((assignEach ts X.env).map (·.2)) us) (λ_ s'=>∃σ' H',Inv X pins σ' H' s'/\Q σ' H') X.xe s
abbrev TSet:=V->V->V->Hp->(Hp->Prop)->Prop
def PSet (X:Cx)(t:TSet):Prop:=
 ∀(pins:List (Addr×Obj)) (s:Shared) (σ:St) (H:Hp) (o i v:V) (ov iv u:Value) (Q:Hp->Prop),Inv X pins σ H s->RelV o ov->RelV i iv->RelV v u->t o i v H Q ->
  wpAny (model X.prog X.w) X.A (setItem ov iv u) (λ_ s'=>∃H',Inv X pins σ H' s'/\Q H') X.xe s
abbrev TIp:=V->V->Hp->VK->Prop
def PIp (X:Cx)(op:Operator)(t:TIp):Prop:=
 ∀(pins:List (Addr×Obj)) (s:Shared) (σ:St) (H:Hp) (x y:V) (v u:Value) (Q:VK),Inv X pins σ H s->RelV x v->RelV y u->t x y H Q ->
  wpAny (model X.prog X.w) X.A (inplaceOp op v u) (EP X pins σ Q) X.xe s
section
variable {X:Cx}{pos:Pos}
def gName (i:Nat):TG:=λv σ H Q=>Q (σ.set i (some v)) H
theorem pg_name (hN:X.N.Nodup)(hi:X.N[i]?=some x)(hx:Loc X.env.scope x)(hf:X.fn x=true\/X.env.scope.names.lookup x=some .local:=by walk_at "w"):PG X (.Name x pos) (gName i):=by intro pins s σ H v u Q I r h;exact wpAny_assign_Name (store_ok I hN hi hx r (λs' I'=>⟨_,H,I',h⟩) hf)
def gNil:TGs:=λvs σ H Q=>vs=[]/\Q σ H
def gCons (t:TG)(u:TGs):TGs:=λvs σ H Q=>∃v r,vs=v::r/\t v σ H λσ' H'=>u r σ' H' Q
theorem pgs_nil:PGs X [] gNil:=by intro pins s σ H vs us Q I r h;obtain⟨e,h⟩:=h;subst e;cases r;exact assignInOrder_nil ⟨σ,H,I,h⟩
theorem pgs_cons (h1:PG X e t)(h2:PGs X es u)
  (hs:(assignEach (e::es) X.env).map (·.2)=assign e X.env::(assignEach es X.env).map (·.2):=by rfl):PGs X (e::es) (gCons t u):=by
 intro pins s σ H vs us Q I r h;obtain⟨v,vr,e1,h⟩:=h;subst e1;cases r with
 |cons r rr=>rw[hs];refine assignInOrder_cons (thn (h1 pins s σ H _ _ _ I r h) λ_ s1 ⟨σ1,H1,I1,q1⟩=>?_);exact h2 pins s1 σ1 H1 _ _ Q I1 rr q1
def gTup (K:Fg)(n:Nat)(t:TGs):TG:=λv σ H Q=>∃a xs,v=.ref a/\SqT K H a xs/\xs.length=n/\t xs σ H Q
theorem pg_tup (hc:X.calm=true)(h:PGs X es t)
  (hn:(assignEach es X.env).length=n:=by rfl) (hst:(assignEach es X.env).findIdx? (·.1)=none:=by rfl):PG X (.Tuple es k pos) (gTup X.K n t):=by
 intro pins s σ H v u Q I r hw;obtain⟨a,xs,e1,hq,hl,hw⟩:=hw;subst e1;cases r;obtain⟨its,rv,ht,hz⟩:=I.tuple hq;refine assign_Tuple_tuple (I.ok.hd hc) ht (by simp[hn,<- hl,rv.length]) hst λh' hx=>?_;have I1:Inv X pins σ H { s with heap:=h' }:=I.kept (t':=s.toks) λb o e=>hx b o (aO (ai e)) e;exact h pins _ σ H xs _ Q I1 (by simpa using rv) hw
def gSub (to ti:TE)(t:TSet):TG:=λv σ H Q=>to σ H λo H1=>ti σ H1 λi H2=>t o i v H2 λH3=>Q σ H3
theorem pg_sub (ho:PE X o to)(hi:PE X i ti)(hs:PSet X t)
  (ha:∀v,assign (.Subscript o i pos) X.env v=(do
   let ov <- holding [v] (eval o X.env)
   let iv <- holding [v,ov] (eval i X.env)
   standAt pos
   holding [v,ov,iv] (setItem ov iv v)
   release [v,ov,iv] []):=by intro _;rfl):PG X (.Subscript o i pos) (gSub to ti t):=by
 intro pins s σ H v u Q I r h;rw[ha];refine ak (cQ (thn (ho pins s σ H _ I h) λov s1 ⟨x,H1,I1,r1,q1⟩=>?_));refine ak (cQ (thn (hi pins s1 σ H1 _ I1 q1) λiv s2 ⟨y,H2,I2,r2,q2⟩=>?_));refine ak (wpAny_standAt (ak (cQ (thn (hs pins s2 σ H2 x y v ov iv u _ I2 r1 r2 r q2) λ_ s3 ⟨H3,I3,q3⟩=>?_))));exact wpAny_release ⟨σ,H3,I3,q3⟩
def tAsg (te:TE)(g:TG):TS:=λD σ H=>te σ H λx H1=>g x σ H1 D.nx
theorem ps_asg (he:PE X e te)(hg:PG X tg g)(hs:swapsWithSole [tg] e pos.line X.env=pure false:=by rfl)(hw:swappedStores [tg] e X.env=pure none:=by rfl)
  (h1:(assignEach [tg] X.env).map (·.2)=[assign tg X.env]:=by rfl):PS X (.Assign [tg] e pos) (tAsg te g):=by
 intro pins s σ H D I h;refine wpAny_Assign_stores (thn (he pins s σ H _ I h) λv s1 ⟨x,H1,I1,r1,q1⟩=>?_) hs hw;rw[h1];exact thn (hg pins s1 σ H1 x v _ I1 r1 q1) λ_ s2 q=>q
theorem ps_set (hN:X.N.Nodup)(hi:X.N[i]?=some x)(hx:Loc X.env.scope x)(he:PE X e te)(hs:swapsWith e (some (.Name x pos')) pos.line X.env=pure false:=by rfl)(hf:X.fn x=true\/X.env.scope.names.lookup x=some .local:=by walk_at "w") :
  PS X (.Assign [.Name x pos'] e pos) (tAsg te (gName i)):=by
 intro pins s σ H D I h;refine wpAny_Assign_Name (thn (he pins s σ H _ I h) λv s1 ⟨y,H1,I1,r1,q1⟩=>?_) hs;exact store_ok I1 hN hi hx r1 (λs2 I2=>⟨_,H1,I2,q1⟩) hf
def tAug (i:Nat)(te:TE)(ti:TIp):TS:=λD σ H=>∃x,σ[i]?=some (some x)/\te σ H λy H1=>ti x y H1 λz H2=>D.nx (σ.set i (some z)) H2
theorem ps_aug (hN:X.N.Nodup)(hi:X.N[i]?=some x)(hx:Loc X.env.scope x)(he:PE X e te)(ho:PIp X op ti)(hf:X.fn x=true\/X.env.scope.names.lookup x=some .local:=by walk_at "w") :
  PS X (.AugAssign (.Name x pos') op e pos) (tAug i te ti):=by
 intro pins s σ H D I h;obtain⟨v,e1,h⟩:=h;obtain⟨m,hn,hl⟩:=I.loc;have vis:Vis X.env.scope x:=by rcases hx with k|k;exact .inl k;exact .inr (.inl k)
 obtain⟨u,r,l⟩:=hl i x v hi e1 vis;refine wpAny_AugAssign_Name ?_;have go:wpAny (model X.prog X.w) X.A (eval e X.env) (λw s₂=>wpAny (model X.prog X.w) X.A (inplaceOp op u w) (λr s₃=>wpAny (model X.prog X.w) X.A (storeName X.env x r) (λ_=>SP X pins D .next) X.xe s₃) X.xe s₂) X.xe s:=by refine thn (he pins s σ H _ I h) λw s1 ⟨y,H1,I1,r1,q1⟩=>?_;refine thn (ho pins s1 σ H1 v y u w _ I1 r r1 q1) λz s2 ⟨zv,H2,I2,r2,q2⟩=>?_;exact store_ok I2 hN hi hx r2 (λs3 I3=>⟨_,H2,I3,q2⟩) hf
 rcases l with⟨hk,hm⟩|⟨hk,c,hc,hcell⟩
 ·exact dI I.ok.kind hk hn hm go
 ·rcases hk with hk|hk
  ·exact wpAny_loadName_cell I.ok.kind hk hc hcell go
  ·rcases hx with k|k
   ·have:X.env.scope.names.lookup x=some .free:=hk;rw[k]at this;cases this
   ·have:X.env.scope.names.lookup x=some .free:=hk;rw[k]at this;cases this
end
section
variable {X:Cx}{pos:Pos}
def tWhile (c:TT)(tb:TS):TS:=λD σ H=>∃W:Nat->St->Hp->Prop,(∃m,W m σ H)/\∀m σ H,W m σ H ->
 c σ H λb H1=>if b=true then ∃N:St->Hp->Prop,(∀σ' H',N σ' H' -> ∃m',m'<m/\W m' σ' H')/\tb { D with nx:=N,ct:=N,bk:=D.nx } σ H1 else D.nx σ H1
theorem ps_while (hp:PassesOwn (model X.prog X.w) X.A X.env X.xe)(hc:PT X c tc)(hb:PSs X body tb):PS X (.While c body [] pos) (tWhile tc tb):=by
 intro pins s σ H D I h;obtain⟨W,⟨m0,w0⟩,turn⟩:=h;refine wpAny_While (codeAny_whileLoop (λn s'=>∃σ' H',Inv X pins σ' H' s'/\W n σ' H') ?_ m0 ⟨σ,H,I,w0⟩);rintro n s1 ⟨σ1,H1,I1,w1⟩;refine cu hp (thn (hc pins s1 σ1 H1 _ I1 (turn n σ1 H1 w1)) λb s2 ⟨H2,I2,q2⟩=>?_);cases b with
 |true=>
  obtain⟨N,hN,q2⟩:=q2;rw[ae rfl];refine cu hp (thn (hb pins s2 σ1 H2 _ I2 q2) λf s3 q3=>?_);cases f with
  |next=>obtain⟨σ3,H3,I3,n3⟩:=q3;obtain⟨m',hm,w3⟩:=hN σ3 H3 n3;exact⟨m',hm,σ3,H3,I3,w3⟩
  |cont=>obtain⟨σ3,H3,I3,n3⟩:=q3;obtain⟨m',hm,w3⟩:=hN σ3 H3 n3;exact⟨m',hm,σ3,H3,I3,w3⟩
  |brk=>exact q3
  |ret v=>exact q3
 |false=>rw[af aK];exact da ⟨σ1,H2,I2,q2⟩
end
structure It where
 go:Nat->Hp->Prop
 yld:Nat->Hp->V->Hp->Prop
 stop:Nat->Hp->Prop
def FpOk (X:Cx)(pins:List (Addr×Obj))(H:Hp)(b:Addr):Prop:=
 H b=none/\b≠X.env.locals/\b∉X.fs/\(b∈X.ex\/X.s₀.heap.objs.size<=b)/\(∀x c,X.env.cells.lookup x=some c->c≠b)/\∀p∈X.pn++pins,p.1≠b
theorem Inv.fpOk {X:Cx}{pins:List (Addr×Obj)}{σ:St}{H H':Hp}{s:Shared}{b:Addr}(I:Inv X pins σ H s)(hb:s.heap.objs.size<=b)(hn:H' b=none):FpOk X pins H' b:=by
 refine⟨hn,dz (ay I.lt hb),I.nofs hb,.inr (aG I.sz hb),λx c e z=>?_,λp hp z=>?_⟩
 ·obtain⟨v,q⟩:=I.cell x c e;exact absurd (ay q.lt (by rw[z];exact hb)) (bC _)
 ·exact absurd (ay (ai (I.pin p hp).1) (by rw[z];exact hb)) (bC _)
structure Turn (P:Program)(w:World)(K:Fg)(tg:Expr)(J:It)(fp:List Addr)(it:Addr)(tn:Nat->Heap->Prop):Prop where
 mem:it∈fp
 obj:∀i h,tn i h->∀b∈fp,∃o,h.get? b=some o/\∀v,o.data ≠ .cell v
 keep:∀i h h',tn i h->(∀b∈fp,∀o,h.get? b=some o->h'.get? b=some o)->tn i h'
 item:∀(X:Cx),X.prog=P->X.w=w->X.K=K->X.calm=true->∀(i:Nat) (pins:List (Addr×Obj)) (s:Shared) (σ:St) (H:Hp) (E:Value->Shared->Prop),Inv X pins σ H s->(∀b∈fp,FpOk X pins H b)->tn i s.heap->J.go i H ->
  wpAny (model P w) X.A (pyNext (.ref it)) (λr s1=>∃u,r=some u /\
   wpAny (model P w) X.A (letOwnedTupleGo tg (.ref it) u) (λ_ s2=>∃x H',Inv X pins σ H' s2/\RelV x u/\J.yld i H x H'/\tn (i+1) s2.heap/\∀b∈fp,H' b=none) E s1) E s
 done:∀(X:Cx),X.prog=P->X.w=w->X.K=K->X.calm=true->∀(i:Nat) (pins:List (Addr×Obj)) (s:Shared) (σ:St) (H:Hp) (E:Value->Shared->Prop),Inv X pins σ H s->(∀b∈fp,FpOk X pins H b)->tn i s.heap->J.stop i H ->
  wpAny (model P w) X.A (pyNext (.ref it)) (λr s1=>r=none/\Inv X pins σ H s1) E s
 self:∀(A:Around) (i:Nat) (s:Shared) (Q:Value->Shared->Prop) (E:Value->Shared->Prop),tn i s.heap->Q (.ref it) s->wpAny (model P w) A (pyIter (.ref it)) Q E s
abbrev TI:=St->Hp->(It->Hp->Prop)->Prop
def PIE (X:Cx)(pins:List (Addr×Obj))(σ:St)(tg:Expr)(R:It->Hp->Prop)(itv:Value)(s2:Shared):Prop:=
 ∃(it:Addr) (fp:List Addr) (tn:Nat->Heap->Prop) (J:It) (H':Hp),itv=.ref it/\Inv X pins σ H' s2/\Turn X.prog X.w X.K tg J fp it tn/\tn 0 s2.heap/\(∀b∈fp,FpOk X pins H' b)/\R J H'
def PI (X:Cx)(tg iter:Expr)(wi:TI):Prop:=
 ∀(pins:List (Addr×Obj)) (s:Shared) (σ:St) (H:Hp) (R:It->Hp->Prop),Inv X pins σ H s->wi σ H R ->
  wpAny (model X.prog X.w) X.A (eval iter X.env) (λv s1=>wpAny (model X.prog X.w) X.A (pyIter v) (PIE X pins σ tg R) X.xe s1) X.xe s
theorem go_of (ho:s.heap.get? it=some o)(hc:o.cls=.type n)(hd:o.data=.fields vs)
    (hn:["enumerate","zip","dict_itemiterator","dict_reverseitemiterator","odict_iterator","itertools.zip_longest","itertools.pairwise"].contains n=false) (hQ:Q () s):wpAny M A (letOwnedTupleGo tg (.ref it) u) Q E s:=by
  unfold letOwnedTupleGo;cases tg<;>first
    |exact aV hQ
    | (cases u <;> first
        |exact aV hQ
        | (refine ak (wpAny_load ho ?_)
           rw[hc,hd];show wpAny M A (if (["enumerate","zip","dict_itemiterator","dict_reverseitemiterator","odict_iterator","itertools.zip_longest","itertools.pairwise"].contains n && vs[0]? == some (rawInt _))=true then _ else _) Q E s;rw[af (by intro h;rw[hn,Bool.false_and]at h;cases h)];exact aV hQ))
def Itl (K:Fg)(a:Addr):It:=
 ⟨λi H=>∃xs x,SqL K H a xs/\xs[i]?=some x,λi H x H'=>H'=H/\∀xs,SqL K H a xs->xs[i]?=some x,λi H=>∃xs,SqL K H a xs/\xs.length<=i⟩
def Itr (lo:Int)(n:Nat):It:=⟨λi _=>i<n,λi H x H'=>H'=H/\x=.int (lo+i),λi _=>n<=i⟩
theorem turn_list {P:Program}{w:World}{K:Fg}{tg:Expr}(a it:Addr):Turn P w K tg (Itl K a) [it] it (λi h=>h.IsListIter it a i) where
 mem:=by simp
 obj:=λi h st b hb=>by
  have e:b=it:=by simpa using hb
  subst e;obtain⟨o,e,c,d⟩:=st;exact⟨o,e,λv z=>by rw[d]at z;cases z⟩
 keep:=λi h h' st k=>st.at λo e=>k it (by simp) o e
 item:=by intro X hP hw hK hc i pins s σ H E I hf st hg;subst hP hw hK;obtain⟨xs,x,hq,hx⟩:=hg;obtain⟨its,rv,p,hz⟩:=I.list hq;obtain⟨u,hu,ru⟩:=rv.get hx;obtain⟨f0,f1,f2,f3,f4,f5⟩:=hf it (by simp);refine wpAny_pyNext_list_item st p.isList (x:=u) (by simpa using hu) λh' st' sb=>?_;have I1:Inv X pins σ H { s with heap:=h' }:=I.turned (t':=s.toks) (λb o hb e=>(sb.2 b hb).trans e) f0 f1 f3 f4 f5;obtain⟨o,e,c,d⟩:=id st';exact⟨u,rfl,go_of (s:={ s with heap:=h' }) e c d (by decide) ⟨x,H,I1,ru,⟨rfl,λys hy=>by rw[I.list_inj hy hq];exact hx⟩,st',λb hb=>(hf b hb).1⟩⟩
 done:=by intro X hP hw hK hc i pins s σ H E I hf st hg;subst hP hw hK;obtain⟨xs,hq,hx⟩:=hg;obtain⟨its,rv,p,hz⟩:=I.list hq;obtain⟨f0,f1,f2,f3,f4,f5⟩:=hf it (by simp);have hl:=rv.length;exact wpAny_pyNext_list_end (I.ok.hd hc) st p.isList (by simp;lia) λh' eb=>⟨rfl,I.turned (t':=s.toks) (λb o hb e=>eb b o hb e) f0 f1 f3 f4 f5⟩
 self:=λ_ _ _ _ _ st h=>wpAny_pyIter_listiter st h
theorem turn_range {P:Program}{w:World}{K:Fg}{tg:Expr}(it:Addr)(lo:Int)(n:Nat):Turn P w K tg (Itr lo n) [it] it (λi h=>IsRangeIter h it (lo+(i:Nat)*1) ((n:Int)-(i:Nat)) 1) where
 mem:=by simp
 obj:=λi h st b hb=>by
  have e:b=it:=by simpa using hb
  subst e;exact⟨_,st,λv z=>by
   have z':Data.fields _=Data.cell v:=z;cases z'⟩
 keep:=λi h h' st k=>k it (by simp) _ st
 item:=by intro X hP hw hK hc i pins s σ H E I hf st hg;subst hP hw hK;obtain⟨f0,f1,f2,f3,f4,f5⟩:=hf it (by simp);have W:=Walks.range (prog:=X.prog) (w:=X.w) (I.ok.hd hc) it lo 1 n;refine W.item i s _ _ hg st λv h' tk hv st' kk=>?_;obtain⟨t,rfl⟩:=hv;have I1:Inv X pins σ H { s with heap:=h',toks:=tk }:=I.turned (λb o hb e=>kk b o (by simpa using hb) e) f0 f1 f3 f4 f5;refine⟨_,rfl,go_of (s:={ s with heap:=h',toks:=tk }) (n:="range_iterator") st' rfl rfl (by decide) ⟨.int (lo+i),H,I1,⟨t,?_⟩,⟨rfl,rfl⟩,st',λb hb=>(hf b hb).1⟩⟩;rw[bR]
 done:=by intro X hP hw hK hc i pins s σ H E I hf st hg;subst hP hw hK;obtain⟨f0,f1,f2,f3,f4,f5⟩:=hf it (by simp);exact wpAny_pyNext_range_end (I.ok.hd hc) st (by have:n<=i:=hg;lia) λh' eb=>⟨rfl,I.turned (t':=s.toks) (λb o hb e=>eb b o hb e) f0 f1 f3 f4 f5⟩
 self:=λ_ _ _ _ _ st h=>wpAny_pyIter_rangeiter st h
section
variable {X:Cx}{tg:Expr}
def iList (K:Fg)(tl:TE):TI:=λσ H R=>tl σ H λx H1=>∃a,x=.ref a/\(∃xs,SqL K H1 a xs)/\R (Itl K a) H1
theorem pi_list {l:Expr}{tl:TE}(hl:PE X l tl):PI X tg l (iList X.K tl):=by
 intro pins s σ H R I h;refine thn (hl pins s σ H _ I h) λv s1 ⟨x,H1,I1,r1,q1⟩=>?_;obtain⟨a,e,⟨xs,hq⟩,q⟩:=q1;subst e;cases r1;obtain⟨its,rv,p,hz⟩:=I1.list hq;refine wpAny_pyIter_list p.isList ?_;refine⟨s1.heap.objs.size,[s1.heap.objs.size],_,_,H1,rfl,I1.kept (t':=s1.toks) λb o e=>ah _ e,turn_list a _,⟨_,aP _ rfl,rfl,rfl⟩,λb hb=>?_,q⟩;have e:b=s1.heap.objs.size:=by simpa using hb
 subst e;exact I1.fpOk (aj _) (I1.hok.fresh (aj _))
theorem range_it {pins:List (Addr×Obj)}{σ:St}{H:Hp}{s:Shared}{R:It->Hp->Prop}{E:Value->Shared->Prop}{lo hi:Int}{t u v:Tok}{tk:Nat}(I:Inv X pins σ H s)(h1:-(2^62)<=lo)(h2:lo<2^62)(h3:-(2^62)<=hi)(h4:hi<2^62)
  (q:R (Itr lo (hi-lo).toNat) H):wpAny (model X.prog X.w) X.A (pyIter (.ref s.heap.objs.size)) (PIE X pins σ tg R) E { s with heap:=s.heap.push { cls:=.type "range",data:=.fields #[.int lo t,.int hi u,.int 1 v] },toks:=tk }:=by
 refine wpAny_pyIter_range (IsRange.new ..) (small_one h1 h2 h3 h4) ?_;have I1:Inv X pins σ H { s with heap:=s.heap.push { cls:=.type "range",data:=.fields #[.int lo t,.int hi u,.int 1 v] },toks:=tk }:=I.kept λb o e=>ah _ e;refine⟨(s.heap.push { cls:=.type "range",data:=.fields #[.int lo t,.int hi u,.int 1 v] }).objs.size,[(s.heap.push { cls:=.type "range",data:=.fields #[.int lo t,.int hi u,.int 1 v] }).objs.size],_,_,H,rfl,
  I1.kept (t':=tk) λb o e=>ah _ e,turn_range _ lo (hi-lo).toNat,?_,λb hb=>?_,q⟩
 ·have e1:lo+((0:Nat):Int)*1=lo:=by simp
  have e2:(((hi-lo).toNat:Nat):Int)-((0:Nat):Int)=Builtin.Range.rangeSize lo hi 1:=by rw[rangeSize_one];split<;>lia
  show IsRangeIter _ _ (lo+((0:Nat):Int)*1) ((((hi-lo).toNat:Nat):Int)-((0:Nat):Int)) 1;rw[e1,e2];exact aP _ rfl
 ·have e:b=(s.heap.push { cls:=.type "range",data:=.fields #[.int lo t,.int hi u,.int 1 v] }).objs.size:=by simpa using hb
  subst e;exact I1.fpOk (aj _) (I1.hok.fresh (aj _))
def iRng1 (ta:TA):TI:=λσ H R=>ta σ H λvs H1=>∃j:Int,vs=[.int j] /\ -(2^62)<=j/\j<2^62/\R (Itr 0 j.toNat) H1
def iRng2 (ta:TA):TI:=λσ H R=>ta σ H λvs H1=>∃i j:Int,vs=[.int i,.int j]/\(-(2^62)<=i/\i<2^62 /\ -(2^62)<=j/\j<2^62)/\R (Itr i (j-i).toNat) H1
theorem pi_range1 {a:Expr}{ta:TA}{p pos:Pos}(hg:Gl X "range")(hm:X.mg "range"=none)(ha:PA X [a] ta)(hs:starEach [a] X.env=[(false,eval a X.env)]:=by rfl):PI X tg (.Call (.Name "range" p) [a] [] pos) (iRng1 ta):=by
 intro pins s σ H R I h;refine Call_ (ld_blt I hg hm boot_range (bY (thn (ha pos pins s σ H _ I h) λus s1 ⟨vs,H1,I1,r1,q1⟩=>?_) hs rfl));obtain⟨j,e,q1,q2,q⟩:=q1;subst e;cases r1 with
 |cons r rr=>cases rr;obtain⟨t,rfl⟩:=r;exact call_range_1 (range_it I1 (by lia) (by lia) q1 q2 (by simpa using q))
theorem pi_range2 (hg:Gl X "range")(hm:X.mg "range"=none)(ha:PA X [a,b] ta)(hs:starEach [a,b] X.env=[(false,eval a X.env),(false,eval b X.env)]:=by rfl)(hs2:starEach [b] X.env=[(false,eval b X.env)]:=by rfl) :
  PI X tg (.Call (.Name "range" p) [a,b] [] pos) (iRng2 ta):=by
 intro pins s σ H R I h;refine Call_ (ld_blt I hg hm boot_range (bY (thn (ha pos pins s σ H _ I h) λus s1 ⟨vs,H1,I1,r1,q1⟩=>?_) (by rw[hs,hs2]) (by rw[hs2];rfl)));obtain⟨i,j,e,⟨q1,q2,q3,q4⟩,q⟩:=q1;subst e;cases r1 with
 |cons r rr=>
  cases rr with
  |cons r' rr=>cases rr;obtain⟨t,rfl⟩:=r;obtain⟨t',rfl⟩:=r';exact call_range_2 (range_it I1 q1 q2 q3 q4 q)
def tFor (wi:TI)(g:TG)(tb:TS):TS:=λD σ H=>wi σ H λJ H1=>∃W:Nat->Nat->St->Hp->Prop,(∃m,W 0 m σ H1)/\∀i m σ H,W i m σ H ->
 (J.stop i H/\D.nx σ H)\/(J.go i H/\∃N:St->Hp->Prop,(∀σ' H',N σ' H' -> ∃m',m'<m/\W (i+1) m' σ' H')/\∀x H',J.yld i H x H' -> g x σ H' λσ2 H2=>tb { D with nx:=N,ct:=N,bk:=D.nx } σ2 H2)
def pinsAt (fp:List Addr)(h:Heap):List (Addr×Obj):=fp.filterMap λb=>(h.get? b).map λo=>(b,o)
theorem mem_pinsAt (hb:b∈fp)(e:h.get? b=some o):(b,o)∈pinsAt fp h:=bD.mpr ⟨b,hb,by rw[e];rfl⟩
theorem of_pinsAt (hp:p∈pinsAt fp h):p.1∈fp/\h.get? p.1=some p.2:=by
 obtain⟨b,hb,e⟩:=bD.mp hp;cases q:h.get? b with
 |none=>rw[q]at e;cases e
 |some o=>rw[q]at e;have e':(b,o)=p:=aw e;subst e';exact⟨hb,q⟩
theorem Inv.pinned (I:Inv X pins σ H s)(hf:∀b∈fp,FpOk X pins H b)(ho:∀b∈fp,∃o,s.heap.get? b=some o/\∀v,o.data ≠ .cell v):Inv X (pins++pinsAt fp s.heap) σ H s:=
 I.pins_of λp hp=>(cI.mp hp).elim (λz=>I.pin p (aC _ z)) λz=>by obtain⟨hb,e⟩:=of_pinsAt z;obtain⟨f0,f1,f2,_⟩:=hf p.1 hb;obtain⟨o,e',d⟩:=ho p.1 hb;rw[e]at e';cases e';exact⟨e,f0,f1,f2,d⟩
theorem Inv.unpinned (I:Inv X (pins++pl) σ H s):Inv X pins σ H s:=I.pins_of λp hp=>I.pin p (aC _ (bT _ hp))
theorem ps_for (hp:PassesOwn (model X.prog X.w) X.A X.env X.xe)(hc:X.calm=true)(hi:PI X tg iter wi)(hg:PG X tg g)(hb:PSs X body tb)
  (hs:∀x,foldedSetIterable iter X.env x=pure x:=by intro _;rfl):PS X (.For tg iter body [] pos) (tFor wi g tb):=by
 intro pins s σ H D I h;refine wpAny_For (thn (hi pins s σ H _ I h) λv s1 h1=>thn h1 λitv s2 h2=>?_) hs;obtain⟨it,fp,tn,J,H2,e,I2,T,st2,f2,W,⟨m0,w0⟩,turn⟩:=h2;subst e;have stat:∀{H':Hp},(∀b∈fp,H' b=none)->∀b∈fp,FpOk X pins H' b:=λhn b hb=>⟨hn b hb,(f2 b hb).2⟩;refine codeAny_forLoop_any (λn s'=>∃i σ' H',Inv X pins σ' H' s'/\tn i s'.heap/\(∀b∈fp,H' b=none)/\W i n σ' H') ?_ m0 ⟨0,σ,H2,I2,st2,λb hb=>(f2 b hb).1,w0⟩;rintro n s3 ⟨i,σ3,H3,I3,st3,fr3,w3⟩;rcases turn i n σ3 H3 w3 with⟨stop,qn⟩|⟨go,N,hN,step⟩
 ·refine cu hp (thn (T.done X rfl rfl rfl hc i pins s3 σ3 H3 X.xe I3 (stat fr3) st3 stop) λr s4 ⟨hr,I4⟩=>?_);subst hr;exact da ⟨σ3,H3,I4,qn⟩
 ·refine cu hp (thn (T.item X rfl rfl rfl hc i pins s3 σ3 H3 X.xe I3 (stat fr3) st3 go) λr s4 ⟨u,hr,h4⟩=>?_);subst hr;refine cu hp (thn h4 λ_ s5 ⟨x,H5,I5,r5,y5,st5,fr5⟩=>?_);have I5':=I5.pinned (stat fr5) (T.obj _ _ st5);refine cu hp (thn (hg _ s5 σ3 H5 x u _ I5' r5 (step x H5 y5)) λ_ s6 ⟨σ6,H6,I6,q6⟩=>?_);refine cu hp (thn (hb _ s6 σ6 H6 _ I6 q6) λf s7 q7=>?_);have again:∀{σ7:St} {H7:Hp},Inv X (pins++pinsAt fp s5.heap) σ7 H7 s7->N σ7 H7->∃m,m<n/\∃i σ' H',Inv X pins σ' H' s7/\tn i s7.heap/\(∀b∈fp,H' b=none)/\W i m σ' H':=λ{σ7 H7} I7 n7=>by obtain⟨m',hm,w7⟩:=hN σ7 H7 n7;refine⟨m',hm,i+1,σ7,H7,I7.unpinned,T.keep _ _ _ st5 λb hb o e=>(I7.pin (b,o) (aC _ (aC _ (mem_pinsAt hb e)))).1,λb hb=>?_,w7⟩;obtain⟨o,e,d⟩:=T.obj _ _ st5 b hb;exact(I7.pin (b,o) (aC _ (aC _ (mem_pinsAt hb e)))).2.1
  cases f with
  |next=>obtain⟨σ7,H7,I7,n7⟩:=q7;exact again I7 n7
  |cont=>obtain⟨σ7,H7,I7,n7⟩:=q7;exact again I7 n7
  |brk=>obtain⟨σ7,H7,I7,q7⟩:=q7;exact⟨σ7,H7,I7.unpinned,q7⟩
  |ret v=>obtain⟨x7,σ7,H7,I7,r7,q7⟩:=q7;exact⟨x7,σ7,H7,I7.unpinned,r7,q7⟩
end
theorem for_list {K:Fg}{a:Addr}{xs:List V}{g:TG}{tb:TS}{D:Ends}{σ:St}{H:Hp}(Pv:Nat->St->Hp->Prop)(h0:Pv 0 σ H)(hl:∀i σ H,i<=xs.length->Pv i σ H->SqL K H a xs)
  (hs:∀i x σ H,xs[i]?=some x->Pv i σ H->g x σ H λσ2 H2=>tb { D with nx:=Pv (i+1),ct:=Pv (i+1),bk:=D.nx } σ2 H2) (hd:∀σ H,Pv xs.length σ H->D.nx σ H) :
  ∃W:Nat->Nat->St->Hp->Prop,(∃m,W 0 m σ H)/\∀i m σ H,W i m σ H ->
   ((Itl K a).stop i H/\D.nx σ H)\/((Itl K a).go i H/\∃N:St->Hp->Prop,(∀σ' H',N σ' H' -> ∃m',m'<m/\W (i+1) m' σ' H')/\∀x H',(Itl K a).yld i H x H' -> g x σ H' λσ2 H2=>tb { D with nx:=N,ct:=N,bk:=D.nx } σ2 H2):=by
 refine⟨λi m σ H=>m=xs.length-i/\i<=xs.length/\Pv i σ H,⟨xs.length,by simp,be _,h0⟩,?_⟩;rintro i m σ H ⟨rfl,hi,p⟩;have q:=hl i σ H hi p;by_cases hlt:i<xs.length
 ·refine .inr ⟨⟨xs,xs[i],q,by simp[hlt]⟩,Pv (i+1),λσ' H' p'=>⟨xs.length-(i+1),by lia,rfl,hlt,p'⟩,λx H' y=>?_⟩;obtain⟨e,y⟩:=y;subst e;exact hs i x σ _ (y xs q) p
 ·have e:i=xs.length:=by lia
  subst e;exact .inl ⟨⟨xs,q,aj _⟩,hd σ H p⟩
theorem for_range {lo:Int}{n:Nat}{g:TG}{tb:TS}{D:Ends}{σ:St}{H:Hp}(Pv:Nat->St->Hp->Prop)(h0:Pv 0 σ H)
  (hs:∀i σ H,i<n->Pv i σ H->g (.int (lo+i)) σ H λσ2 H2=>tb { D with nx:=Pv (i+1),ct:=Pv (i+1),bk:=D.nx } σ2 H2) (hd:∀σ H,Pv n σ H->D.nx σ H) :
  ∃W:Nat->Nat->St->Hp->Prop,(∃m,W 0 m σ H)/\∀i m σ H,W i m σ H ->
   ((Itr lo n).stop i H/\D.nx σ H)\/((Itr lo n).go i H/\∃N:St->Hp->Prop,(∀σ' H',N σ' H' -> ∃m',m'<m/\W (i+1) m' σ' H')/\∀x H',(Itr lo n).yld i H x H' -> g x σ H' λσ2 H2=>tb { D with nx:=N,ct:=N,bk:=D.nx } σ2 H2):=by
 refine⟨λi m σ H=>m=n-i/\i<=n/\Pv i σ H,⟨n,by simp,be _,h0⟩,?_⟩;rintro i m σ H ⟨rfl,hi,p⟩;by_cases hlt:i<n
 ·refine .inr ⟨hlt,Pv (i+1),λσ' H' p'=>⟨n-(i+1),by lia,rfl,hlt,p'⟩,λx H' y=>?_⟩;obtain⟨e,y⟩:=y;subst e y;exact hs i σ _ hlt p
 ·have e:i=n:=by lia
  subst e;exact .inl ⟨aj _,hd σ H p⟩
theorem while_by (Pv:St->Hp->Prop)(μ:St->Hp->Nat)(h0:Pv σ H)
  (hs:∀σ H,Pv σ H->c σ H λb H1=>if b=true then tb { D with nx:=λσ' H'=>Pv σ' H'/\μ σ' H'<μ σ H,ct:=λσ' H'=>Pv σ' H'/\μ σ' H'<μ σ H,bk:=D.nx } σ H1 else D.nx σ H1)
  (mono:∀σ H Q Q',(∀b H1,Q b H1->Q' b H1)->c σ H Q->c σ H Q'):tWhile c tb D σ H:=by
 refine⟨λm σ H=>m=μ σ H/\Pv σ H,⟨_,rfl,h0⟩,?_⟩;rintro m σ H ⟨rfl,p⟩;refine mono σ H _ _ (λb H1 q=>?_) (hs σ H p);cases b with
 |true=>exact⟨_,λσ' H' ⟨p',l⟩=>⟨_,l,rfl,p'⟩,q⟩
 |false=>exact q
abbrev R2:=V->V->Hp->VK->Prop
def OpR (X:Cx)(f:Value->Value->Sem Value)(r:R2):Prop:=
 ∀(pins:List (Addr×Obj)) (s:Shared) (σ:St) (H:Hp) (x y:V) (v u:Value) (Q:VK),Inv X pins σ H s->RelV x v->RelV y u->r x y H Q ->
  wpAny (model X.prog X.w) X.A (f v u) (EP X pins σ Q) X.xe s
def UnR (X:Cx)(f:Value->Sem Value)(r:V->Hp->VK->Prop):Prop:=
 ∀(pins:List (Addr×Obj)) (s:Shared) (σ:St) (H:Hp) (x:V) (v:Value) (Q:VK),Inv X pins σ H s->RelV x v->r x H Q ->
  wpAny (model X.prog X.w) X.A (f v) (EP X pins σ Q) X.xe s
def CallR (X:Cx)(f:Value)(r:List V->Hp->VK->Prop):Prop:=
 ∀(pins:List (Addr×Obj)) (s:Shared) (σ:St) (H:Hp) (xs:List V) (us:List Value) (Q:VK),Inv X pins σ H s->Vals xs us->r xs H Q ->
  wpAny (model X.prog X.w) X.A (call f us) (EP X pins σ Q) X.xe s
def TruR (X:Cx)(r:V->Hp->(Bool->Hp->Prop)->Prop):Prop:=
 ∀(pins:List (Addr×Obj)) (s:Shared) (σ:St) (H:Hp) (x:V) (v:Value) (Q:Bool->Hp->Prop),Inv X pins σ H s->RelV x v->r x H Q ->
  wpAny (model X.prog X.w) X.A (truthy v) (TP X pins σ Q) X.xe s
def tOp (r:R2)(ta tb:TE):TE:=λσ H Q=>ta σ H λx H1=>tb σ H1 λy H2=>r x y H2 Q
def tUn (r:V->Hp->VK->Prop)(ta:TE):TE:=λσ H Q=>ta σ H λx H1=>r x H1 Q
def rI (C:Int->Int->Prop)(g:Int->Int->V):R2:=λx y H Q=>∃i j,x=.int i/\y=.int j/\C i j/\Q (g i j) H
def rI0 (g:Int->Int->V):R2:=λx y H Q=>∃i j,x=.int i/\y=.int j/\Q (g i j) H
def rU (g:Int->V):V->Hp->VK->Prop:=λx H Q=>∃i,x=.int i/\Q (g i) H
section
variable {X:Cx}{a b c:Expr}{ta tb tc:TE}{pos:Pos}
theorem binT (ha:PE X a ta)(hb:PE X b tb){pins:List (Addr×Obj)}{R:V->V->Hp->Prop}(I:Inv X pins σ H s)
  (h:ta σ H λx H1=>tb σ H1 λy H2=>R x y H2) {Q:Value->Shared->Prop} {f:Value->Value->Sem Value}
  (hf:∀v u s2 x y H2,Inv X pins σ H2 s2->RelV x v->RelV y u->R x y H2->wpAny (model X.prog X.w) X.A (f v u) Q X.xe s2) :
  wpAny (model X.prog X.w) X.A (eval a X.env) (λv s₁=>wpAny (model X.prog X.w) X.A (eval b X.env) (λu s₂=>wpAny (model X.prog X.w) X.A (f v u) Q X.xe s₂) X.xe s₁) X.xe s:=by
 refine thn (ha pins s σ H _ I h) λv s1 ⟨x,H1,I1,r1,q1⟩=>?_;refine thn (hb pins s1 σ H1 _ I1 q1) λu s2 ⟨y,H2,I2,r2,q2⟩=>?_;exact hf v u s2 x y H2 I2 r1 r2 q2
theorem pe_op {op:Operator}{r:R2}(ho:OpR X (binaryOp op) r)(ha:PE X a ta)(hb:PE X b tb):PE X (.BinOp a op b pos) (tOp r ta tb):=by intro pins s σ H Q I h;exact wpAny_BinOp (binT ha hb I h λv u s2 x y H2 I2 rx ry q=>ho pins s2 σ H2 x y v u Q I2 rx ry q)
theorem pe_un (ho:UnR X (unaryOp op) r)(ha:PE X a ta):PE X (.UnaryOp op a pos) (tUn r ta):=by intro pins s σ H Q I h;exact UnaryOp_ (thn (ha pins s σ H _ I h) λv s1 ⟨x,H1,I1,r1,q1⟩=>ho pins s1 σ H1 x v Q I1 r1 q1)
theorem opI {f:Value->Value->Sem Value}{C:Int->Int->Prop}{g:Int->Int->Int}
  (rule:∀(i j:Int) (t u:Tok) (s:Shared) (Q:Value->Shared->Prop) (E:Value->Shared->Prop),C i j->Q (.int (g i j) s.toks) { s with toks:=s.toks+1 }->wpAny (model X.prog X.w) X.A (f (.int i t) (.int j u)) Q E s) :
  OpR X f (rI C λi j=>.int (g i j)):=by
 intro pins s σ H x y v u Q I rx ry h;obtain⟨i,j,rfl,rfl,hc,q⟩:=h;obtain⟨t,rfl⟩:=rx;obtain⟨t',rfl⟩:=ry;exact rule i j t t' s _ _ hc ⟨.int (g i j),H,I.tok _,⟨_,rfl⟩,q⟩
theorem opI0 {f:Value->Value->Sem Value}{g:Int->Int->Int}
  (rule:∀(i j:Int) (t u:Tok) (s:Shared) (Q:Value->Shared->Prop) (E:Value->Shared->Prop),Q (.int (g i j) s.toks) { s with toks:=s.toks+1 }->wpAny (model X.prog X.w) X.A (f (.int i t) (.int j u)) Q E s) :
  OpR X f (rI0 λi j=>.int (g i j)):=by
 intro pins s σ H x y v u Q I rx ry h;obtain⟨i,j,rfl,rfl,q⟩:=h;obtain⟨t,rfl⟩:=rx;obtain⟨t',rfl⟩:=ry;exact rule i j t t' s _ _ ⟨.int (g i j),H,I.tok _,⟨_,rfl⟩,q⟩
theorem opB0 {f:Value->Value->Sem Value}{g:Int->Int->Bool}
  (rule:∀(i j:Int) (t u:Tok) (s:Shared) (Q:Value->Shared->Prop) (E:Value->Shared->Prop),Q (.bool (g i j)) s->wpAny (model X.prog X.w) X.A (f (.int i t) (.int j u)) Q E s) :
  OpR X f (rI0 λi j=>.bl (g i j)):=by
 intro pins s σ H x y v u Q I rx ry h;obtain⟨i,j,rfl,rfl,q⟩:=h;obtain⟨t,rfl⟩:=rx;obtain⟨t',rfl⟩:=ry;exact rule i j t t' s _ _ ⟨.bl (g i j),H,I,rfl,q⟩
def CMul (i j:Int):Prop:=(-(2^64)<i/\i<2^64)\/(-(2^64)<j/\j<2^64)
theorem op_add:OpR X (binaryOp .Add) (rI0 λi j=>.int (i+j)):=opI0 λ_ _ _ _ _ _ _ q=>add_int q
theorem op_sub:OpR X (binaryOp .Sub) (rI0 λi j=>.int (i-j)):=opI0 λ_ _ _ _ _ _ _ q=>sub_int q
theorem op_mod:OpR X (binaryOp .Mod) (rI (λ_ j=>0<j) λi j=>.int (i % j)):=opI λi j _ _ _ _ _ hc q=>by have h1:(0:Int)<j:=hc;exact mod_int' (by lia) (by rw[Int.fmod_eq_emod_of_nonneg i (by lia)];exact q)
theorem iop_add:OpR X (inplaceOp .Add) (rI0 λi j=>.int (i+j)):=opI0 λ_ _ _ _ _ _ _ q=>iadd_int q
theorem unI {f:Value->Sem Value}{g:Int->Int}
  (rule:∀(i:Int) (t:Tok) (s:Shared) (Q:Value->Shared->Prop) (E:Value->Shared->Prop),Q (.int (g i) s.toks) { s with toks:=s.toks+1 }->wpAny (model X.prog X.w) X.A (f (.int i t)) Q E s) :
  UnR X f (rU λi=>.int (g i)):=by
 intro pins s σ H x v Q I rx h;obtain⟨i,rfl,q⟩:=h;obtain⟨t,rfl⟩:=rx;exact rule i t s _ _ ⟨.int (g i),H,I.tok _,⟨_,rfl⟩,q⟩
theorem un_neg:UnR X (unaryOp .USub) (rU λi=>.int (-i)):=unI λ_ _ _ _ _ q=>neg_int q
end
def scal:V->V->Bool
 | .non,.non=>true | .non,.int _=>true | .int _,.non=>true | .non,.bl _=>true | .bl _,.non=>true | .non,.str _=>true | .str _,.non=>true
 | .int _,.int _=>true | .bl _,.bl _=>true | .str _,.str _=>true | .byt _,.byt _=>true
 | .int _,.str _=>true | .str _,.int _=>true | .bl _,.str _=>true | .str _,.bl _=>true
 |_,_=>false
def rEq:R2:=λx y H Q=>scal x y=true/\Q (.bl (decide (x=y))) H
def rNe:R2:=λx y H Q=>scal x y=true/\Q (.bl (!decide (x=y))) H
theorem dec_int:decide (V.int i=V.int j)=(i == j):=by rw[dQ];simp
theorem dec_bl:decide (V.bl i=V.bl j)=(i == j):=by rw[dQ];simp
theorem dec_str:decide (V.str i=V.str j)=(i == j):=by rw[dQ];simp
theorem dec_byt:decide (V.byt i=V.byt j)=(i.toList == j.toList):=by rw[dQ];cases i;cases j;simp
section
variable {X:Cx}{a b c:Expr}{ta tb tc:TE}{pos:Pos}
theorem fin_bl (I:Inv X pins σ H s)(q:Q (.bl k) H)(e:k=k'):EP X pins σ Q (.bool k') s:=by subst e;exact⟨.bl k,H,I,rfl,q⟩
theorem op_eq:OpR X (compareOp .Eq) rEq:=by
 intro pins s σ H x y v u Q I rx ry h;obtain⟨hs,q⟩:=h;cases x with
 |non=>
  cases rx;cases y with
  |non=>cases ry;exact PySem.EqNone.eq_none_none (fin_bl I q (by simp))
  |bl j=>cases ry;exact PySem.EqNone.eq_none_bool (fin_bl I q (by simp))
  |int j=>obtain⟨t',rfl⟩:=ry;exact PySem.EqNone.eq_none_int (fin_bl I q (by simp))
  |str j=>obtain⟨t',rfl⟩:=ry;exact PySem.EqNone.eq_none_str (fin_bl I q (by simp))
  |_=>exact absurd (show false=true from hs) aK
 |bl i=>
  cases rx;cases y with
  |non=>cases ry;exact PySem.EqNone.eq_bool_none (fin_bl I q (by simp))
  |bl j=>cases ry;exact eq_bool (fin_bl I q dec_bl)
  |str j=>obtain⟨t',rfl⟩:=ry;exact PySem.EqMixed.eq_bool_str (fin_bl I q (by simp))
  |_=>exact absurd (show false=true from hs) aK
 |int i=>
  obtain⟨t,rfl⟩:=rx;cases y with
  |non=>cases ry;exact PySem.EqNone.eq_int_none (fin_bl I q (by simp))
  |int j=>obtain⟨t',rfl⟩:=ry;exact eq_int (fin_bl I q dec_int)
  |str j=>obtain⟨t',rfl⟩:=ry;exact PySem.EqMixed.eq_int_str (fin_bl I q (by simp))
  |_=>exact absurd (show false=true from hs) aK
 |str i=>
  obtain⟨t,rfl⟩:=rx;cases y with
  |non=>cases ry;exact PySem.EqNone.eq_str_none (fin_bl I q (by simp))
  |bl j=>cases ry;exact PySem.EqMixed.eq_str_bool (fin_bl I q (by simp))
  |int j=>obtain⟨t',rfl⟩:=ry;exact PySem.EqMixed.eq_str_int (fin_bl I q (by simp))
  |str j=>obtain⟨t',rfl⟩:=ry;exact eq_str (fin_bl I q dec_str)
  |_=>exact absurd (show false=true from hs) aK
 |byt i=>
  obtain⟨t,rfl⟩:=rx;cases y with
  |byt j=>obtain⟨t',rfl⟩:=ry;exact W.eq_bytes (fin_bl I q dec_byt)
  |_=>exact absurd (show false=true from hs) aK
 |_=>cases y<;>exact absurd (show false=true from hs) aK
theorem op_ne:OpR X (compareOp .NotEq) rNe:=by
 intro pins s σ H x y v u Q I rx ry h;obtain⟨hs,q⟩:=h;cases x with
 |non=>
  cases rx;cases y with
  |non=>cases ry;exact PySem.EqNone.ne_none_none (fin_bl I q (by simp))
  |bl j=>cases ry;exact PySem.EqNone.ne_none_bool (fin_bl I q (by simp))
  |int j=>obtain⟨t',rfl⟩:=ry;exact PySem.EqNone.ne_none_int (fin_bl I q (by simp))
  |str j=>obtain⟨t',rfl⟩:=ry;exact PySem.EqNone.ne_none_str (fin_bl I q (by simp))
  |_=>exact absurd (show false=true from hs) aK
 |bl i=>
  cases rx;cases y with
  |non=>cases ry;exact PySem.EqNone.ne_bool_none (fin_bl I q (by simp))
  |bl j=>cases ry;exact ne_bool (fin_bl I q (congrArg not dec_bl))
  |str j=>obtain⟨t',rfl⟩:=ry;exact PySem.EqMixed.ne_bool_str (fin_bl I q (by simp))
  |_=>exact absurd (show false=true from hs) aK
 |int i=>
  obtain⟨t,rfl⟩:=rx;cases y with
  |non=>cases ry;exact PySem.EqNone.ne_int_none (fin_bl I q (by simp))
  |int j=>obtain⟨t',rfl⟩:=ry;exact ne_int (fin_bl I q (congrArg not dec_int))
  |str j=>obtain⟨t',rfl⟩:=ry;exact PySem.EqMixed.ne_int_str (fin_bl I q (by simp))
  |_=>exact absurd (show false=true from hs) aK
 |str i=>
  obtain⟨t,rfl⟩:=rx;cases y with
  |non=>cases ry;exact PySem.EqNone.ne_str_none (fin_bl I q (by simp))
  |bl j=>cases ry;exact PySem.EqMixed.ne_str_bool (fin_bl I q (by simp))
  |int j=>obtain⟨t',rfl⟩:=ry;exact PySem.EqMixed.ne_str_int (fin_bl I q (by simp))
  |str j=>obtain⟨t',rfl⟩:=ry;exact ne_str (fin_bl I q (congrArg not dec_str))
  |_=>exact absurd (show false=true from hs) aK
 |byt i=>
  obtain⟨t,rfl⟩:=rx;cases y with
  |byt j=>obtain⟨t',rfl⟩:=ry;exact W.ne_bytes (fin_bl I q (congrArg not dec_byt))
  |_=>exact absurd (show false=true from hs) aK
 |_=>cases y<;>exact absurd (show false=true from hs) aK
theorem op_lt:OpR X (compareOp .Lt) (rI0 λi j=>.bl (decide (i<j))):=opB0 λ_ _ _ _ _ _ _ q=>lt_int q
theorem op_le:OpR X (compareOp .LtE) (rI0 λi j=>.bl (decide (i<=j))):=opB0 λ_ _ _ _ _ _ _ q=>le_int q
theorem op_gt:OpR X (compareOp .Gt) (rI0 λi j=>.bl (decide (j<i))):=opB0 λ_ _ _ _ _ _ _ q=>gt_int q
theorem op_ge:OpR X (compareOp .GtE) (rI0 λi j=>.bl (decide (j<=i))):=opB0 λ_ _ _ _ _ _ _ q=>ge_int q
theorem nomark (b:Expr)(h:op ≠ .In:=by decide)(h2:op ≠ .NotIn:=by decide):behindInMarks op b=false:=by
 have e1:(op == CmpOp.In)=false:=by cases op<;>first|rfl|exact absurd rfl h
 have e2:(op == CmpOp.NotIn)=false:=by cases op<;>first|rfl|exact absurd rfl h2
 cases b<;>simp[behindInMarks,e1,e2]
theorem pe_cmpR {op:CmpOp}{r:R2}(ho:OpR X (compareOp op) r)(ha:PE X a ta)(hb:PE X b tb)(hm:behindInMarks op b=false):PE X (.Compare a [op] [b] pos) (tOp r ta tb):=by intro pins s σ H Q I h;exact wpAny_Compare1 (binT ha hb I h λv u s2 x y H2 I2 rx ry q=>ho pins s2 σ H2 x y v u Q I2 rx ry q) hm
def tTest (t:TE):TT:=λσ H Q=>t σ H λx H'=>∃k,x=.bl k/\Q k H'
theorem pt_cmpR (ho:OpR X (compareOp op) r)(ha:PE X a ta)(hb:PE X b tb)(hm:behindInMarks op b=false):PT X (.Compare a [op] [b] pos) (tTest (tOp r ta tb)):=by
 intro pins s σ H Q I h;refine wpAny_isTrue_Compare1 (thn (ha pins s σ H _ I h) λv s1 ⟨x,H1,I1,r1,q1⟩=>thn (hb pins s1 σ H1 _ I1 q1) λu s2 ⟨y,H2,I2,r2,q2⟩=>
  thn (ho pins s2 σ H2 x y v u _ I2 r1 r2 q2) λc s3 ⟨z,H3,I3,r3,k,e,q3⟩=>?_) hm
 subst e;cases r3;exact cO ⟨H3,I3,q3⟩
def TruV (K:Fg)(x:V)(H:Hp)(k:Bool):Prop:=
 match x with
 | .non=>k=false
 | .bl b=>k=b
 | .int i=>k=(i != 0)
 | .str y=>y.length<=sizeLine/\k=((y.length:Int) != 0)
 | .byt y=>y.size<=sizeLine/\k=((y.size:Int) != 0)
 | .ref p=>(∃xs,SqL K H p xs/\k = !xs.isEmpty)\/(∃xs,SqT K H p xs/\k = !xs.isEmpty)\/∃kvs,H p=some (.dK kvs)/\k = !kvs.isEmpty
 |_=>False
theorem isEmpty_kv {κ:Type}{kvs:List (κ×V)}{vs:List (κ×Value)}(r:KV kvs vs):(!vs.isEmpty) = !kvs.isEmpty:=by cases r<;>rfl
theorem isEmpty_of (r:Vals xs its):(!its.toArray.isEmpty) = !xs.isEmpty:=by cases r<;>simp
theorem line63:(sizeLine:Nat)<2^63:=by rw[dR];decide
theorem tru_ok:TruR X (λx H Q=>∃k,TruV X.K x H k/\Q k H):=by
 intro pins s σ H x v Q I rx h;obtain⟨k,e,q⟩:=h;have hl:=line63;have hs:sizeLine=16777216:=dR;cases x with
 |non=>cases rx;have e':k=false:=e;subst e';exact truthy_none ⟨H,I,q⟩
 |bl b=>cases rx;have e':k=b:=e;subst e';exact cO ⟨H,I,q⟩
 |int i=>obtain⟨t,rfl⟩:=rx;have e':k=(i != 0):=e;subst e';exact PySem.P.truthy_int ⟨H,I,q⟩
 |str y=>obtain⟨t,rfl⟩:=rx;obtain⟨hy,e'⟩:y.length<=sizeLine/\k=((y.length:Int) != 0):=e;subst e';exact PySem.P.truthy_str (by lia) ⟨H,I.tok _,q⟩
 |byt y=>obtain⟨t,rfl⟩:=rx;obtain⟨hy,e'⟩:y.size<=sizeLine/\k=((y.size:Int) != 0):=e;subst e';exact W.truthy_bytes (by lia) ⟨H,I.tok _,q⟩
 |ref p=>
  cases rx;have e':(∃xs,SqL X.K H p xs/\k = !xs.isEmpty)\/(∃xs,SqT X.K H p xs/\k = !xs.isEmpty)\/∃kvs,H p=some (.dK kvs)/\k = !kvs.isEmpty:=e;rcases e' with⟨xs,hx,e'⟩|⟨xs,hx,e'⟩|⟨kvs,hx,e'⟩
  ·subst e';obtain⟨its,r,pl,hz⟩:=I.list hx;have hlen:=r.length;exact wpAny_truthy_list pl.isList (by simp only[ao];lia) ⟨H,I.tok _,by rw[isEmpty_of r];exact q⟩
  ·subst e';obtain⟨its,r,pl,hz⟩:=I.tuple hx;have hlen:=r.length;exact truthy_tuple pl (by simp only[ao];lia) ⟨H,I.tok _,by rw[isEmpty_of r];exact q⟩
  ·subst e';obtain⟨hz,hS,vs,r,m⟩:kvs.length<=sizeLine/\(p == sysModules)=false/\∃vs,KV kvs vs/\s.heap.DictOf (mixKind X.prog X.w) p vs:=I.hok p _ hx;have hlen:kvs.length=vs.length:=eE r;exact wpAny_truthy_dict hS m (by lia) ⟨H,I.tok _,by rw[isEmpty_kv r];exact q⟩
 |_=>exact(show False from e).elim
theorem pt_truth (ha:PE X a ta)(he:∀whole,isTrue a X.env whole=(do let v <- whole;standAt a.pos;holding [v] (truthy v))) :
  PT X a (λσ H Q=>ta σ H λx H'=>∃k,TruV X.K x H' k/\Q k H'):=by
 intro pins s σ H Q I h;exact isTrue_plain (thn (ha pins s σ H _ I h) λv s1 ⟨x,H1,I1,r1,q1⟩=>tru_ok pins s1 σ H1 x v Q I1 r1 q1) (he _)
theorem vals1 (r:Vals [x] us):∃u,us=[u]/\RelV x u:=by
 cases r with
 |cons r1 r2=>cases r2;exact⟨_,rfl,r1⟩
theorem vals2 (r:Vals [x,y] us):∃u w',us=[u,w']/\RelV x u/\RelV y w':=by
 cases r with
 |cons r1 r2=>
  cases r2 with
  |cons r3 r4=>cases r4;exact⟨_,_,rfl,r1,r3⟩
theorem call_max2 (hc:X.calm=true):CallR X (.builtin "max") (λxs H Q=>∃i j,xs=[.int i,.int j]/\Q (.int (if j > i then j else i)) H):=by
 intro pins s σ H xs us Q I r h;obtain⟨i,j,rfl,q⟩:=h;obtain⟨u,w',rfl,⟨t,rfl⟩,⟨t',rfl⟩⟩:=vals2 r;refine max_two_ints (I.ok.hd hc) λh' tk k=>⟨_,H,I.kept k,?_,q⟩;by_cases hj:j > i
 ·rw[ae hj,ae hj];exact⟨_,rfl⟩
 ·rw[af hj,af hj];exact⟨_,rfl⟩
end
structure ObjM (h:Heap)(x dx C:Addr)(mA:Mg):Prop where
 obj:h.get? x=some (W.instObj C dx)
 ns:h.Ns1 dx mA
 ne:dx≠x
theorem lookIn_ns {h:Heap}{dx:Addr}{mA:Mg}(n:h.Ns1 dx mA):∃od,h.get? dx=some od/\∀name,W.lookIn name od=some (mA name):=by
 obtain⟨o,es,ep,ho,hd,hk,_,hm⟩:=n;refine⟨o,ho,λname=>?_⟩;have e:=hm name;unfold nsFind findBy at e;rw[<- Array.find?_toList]at e;unfold W.lookIn;rw[hd];dsimp only;split
 ·rename_i y q;rw[q]at e;exact congrArg some e
 ·rename_i q;rw[q]at e;have a:es.toList.any (·.refKey)=false:=by rw[List.any_eq_false];intro y hy;obtain⟨z,t,hkey⟩:=hk y (Array.mem_toList_iff.mp hy);simp[DictEntry.refKey,hkey]
  have a':¬es.toList.any (·.refKey)=true:=by rw[a];exact aK
  rw[af a'];exact congrArg some e
theorem ObjM.look (I:ObjM h x dx C mA):∃od,W.InstAt h x (W.instObj C dx) C (some od)/\∀name,W.lookIn name od=some (mA name):=
 let ⟨od,ho,hl⟩:=lookIn_ns I.ns
 ⟨od,⟨I.obj,rfl,rfl,ho⟩,hl⟩
section
variable {prog:Program}{w:World}{A:Around}{E:Value->Shared->Prop}{s:Shared}{K:Fg}{x dx C f:Addr}{mA:Mg}{name:Str}{v:Value}
theorem get_map (X:K.In s.heap)(I:ObjM s.heap x dx C mA)(hg:W.plainGet K C name=true)(hh:W.hasDictIn K C=true)
  (ha:W.findIn K (.ref C) name=some none) (hv:mA name=some v) (hv':W.handedIn v=true) (h:Q v { s with toks:=s.toks+1 }) :
  wpAny (model prog w) A (getAttr (.ref x) name expr) Q E s:=by
 obtain⟨od,J,hl⟩:=I.look;exact W.get_value X J (dS hg).1 (W.findObj_own hh ha rfl (by rw[hl,hv])) hv' h
theorem get_meth (X:K.In s.heap)(I:ObjM s.heap x dx C mA)(hg:W.plainGet K C name=true)
  (hf:W.findIn K (.ref C) name=some (some (.ref f))) (ht:W.isFn K (.ref f)=true) (hv:mA name=none) (h:Q (.ref f,[.ref x]) s) :
  wpAny (model prog w) A (getMethod (.ref x) name pl) Q E s:=by
 obtain⟨od,J,hl⟩:=I.look;exact W.method_fn X J (dS hg).1 (dS hg).2 hf (beq_iff_eq.mp ht) (by show(W.lookIn name od).map (·.isSome)=some false;rw[hl,hv];rfl) h
theorem set_map (X:K.In s.heap)(I:ObjM s.heap x dx C mA)
  (hs:W.findIn K (.ref C) "__setattr__"=some (some (.builtin "object.__setattr__"))) (hp:W.plainOver K C=true) (ht:W.takerIn K C name=some none) (hh:W.hasDictIn K C=true)
  (hw:PySem.Within mA ns) (hsz:ns.length<=sizeLine)
  (h:∀h',ObjM h' x dx C (λy=>if y=name then some v else mA y)->Heap.SameBut dx s.heap h' -> Q () { s with heap:=h',toks:=s.toks+2 }) :
  wpAny (model prog w) A (setAttr (.ref x) name v) Q E s:=by
 obtain⟨od,J,hl⟩:=I.look;refine W.set_plain X J hs (W.osa_open (s:={ s with toks:=s.toks+1 }) (r:=none) X J hp ht λb=>?_);obtain⟨cd,hc,hd'⟩:=eQ hh;have hx:s.heap.get? x=some ⟨.ref C,some dx,.plain,#[]⟩:=I.obj;refine ak (aV (ak (ak (wpAny_loadPart hx (ak (W.Looks.here (s:={ s with toks:=s.toks+1 }) (W.looks_clsIn X hc) ?_))))));rw[hd'];refine aV (a:=some dx) (ak (aV (ak ?_)));refine wpAny_nsSet1 (s:={ s with toks:=s.toks+1 }) I.ns λh' hn2 hs2=>?_;obtain⟨oD,esD,epD,hoD,hdD,hcD⟩:=hn2.count (PySem.Within.cons name v hw);refine ak (wpAny_lookBehind hoD (by rw[hdD];exact pastItsLine_dict (aG hcD (by rw[bh];lia))) ?_);exact aV (h _ ⟨(hs2.2 _ (bP I.ne)).trans I.obj,hn2,I.ne⟩ hs2)
theorem make_map (X:K.In s.heap)(hm:W.makesIn K C=true)
  (hi:W.findIn K (.ref C) "__init__"=some (some (.ref f))) (hf:W.typeIn K (.ref f)=some (.type "function"))
  (h:codeAny (model prog w) (A.under (.builtin "type.__call__" ⟨.ref C::vs,kw⟩)) (.call (.ref f) ⟨.ref (s.heap.objs.size+1)::vs,kw⟩) (W.InitBack (s.heap.objs.size+1) R)
   { s with heap:=(s.heap.push W.emptyDict).push (W.instObj C s.heap.objs.size) }) :
  codeAny (model prog w) A (.call (.ref C) ⟨vs,kw⟩) R s:=by
 obtain⟨hh,g,d,t,os⟩:=s;exact W.make_core (W.makes_of X hm) (dJ X hi) (λself=>W.bind_fn X self hf) (.inl rfl) h
end
def putF (f:Str)(v:V):List (Str×V)->List (Str×V)
 |[]=>[(f,v)]
 |(g,x)::r=>if g=f then(g,v)::r else(g,x)::putF f v r
theorem lookup_putF (f g:Str)(v:V):∀fs:List (Str×V),(putF f v fs).lookup g=if g=f then some v else fs.lookup g
 |[]=>by
  show List.lookup g [(f,v)]=_;by_cases h:g=f
  ·have hb:(g == f)=true:=beq_iff_eq.mpr h;simp only[List.lookup,hb,ae h]
  ·have hb:(g == f)=false:=beq_eq_false_iff_ne.mpr h;simp only[List.lookup,hb,af h]
 |(k,x)::r=>by
  have ih:=lookup_putF f g v r;rw[show putF f v ((k,x)::r)=(if k=f then(k,v)::r else(k,x)::putF f v r) from rfl];by_cases hk:k=f
  ·rw[ae hk];by_cases h:g=k
   ·have hb:(g == k)=true:=beq_iff_eq.mpr h;simp only[List.lookup,hb,ae (h.trans hk)]
   ·have hb:(g == k)=false:=beq_eq_false_iff_ne.mpr h;simp only[List.lookup,hb,af (λe:g=f=>h (e.trans hk.symm))]
  ·rw[af hk];by_cases h:g=k
   ·have hb:(g == k)=true:=beq_iff_eq.mpr h;simp only[List.lookup,hb,af (λe:g=f=>hk (h.symm.trans e))]
   ·have hb:(g == k)=false:=beq_eq_false_iff_ne.mpr h;simp only[List.lookup,hb];exact ih
theorem keys_putF (f:Str)(v:V):∀fs:List (Str×V),f∈(putF f v fs).map (·.1)/\∀g,g∈fs.map (·.1)->g∈(putF f v fs).map (·.1)
 |[]=>⟨by simp[putF],λg h=>by simp at h⟩
 |(k,x)::r=>by
  obtain⟨i1,i2⟩:=keys_putF f v r;rw[show putF f v ((k,x)::r)=(if k=f then(k,v)::r else(k,x)::putF f v r) from rfl];by_cases hk:k=f
  ·rw[ae hk];subst hk;exact⟨by simp,λg h=>by simpa using h⟩
  ·rw[af hk];refine⟨?_,λg h=>?_⟩
   ·rw[aA];exact ac _ i1
   ·rw[aA]at h ⊢;rcases az.mp h with e|e
    ·exact az.mpr (.inl e)
    ·exact ac _ (i2 g e)
theorem length_putF (f:Str)(v:V):∀fs:List (Str×V),(putF f v fs).length<=fs.length+1
 |[]=>by simp[putF]
 |(k,x)::r=>by
  have ih:=length_putF f v r;rw[show putF f v ((k,x)::r)=(if k=f then(k,v)::r else(k,x)::putF f v r) from rfl];by_cases hk:k=f
  ·rw[ae hk,bh,bh];lia
  ·rw[af hk,bh,bh];lia
theorem RelO.some_of (r:RelO (some v) o):∃u,o=some u/\RelV v u:=by
 cases o with
 |none=>exact(show False from r).elim
 |some u=>exact⟨u,rfl,r⟩
theorem RelO.none_of (r:RelO none o):o=none:=by
 cases o with
 |none=>rfl
 |some u=>exact(show False from r).elim
theorem handed_of (r:RelV v u):W.handedIn u=true:=by
 cases v with
 |non=>cases (show u=Value.none from r);rfl
 |bl b=>cases (show u=Value.bool b from r);rfl
 |int i=>obtain⟨t,e⟩:=(show ∃t,u=Value.int i t from r);cases e;rfl
 |str x=>obtain⟨t,e⟩:=(show ∃t,u=Value.str x t from r);cases e;rfl
 |byt b=>obtain⟨t,e⟩:=(show ∃t,u=Value.bytes b t from r);cases e;rfl
 |flt b=>obtain⟨t,e⟩:=(show ∃t,u=Value.float b t from r);cases e;rfl
 |ref a=>cases (show u=Value.ref a from r);rfl
 |ty n=>cases (show u=Value.type n from r);rfl
section
variable {P:Program}{w:World}{H H':Hp}{h h':Heap}{a C dx:Addr}{fs fs':List (Str×V)}
theorem ins_get (hok:HOk P w H h)(e:H a=some (.ins C dx fs)):∃mA,ObjM h a dx C mA/\(∀f,RelO (fs.lookup f) (mA f))/\PySem.Within mA (fs.map (·.1))/\fs.length<=1000/\H dx=some (.own a):=by obtain⟨d,z,ne,ob,mA,n,r,q⟩:=(show ObjOk P w H h a (.ins C dx fs) from hok a _ e);exact⟨mA,⟨ob,n,ne⟩,r,q,z,d⟩
end
structure Cls (K:Fg)(C:Addr):Prop where
 pg:W.plainGet K C Str.empty=true
 hd:W.hasDictIn K C=true
 po:W.plainOver K C=true
 sa:W.findIn K (.ref C) "__setattr__"=some (some (.builtin "object.__setattr__"))
theorem Cls.get {K:Fg}{C:Addr}(c:Cls K C)(f:Str):W.plainGet K C f=true:=c.pg
def NoAttr (K:Fg)(C:Addr)(f:Str):Prop:=W.findIn K (.ref C) f=some none
theorem NoAttr.taker {K:Fg}{C:Addr}{f:Str}(n:NoAttr K C f):W.takerIn K C f=some none:=by unfold W.takerIn;rw[show W.findIn K (.ref C) f=some none from n];rfl
structure Meth (K:Fg)(C:Addr)(m:Str)(f:Addr):Prop where
 at_:W.findIn K (.ref C) m=some (some (.ref f))
 fn:W.isFn K (.ref f)=true
 kp:W.keepIn K (.ref f)=true
section
variable {X:Cx}{pins:List (Addr×Obj)}{σ:St}{H:Hp}{s:Shared}{a C dx:Addr}{fs:List (Str×V)}{f:Str}{v:V}{A:Around}{E:Value->Shared->Prop}
theorem getattr_ok (I:Inv X pins σ H s)(e:H a=some (.ins C dx fs))(c:Cls X.K C)(n:NoAttr X.K C f)(l:fs.lookup f=some v)
  (h:∀u s',Inv X pins σ H s' -> RelV v u->Q u s'):wpAny (model X.prog X.w) A (getAttr (.ref a) f b) Q E s:=by
 obtain⟨mA,O,r,_,_,_⟩:=ins_get I.hok e;obtain⟨u,hu,ru⟩:=RelO.some_of (v:=v) (o:=mA f) (by rw[<- l];exact r f);exact get_map I.kIn O (c.get f) c.hd n hu (handed_of ru) (h u _ (I.tok _) ru)
theorem getmeth_ok (I:Inv X pins σ H s)(e:H a=some (.ins C dx fs))(c:Cls X.K C)(k:Meth X.K C m g)(l:fs.lookup m=none)
  (h:Q (.ref g,[.ref a]) s):wpAny (model X.prog X.w) A (getMethod (.ref a) m pl) Q E s:=by
 obtain⟨mA,O,r,_,_,_⟩:=ins_get I.hok e;have hn:mA m=none:=RelO.none_of (by rw[<- l];exact r m);exact get_meth I.kIn O (c.get m) k.at_ k.fn hn h
theorem setattr_ok (I:Inv X pins σ H s)(e:H a=some (.ins C dx fs))(c:Cls X.K C)(n:NoAttr X.K C f)(hl:fs.length<1000)(ry:RelV y u)
  (h:∀s',Inv X pins σ (upd H a (.ins C dx (putF f y fs))) s' -> Q () s'):wpAny (model X.prog X.w) A (setAttr (.ref a) f u) Q E s:=by
 obtain⟨mA,O,r,wi,_,ho⟩:=ins_get I.hok e;have hz:(fs.map (·.1)).length<=sizeLine:=by rw[aa,dR];lia
 refine set_map I.kIn O c.sa c.po n.taker c.hd wi hz λh' O' sb=>h _ ?_;have hd:∃o,h'.get? dx=some o:=let ⟨o,_,_,e',_⟩:=O'.ns;⟨o,e'⟩
 refine I.write (x:=a) (e:=dx) (by rw[e];exact tT) (.inr ho) (λb q hb z=>(sb.2 b hb).trans z) hd ?_;refine⟨by rw[upd_ne O.ne];exact ho,?_,O.ne,O'.obj,_,O'.ns,λg=>?_,λg hg=>?_⟩
 ·have:=length_putF f y fs;lia
 ·show RelO ((putF f y fs).lookup g) (if g=f then some u else mA g);rw[lookup_putF];by_cases q:g=f
  ·rw[ae q,ae q];exact ry
  ·rw[af q,af q];exact r g
 ·by_cases q:g=f
  ·rw[q];exact(keys_putF f y fs).1
  ·refine(keys_putF f y fs).2 g (wi g λz=>hg ?_);show(if g=f then some u else mA g)=none;rw[af q];exact z
theorem Inv.made (I:Inv X pins σ H s):Inv X pins σ (upd (upd H s.heap.objs.size (.own (s.heap.objs.size+1))) (s.heap.objs.size+1) (.ins C s.heap.objs.size []))
  { s with heap:=(s.heap.push W.emptyDict).push (W.instObj C s.heap.objs.size) }:=by
 have e1:(s.heap.push W.emptyDict).get? s.heap.objs.size=some W.emptyDict:=aP s.heap rfl;have e2:((s.heap.push W.emptyDict).push (W.instObj C s.heap.objs.size)).get? (s.heap.objs.size+1)=some (W.instObj C s.heap.objs.size):=by
  have:=aP (s.heap.push W.emptyDict) (o:=W.instObj C s.heap.objs.size) rfl
  rwa [Heap.size_push]at this
 have e3:(s.heap.push W.emptyDict).Ns s.heap.objs.size (λ_=>none):=⟨W.emptyDict,#[],_,e1,rfl,(λe he=>absurd he (by simp)),λ_=>rfl⟩;have I1:=I.laid (a:=s.heap.objs.size) (o:=.own (s.heap.objs.size+1)) (h':=s.heap.push W.emptyDict) (t':=s.toks) (λb u q=>ah _ q) (aj _) ⟨_,e1⟩;refine I1.laid (a:=s.heap.objs.size+1) (o:=.ins C s.heap.objs.size []) (t':=s.toks) (λb u q=>ah _ q) (fX (Heap.size_push _ _)) ?_;have ne:s.heap.objs.size≠s.heap.objs.size+1:=aO (cy _);refine⟨by rw[upd_ne ne,upd_same],be _,ne,e2,λ_=>none,(Heap.Ns1.of_empty e3).at λo q=>ah _ q,λ_=>tT,λy hy=>absurd rfl hy⟩
theorem attr_of (hb:attributeBase e f env (eval e env)=eval e env)
  (h:wpAny (model prog w) A (eval e env) (λo s₁=>wpAny (model prog w) A (getAttr o f true) Q E s₁) E s):wpAny (model prog w) A (eval (.Attribute e f pos) env) Q E s:=
 Attribute_any_ h (by rw[arm_eval_Attribute,hb])
end
def tFld (K:Fg)(ta:TE)(f:Str):TE:=λσ H Q=>ta σ H λx H1=>∃a C dx fs v,x=.ref a/\H1 a=some (.ins C dx fs)/\Cls K C/\NoAttr K C f/\fs.lookup f=some v/\Q v H1
def sFld (K:Fg)(ta tv:TE)(f:Str):TS:=λD σ H=>tv σ H λy H1=>ta σ H1 λx H2=>∃a C dx fs,x=.ref a/\H2 a=some (.ins C dx fs)/\Cls K C/\NoAttr K C f/\fs.length<1000 /\
 D.nx σ (upd H2 a (.ins C dx (putF f y fs)))
section
variable {X:Cx}{o e value:Expr}{f:Str}{pos pos' tpos:Pos}{ta tv:TE}
theorem pe_fld (he:PE X e ta)(hb:attributeBase e f X.env (eval e X.env)=eval e X.env):PE X (.Attribute e f pos) (tFld X.K ta f):=by intro pins s σ H Q I h;refine attr_of hb (thn (he pins s σ H _ I h) λu s1 ⟨x,H1,I1,rx,a,C,dx,fs,v,ex,ea,c,n,l,q⟩=>?_);subst ex;obtain rfl:u=Value.ref a:=rx;exact getattr_ok I1 ea c n l λu' s2 I2 ru=>⟨v,H1,I2,ru,q⟩
theorem ps_fld (ha:PE X o ta)(hv:PE X value tv)(hs:swapsWith value (some (.Attribute o f pos')) pos.line X.env=pure false):PS X (.Assign [.Attribute o f pos'] value pos) (sFld X.K ta tv f):=by intro pins s σ H D I h;refine plainObj_wpAny_Assign_Attribute (thn (hv pins s σ H _ I h) λu s1 ⟨y,H1,I1,ry,q⟩=>thn (ha pins s1 σ H1 _ I1 q) λov s2 ⟨x,H2,I2,rx,a,C,dx,fs,ex,ea,c,n,l,q2⟩=>?_) hs;subst ex;obtain rfl:ov=Value.ref a:=rx;exact setattr_ok I2 ea c n l ry λs3 I3=>⟨σ,_,I3,q2⟩
end
section
variable {X:Cx}{pins:List (Addr×Obj)}{σ:St}{H:Hp}{s:Shared}{A:Around}{E:Value->Shared->Prop}{Q:Value->Shared->Prop}{c:Value}{b:Bool}
inductive TyOf (K:Fg)(H:Hp):V->Value->Prop where
 |non:TyOf K H .non (.type "NoneType")
 |bl (x:Bool):TyOf K H (.bl x) (.type "bool")
 |int (i:Int):TyOf K H (.int i) (.type "int")
 |str (x:Str):TyOf K H (.str x) (.type "str")
 |flt (x:UInt64):TyOf K H (.flt x) (.type "float")
 |lst {a:Addr} {xs:List V} (e:H a=some (.lst xs)):TyOf K H (.ref a) (.type "list")
 |frz {a:Addr} {o:Obj} {xs:List V} (e:H a=some (.frz o (.lst xs))):TyOf K H (.ref a) (.type "list")
 |tup {a:Addr} {xs:List V} (e:H a=some (.tup xs)):TyOf K H (.ref a) (.type "tuple")
 |dK {a:Addr} {kvs:List (Key×V)} (e:H a=some (.dK kvs)):TyOf K H (.ref a) (.type "dict")
 |dT {a:Addr} {kvs:List (List Key×V)} (e:H a=some (.dT kvs)):TyOf K H (.ref a) (.type "dict")
 |ins {a C dx:Addr} {fs:List (Str×V)} (e:H a=some (.ins C dx fs)) (cl:Cls K C) (ha:W.findIn K (.ref C) "__class__"=some (some (.builtin "object.__class__")))
   (hn:W.specialIn K (.builtin "object.__class__") "__get__"=some (some (.builtin "getset_descriptor.__get__"))) (htk:W.takesIn K (.builtin "object.__class__")=some true)
   (hm:W.mroIn K C (.type "object")=some true):TyOf K H (.ref a) (.ref C)
theorem isinst_ok (I:Inv X pins σ H s)(rx:RelV x u)(ty:TyOf X.K H x t)(e:W.kitOne X.K t c=some b)(h:∀tk,Q (.bool b) { s with toks:=tk }) :
  wpAny (model X.prog X.w) A (call (.builtin "isinstance") [u,c]) Q E s:=by
 cases ty with
 |non=>cases (show u=Value.none from rx);exact bn W.kitx_none I.kIn tT e (λz=>nomatch z) h
 |bl y=>cases (show u=Value.bool y from rx);exact bn W.kitx_bool I.kIn tT e (λz=>nomatch z) h
 |int i=>obtain⟨t,q⟩:=(show ∃t,u=Value.int i t from rx);cases q;exact bn W.kitx_int I.kIn tT e (λz=>nomatch z) h
 |str y=>obtain⟨t,q⟩:=(show ∃t,u=Value.str y t from rx);cases q;exact bn W.kitx_str I.kIn tT e (λz=>nomatch z) h
 |flt y=>obtain⟨t,q⟩:=(show ∃t,u=Value.float y t from rx);cases q;exact bn W.kitx_float I.kIn tT e (λz=>nomatch z) h
 |@lst a xs ea=>cases (show u=Value.ref a from rx);obtain⟨_,_,n,_,h1⟩:=(show ObjOk X.prog X.w H s.heap a (.lst xs) from I.hok a _ ea);exact bn W.kitx_list I.kIn ⟨_,h1,rfl⟩ e (λz=>nomatch z) h
 |@frz a ob xs ea=>cases (show u=Value.ref a from rx);obtain⟨_,_,_,n,_,h1⟩:=(show ObjOk X.prog X.w H s.heap a (.frz ob (.lst xs)) from I.hok a _ ea);exact bn W.kitx_list I.kIn ⟨_,h1,rfl⟩ e (λz=>nomatch z) h
 |@tup a xs ea=>cases (show u=Value.ref a from rx);obtain⟨_,_,_,p⟩:=(show ObjOk X.prog X.w H s.heap a (.tup xs) from I.hok a _ ea);obtain⟨o,h1,h2,_⟩:=p;exact bn W.kitx_tuple I.kIn ⟨o,h1,h2⟩ e (λz=>nomatch z) h
 |@dK a kvs ea=>cases (show u=Value.ref a from rx);obtain⟨_,_,vs,_,p⟩:=(show ObjOk X.prog X.w H s.heap a (.dK kvs) from I.hok a _ ea);obtain⟨o,es,ep,h1,h2,_⟩:=p;exact bn W.kitx_dict I.kIn ⟨o,h1,h2.1⟩ e (λz=>nomatch z) h
 |@dT a kvs ea=>cases (show u=Value.ref a from rx);obtain⟨_,_,xs,_,o,es,ep,h1,h2,_⟩:=(show ObjOk X.prog X.w H s.heap a (.dT kvs) from I.hok a _ ea);exact bn W.kitx_dict I.kIn ⟨o,h1,h2.1⟩ e (λz=>nomatch z) h
 |@ins a C dx fs ea cl ha hn htk hm=>cases (show u=Value.ref a from rx);obtain⟨mA,O,_⟩:=ins_get I.hok ea;obtain⟨od,J,_⟩:=O.look;exact bn (W.kitx_own (cl.get _) cl.hd ha hn htk hm) I.kIn J e (λz=>nomatch z) h
end
structure Room (k:Nat)(A:Around):Prop where
 hd:A.handled=none
 dp:A.depth+3*k+5<recursionLimit
 un:A.units+16*k+200<cLine
theorem Room.mono (r:Room k A)(h:j<=k):Room j A:=⟨r.hd,by have:=r.dp;lia,by have:=r.un;lia⟩
theorem Room.deeper (r:Room (k+1) A)(env:Env):Room k (A.deeper env):=
 ⟨r.hd,by have:=r.dp;show A.depth+1+3*k+5<_;lia,by have:=r.un;show A.units+3+16*k+200<_;lia⟩
theorem make_depth {A:Around}{C:Addr}{us:Lv}{kw:List (Str×Value)}:(A.under (.builtin "type.__call__" ⟨.ref C::us,kw⟩)).depth=A.depth+1:=by
 first|rfl|simp[Around.under,Code.weight,Code.isCreation,Code.isGuard,Code.isCaller,Code.frames,Code.isFrame,guardIds]
theorem make_units {A:Around}{C:Addr}{us:Lv}{kw:List (Str×Value)}:(A.under (.builtin "type.__call__" ⟨.ref C::us,kw⟩)).units=A.units+1:=by
 first|rfl|simp[Around.under,Code.cUnits,Code.frames,Code.isFrame]
theorem Room.make (r:Room (k+1) A)(C:Addr)(us:Lv)(kw:List (Str×Value)):Room k (A.under (.builtin "type.__call__" ⟨.ref C::us,kw⟩)):=
 ⟨r.hd,by have:=r.dp;rw[make_depth];lia,by have:=r.un;rw[make_units];lia⟩
theorem Room.depth (r:Room k A):A.depth<recursionLimit:=by have:=r.dp;lia
theorem Room.units (r:Room k A):A.units+64<cLine:=by have:=r.un;lia
def tNil:TA:=λ_ H Q=>Q [] H
def tCons (ta:TE)(tr:TA):TA:=λσ H Q=>ta σ H λx H1=>tr σ H1 λxs H2=>Q (x::xs) H2
section
variable {X:Cx}{e:Expr}{es:List Expr}{te:TE}{t:TA}{pos:Pos}
theorem pa_nil:PA X [] tNil:=λ_ _ _ _ H Q I h=>Calls.spliced_nil ⟨[],H,I,.nil,h⟩
theorem pa_cons (ha:PE X e te)(hr:PA X es t)(hs:starEach (e::es) X.env=(false,eval e X.env)::starEach es X.env:=by rfl):PA X (e::es) (tCons te t):=by intro pos pins s σ H Q I h;rw[hs];show wpAny _ _ (spliced ((false,eval e X.env)::backTo pos (starEach es X.env))) _ _ s;refine dZ (thn (ha pins s σ H _ I h) λu s1 ⟨x,H1,I1,r1,q1⟩=>?_);exact thn (hr pos pins s1 σ H1 _ I1 q1) λus s2 ⟨xs,H2,I2,r2,q2⟩=>⟨x::xs,H2,I2,.cons r1 r2,q2⟩
def tTup (t:TA):TE:=λσ H Q=>t σ H λxs H1=>xs.length<=sizeLine/\∀p,H1 p=none->Q (.ref p) (upd H1 p (.tup xs))
def tLst (t:TA):TE:=λσ H Q=>t σ H λxs H1=>xs.length<=sizeLine/\∀p,H1 p=none->Q (.ref p) (upd H1 p (.lst xs))
theorem pe_tup (h:PA X es t):PE X (.Tuple es x1 pos) (tTup t):=by intro pins s σ H Q I hq;refine wpAny_Tuple_spliced (thn (h pos pins s σ H _ I hq) λus s1 ⟨xs,H1,I1,r,z,q⟩=>⟨by rw[<- r.length];exact z,?_⟩);have hf:H1 s1.heap.objs.size=none:=I1.hok.fresh (aj _);refine⟨.ref s1.heap.objs.size,upd H1 s1.heap.objs.size (.tup xs),I1.laid (t':=s1.toks) (λb u e=>ah _ e) (aj _) ?_,rfl,q _ hf⟩;exact⟨z,us,r,⟨_,aP _ rfl,rfl,_,rfl⟩⟩
theorem pe_lst (h:PA X es t):PE X (.List es pos) (tLst t):=by intro pins s σ H Q I hq;refine wpAny_List_spliced (thn (h pos pins s σ H _ I hq) λus s1 ⟨xs,H1,I1,r,z,q⟩=>⟨by rw[<- r.length];exact z,?_⟩);have hf:H1 s1.heap.objs.size=none:=I1.hok.fresh (aj _);refine⟨.ref s1.heap.objs.size,upd H1 s1.heap.objs.size (.lst xs),I1.laid (t':=s1.toks) (λb u e=>ah _ e) (aj _) ?_,rfl,q _ hf⟩;exact⟨z,us,0,r,aP _ rfl⟩
end
abbrev Sp:=List V->Hp->VK->XK->Prop
abbrev CXT:=List Env->Hp->Shared->XK->Value->Shared->Prop
structure Env0 (P:Program)(w:World)(K:Fg)(mg:Mg)(base:Heap)(A:Around)(outer:List Env)(s:Shared)(H:Hp):Prop where
 frames:A.frames=some outer
 mod:Mod K mg base
 bs:∀b o,base.get? b=some o->s.heap.get? b=some o/\H b=none
 bsz:base.objs.size<=s.heap.objs.size
 funs:s.heap.FunFrames base outer
 frf:Q8 K H (frs outer)
 hok:HOk P w H s.heap
 bare:AllBare s.gens
def CE (outer:List Env)(P:Program)(w:World)(H:Hp)(s:Shared)(Q:VK)(u:Value)(s':Shared):Prop:=
 ∃v H',s'.os=s.os/\AllBare s'.gens/\Un (frs outer) [] H H' s.heap s'.heap/\HOk P w H' s'.heap/\RelV v u/\Q v H'
def CR (CX:CXT)(outer:List Env)(P:Program)(w:World)(H:Hp)(s:Shared)(Q:VK)(E:XK)(r:Result)(s':Shared):Prop:=
 match r with
 | .ok (.ret u)=>CE outer P w H s Q u s'
 | .ok _=>False
 | .error e=>CX outer H s E e s'
structure FnOk (P:Program)(w:World)(K:Fg)(mg:Mg)(base:Heap)(CX:CXT)(k:Nat)(f:Addr)(fd:FuncData)(ps:List Str)(sp:Sp):Prop where
 len:∀vs H Q E,sp vs H Q E->vs.length=ps.length
 run:∀(A:Around) (outer:List Env) (s:Shared) (H:Hp) (args:Args) (us:List Value) (vs:List V) (Q:VK) (E:XK),Room k A->Env0 P w K mg base A outer s H->BindsTo s fd args (ps.zip us)->Vals vs us->sp vs H Q E ->
  codeAny (model P w) A (.call (.ref f) args) (CR CX outer P w H s Q E) s
theorem FnOk.mono {P:Program}{w:World}{K:Fg}{mg:Mg}{base:Heap}{CX:CXT}{j k:Nat}{f:Addr}{fd:FuncData}{ps:Ls}{sp:Sp}(F:FnOk P w K mg base CX j f fd ps sp)(h:j<=k) :
  FnOk P w K mg base CX k f fd ps sp:=⟨F.len,λA outer s H args us vs Q E hr=>F.run A outer s H args us vs Q E (hr.mono h)⟩
theorem FnOk.imp {P:Program}{w:World}{K:Fg}{mg:Mg}{base:Heap}{CX:CXT}{k:Nat}{f:Addr}{fd:FuncData}{ps:Ls}{sp sp':Sp}(F:FnOk P w K mg base CX k f fd ps sp)
  (h:∀vs H Q E,sp' vs H Q E->sp vs H Q E):FnOk P w K mg base CX k f fd ps sp':=
 ⟨λvs H Q E q=>F.len vs H Q E (h _ _ _ _ q),λA outer s H args us vs Q E hr he hb hv hs=>F.run A outer s H args us vs Q E hr he hb hv (h _ _ _ _ hs)⟩
theorem Env0.make {P:Program}{w:World}{K:Fg}{mg:Mg}{base:Heap}{A:Around}{outer:List Env}{s:Shared}{H:Hp}(e:Env0 P w K mg base A outer s H)(C:Addr)(us:Lv)(kw:List (Str×Value)) :
  Env0 P w K mg base (A.under (.builtin "type.__call__" ⟨.ref C::us,kw⟩)) outer s H:=⟨by first|exact e.frames|(simpa [Around.under,Code.envs,Code.isFrame,pushEnvs] using e.frames),e.mod,e.bs,e.bsz,e.funs,e.frf,e.hok,e.bare⟩
section
variable {X:Cx}{pins:List (Addr×Obj)}{σ:St}{H:Hp}{s s':Shared}
theorem Inv.env0 (I:Inv X pins σ H s):Env0 X.prog X.w X.K X.mg X.base X.A X.stack s H:=
 ⟨I.ok.frames,I.ok.mod,I.bs,aG I.ok.bsz I.sz,I.stack,⟨I.stkFree,λx h=>let ⟨ps,e⟩:=I.ok.frf.t x h;let ⟨more,e'⟩:=I.base.tbls x.2.1 _ e;⟨ps++more,e'⟩⟩,I.hok,I.bare⟩
theorem Inv.after (I:Inv X pins σ H s)(h:CE X.stack X.prog X.w H s Q u s'):EP X pins σ Q u s':=by obtain⟨v,H',os,bare,un,hok,r,q⟩:=h;obtain⟨hh,g,d,t,os'⟩:=s';obtain rfl:os'=s.os:=os;exact⟨v,H',I.call (h':=hh) (g':=g) (d':=d) (t':=t) (ch:=[]) un hok bare (λb z=>absurd z (by simp)),r,q⟩
end
def tCall (sp:Sp)(dvs:List V)(E:XK)(t:TA):TE:=λσ H Q=>t σ H λvs H1=>sp (vs++dvs) H1 Q E
def tMeth (C:Addr)(m:Str)(sp:Sp)(dvs:List V)(E:XK)(ta:TE)(t:TA):TE:=λσ H Q=>ta σ H λx H1=>∃a dx fs,x=.ref a/\H1 a=some (.ins C dx fs)/\fs.lookup m=none /\
 t σ H1 λvs H2=>sp (x::(vs++dvs)) H2 Q E
def tMake (C:Addr)(sp:Sp)(dvs:List V)(E:XK)(t:TA):TE:=λσ H Q=>t σ H λvs H1=>∀x dx,H1 x=none->H1 dx=none->dx≠x ->
 sp (.ref x::(vs++dvs)) (upd (upd H1 dx (.own x)) x (.ins C dx [])) (λv H2=>v=.non/\Q (.ref x) H2) E
def Binds (K:Fg)(fd:FuncData)(ps:List Str)(ds:List Value):Prop:=
 ∀(s:Shared) (us:List Value),K.In s.heap->(us++ds).length=ps.length->BindsTo s fd ⟨us,[]⟩ (ps.zip (us++ds))
theorem Binds.all {K:Fg}{fd:FuncData}{ps:Ls}(h:∀us:List Value,us.length=ps.length->bindArgs fd ⟨us,[]⟩=pure (ps.zip us)):Binds K fd ps []:=λs us _ hl=>by rw[aZ]at hl ⊢;exact .of_eq (h us hl)
def Passes (CX:CXT)(X:Cx)(E:XK):Prop:=∀(pins:List (Addr×Obj)) (σ:St) (H:Hp) (s:Shared) (e:Value) (s':Shared),Inv X pins σ H s->CX X.stack H s E e s' -> X.xe e s'
section
variable {X:Cx}{CX:CXT}{k:Nat}{f C:Addr}{fd:FuncData}{ps:List Str}{sp:Sp}{dvs:List V}{ds:List Value}{E:XK}{x m:Str}{p pos apos:Pos}{e o:Expr}{es:List Expr}{ta:TE}{t:TA}
theorem run_fn (F:FnOk X.prog X.w X.K X.mg X.base CX k f fd ps sp)(hr:Room k X.A)(hb:Binds X.K fd ps ds)(hd:Vals dvs ds)(hx:Passes CX X E)
  (I:Inv X pins σ H s) (r:Vals vs us) (h:sp (vs++dvs) H Q E):wpAny (model X.prog X.w) X.A (call (.ref f) us) (EP X pins σ Q) X.xe s:=by
 have r2:Vals (vs++dvs) (us++ds):=r.append hd;have hl:(us++ds).length=ps.length:=by rw[<- r2.length];exact F.len _ _ _ _ h
 refine fx (fh (F.run X.A X.stack s H ⟨us,[]⟩ (us++ds) (vs++dvs) Q E hr I.env0 (hb s us I.kIn hl) r2 h) λr s' hq=>?_);cases r with
 |error e=>exact hx pins σ H s e s' I hq
 |ok fl=>
  cases fl with
  |ret u=>exact I.after hq
  |next=>exact False.elim hq
  |brk=>exact False.elim hq
  |cont=>exact False.elim hq
theorem pe_call (F:FnOk X.prog X.w X.K X.mg X.base CX k f fd ps sp)(hr:Room k X.A)(hg:Gl X x)(hm:X.mg x=some (.ref f))(hk:W.keepIn X.K (.ref f)=true)(hb:Binds X.K fd ps ds)(hd:Vals dvs ds)(hx:Passes CX X E)
  (ha:PA X (e::es) t) (hdb:(x == ("__debug__":Str))=false:=by decide) (he:starEach (e::es) X.env=(false,eval e X.env)::starEach es X.env:=by rfl) (hpl:(backTo pos (starEach es X.env)).any (·.1)=false:=by rfl) :
  PE X (.Call (.Name x p) (e::es) [] pos) (tCall sp dvs E t):=by
 intro pins s σ H Q I h;refine cF (ld_glob I hg hm ?_ hdb);refine de (h₀:=X.base) I.ok.mod.kin hk (thn (ha pos pins s σ H _ I h) λus s1 ⟨vs,H1,I1,r,q⟩=>⟨I1.kIn,?_⟩) he hpl;exact run_fn F hr hb hd hx I1 r q
theorem pe_meth (he:PE X o ta)(c:Cls X.K C)(hm:Meth X.K C m f)(F:FnOk X.prog X.w X.K X.mg X.base CX k f fd ps sp)(hr:Room k X.A)(hb:Binds X.K fd ps ds)(hd:Vals dvs ds)(hx:Passes CX X E)(ha:PA X (e::es) t)
  (hst:starEach (e::es) X.env=(false,eval e X.env)::starEach es X.env:=by rfl) (hpl:(backTo pos (starEach es X.env)).any (·.1)=false:=by rfl)
  (ht:eval (.Call (.Attribute o m apos) (e::es) [] pos) X.env=(do
   let ov <- eval o X.env
   standAt apos.atName
   let (f,first) <- holding [ov] (getMethod ov m pl)
   callWith pos f first (backTo pos (starEach (e::es) X.env)) (backToKw pos (keywordEach [] X.env))):=by rfl) :
  PE X (.Call (.Attribute o m apos) (e::es) [] pos) (tMeth C m sp dvs E ta t):=by
 intro pins s σ H Q I h;refine fi (pl:=pl) (thn (he pins s σ H _ I h) λu s1 ⟨x,H1,I1,rx,a,dx,fs,ex,ea,l,q⟩=>?_) ht;subst ex;obtain rfl:u=Value.ref a:=rx;refine getmeth_ok I1 ea c hm l ?_;refine de (first:=[.ref a]) (h₀:=X.base) I.ok.mod.kin hm.kp (thn (ha pos pins s1 σ H1 _ I1 q) λus s2 ⟨vs,H2,I2,r,q2⟩=>⟨I2.kIn,?_⟩) hst hpl
 exact run_fn (us:=.ref a::us) (vs:=.ref a::vs) F hr hb hd hx I2 (.cons rfl r) q2
structure Mk (K:Fg)(C f:Addr):Prop where
 makes:W.makesIn K C=true
 init:W.findIn K (.ref C) "__init__"=some (some (.ref f))
 fn:W.isFn K (.ref f)=true
 kp:W.keepIn K (.ref C)=true
theorem run_make (M:Mk X.K C f)(F:FnOk X.prog X.w X.K X.mg X.base CX k f fd ps sp)(hr:Room (k+1) X.A)(hb:Binds X.K fd ps ds)(hd:Vals dvs ds)
  (hx:Passes CX X E) (I:Inv X pins σ H s) (r:Vals vs us)
  (h:∀x dx,H x=none->H dx=none->dx≠x->sp (.ref x::(vs++dvs)) (upd (upd H dx (.own x)) x (.ins C dx [])) (λv H2=>v=.non/\Q (.ref x) H2) E) :
  wpAny (model X.prog X.w) X.A (call (.ref C) us) (EP X pins σ Q) X.xe s:=by
 have hq:=h (s.heap.objs.size+1) s.heap.objs.size (I.hok.fresh (fJ _)) (I.hok.fresh (aj _)) (aO (cy _));have I2:=Inv.made (C:=C) I;have r2:Vals (V.ref (s.heap.objs.size+1)::(vs++dvs)) (Value.ref (s.heap.objs.size+1)::(us++ds)):=.cons rfl (r.append hd);have hl:(Value.ref (s.heap.objs.size+1)::us++ds).length=ps.length:=by have e:=r2.length;rw[F.len _ _ _ _ hq]at e;exact e.symm
 refine fx (make_map (f:=f) I.kIn M.makes M.init (beq_iff_eq.mp M.fn) (fh (F.run _ X.stack _ _ ⟨Value.ref (s.heap.objs.size+1)::us,[]⟩ (Value.ref (s.heap.objs.size+1)::(us++ds)) _ _ E (hr.make C us [])
  (I2.env0.make C us []) (hb _ (Value.ref (s.heap.objs.size+1)::us) I2.kIn hl) r2 hq) λr s' hq'=>?_))
 cases r with
 |error e=>exact hx pins σ _ _ e s' I2 hq'
 |ok fl=>
  cases fl with
  |ret u=>obtain⟨v,H',I3,rv,ev,q3⟩:=I2.after hq';subst ev;exact⟨rv,⟨V.ref (s.heap.objs.size+1),H',I3,rfl,q3⟩⟩
  |next=>exact False.elim hq'
  |brk=>exact False.elim hq'
  |cont=>exact False.elim hq'
theorem pe_make (M:Mk X.K C f)(F:FnOk X.prog X.w X.K X.mg X.base CX k f fd ps sp)(hr:Room (k+1) X.A)(hg:Gl X x)(hm:X.mg x=some (.ref C))(hb:Binds X.K fd ps ds)(hd:Vals dvs ds)(hx:Passes CX X E)
  (ha:PA X (e::es) t) (hdb:(x == ("__debug__":Str))=false:=by decide) (he:starEach (e::es) X.env=(false,eval e X.env)::starEach es X.env:=by rfl) (hpl:(backTo pos (starEach es X.env)).any (·.1)=false:=by rfl) :
  PE X (.Call (.Name x p) (e::es) [] pos) (tMake C sp dvs E t):=by
 intro pins s σ H Q I h;refine cF (ld_glob I hg hm ?_ hdb);refine de (h₀:=X.base) I.ok.mod.kin M.kp (thn (ha pos pins s σ H _ I h) λus s1 ⟨vs,H1,I1,r,q⟩=>⟨I1.kIn,?_⟩) he hpl;exact run_make M F hr hb hd hx I1 r q
end
structure FnScope (N P:List Str)(sc:Scope):Prop where
 kind:sc.kind=.function
 co:sc.isCoroutine=false
 gen:sc.isGenerator=false
 nd:N.Nodup
 pre:N.take P.length=P
 par:∀x∈P,sc.names.lookup x=some .local\/sc.names.lookup x=some .cell
 nofree:∀y∈sc.names,y.2 ≠ .free
theorem bindL_out {kindOf:Str->Option NameKind}:∀{binds:List (Str×Value)} {m:Mg},(∀v,(x,v)∉binds)->bindL kindOf binds m x=m x
 |[],_,_=>rfl
 |(n,v)::r,m,h=>by
  unfold bindL;rw[bindL_out λw hw=>h w (ac _ hw)];split
  ·have:x≠n:=by rintro rfl;exact h v ag
   simp[this]
  ·rfl
theorem bindC_out {kindOf:Str->Option NameKind}:∀{binds:List (Str×Value)} {m:Mg},(∀v,(x,v)∉binds)->bindC kindOf binds m x=m x
 |[],_,_=>rfl
 |(n,v)::r,m,h=>by
  unfold bindC;rw[bindC_out λw hw=>h w (ac _ hw)];split
  ·rfl
  ·have:x≠n:=by rintro rfl;exact h v ag
   simp[this]
theorem bindL_get {kindOf:Str->Option NameKind}:∀{P:Ls} {vs:Lv} {i:Nat} {m:Mg},P.Nodup->P[i]?=some x->vs[i]?=some v->kindOf x=some .local ->
  bindL kindOf (P.zip vs) m x=some v
 |[],_,_,_,_,h,_,_=>by simp at h
 |_::_,[],_,_,_,_,h,_=>by simp at h
 |p::P,w::vs,0,m,nd,h1,h2,hk=>by simp at h1 h2;subst h1;subst h2;show bindL kindOf ((p,w)::P.zip vs) m p=_;unfold bindL;rw[bindL_out λv hv=>(bE.mp nd).1 (fj hv).1,ae hk];simp
 |p::P,w::vs,i+1,m,nd,h1,h2,hk=>by show bindL kindOf ((p,w)::P.zip vs) m x=_;unfold bindL;exact bindL_get (i:=i) (bE.mp nd).2 (by simpa using h1) (by simpa using h2) hk
theorem bindC_get {kindOf:Str->Option NameKind}:∀{P:Ls} {vs:Lv} {i:Nat} {m:Mg},P.Nodup->P[i]?=some x->vs[i]?=some v->kindOf x≠some .local ->
  bindC kindOf (P.zip vs) m x=some v
 |[],_,_,_,_,h,_,_=>by simp at h
 |_::_,[],_,_,_,_,h,_=>by simp at h
 |p::P,w::vs,0,m,nd,h1,h2,hk=>by simp at h1 h2;subst h1;subst h2;show bindC kindOf ((p,w)::P.zip vs) m p=_;unfold bindC;rw[bindC_out λv hv=>(bE.mp nd).1 (fj hv).1,af hk];simp
 |p::P,w::vs,i+1,m,nd,h1,h2,hk=>by show bindC kindOf ((p,w)::P.zip vs) m x=_;unfold bindC;exact bindC_get (i:=i) (bE.mp nd).2 (by simpa using h1) (by simpa using h2) hk
def start (N:List Str)(vs:List V):St:=vs.map some++List.replicate (N.length-vs.length) none
def cxOf (CX:CXT)(P:Program)(w:World)(K:Fg)(mg:Mg)(base:Heap)(N:List Str)(qual:Str)(scope:Scope)(f:Addr)(cd:Value)(A:Around)(outer:List Env)(s:Shared)(H:Hp)(E:XK):Cx where
 prog:=P
 w:=w
 K:=K
 mg:=mg
 base:=base
 A:=A.deeper (envOfC qual scope s.heap.objs.size f cd)
 N:=N
 s₀:=s
 H₀:=H
 env:=envOfC qual scope s.heap.objs.size f cd
 outer:=outer
 stack:=envOfC qual scope s.heap.objs.size f cd::outer
 ex:=[]
 calm:=true
 fn:=λ_=>true
 pn:=[]
 xe:=λe s'=>wpAny (model P w) (A.deeper (envOfC qual scope s.heap.objs.size f cd)) (leaving (envOfC qual scope s.heap.objs.size f cd) e) (λ_ s''=>CX outer H s E e s'') (λe' s''=>CX outer H s E e' s'') s'
theorem cell_has {sc:Scope}{n:Nat}{x:Str}(h:sc.names.lookup x=some .cell):∃c,(cellsFrom n sc.names []).lookup x=some c:=by have q:=eW sc.names n [] (.inl h);exact bQ.mp q
theorem inv_start {CX:CXT}{P:Program}{w:World}{K:Fg}{mg:Mg}{base:Heap}{N ps:Ls}{qual:Str}{scope:Scope}{f:Addr}{cd:Value}{A:Around}{outer:List Env}{s s1:Shared}{H:Hp}{E:XK}{us:Lv}{vs:List V}
  (S:FnScope N ps scope) (hd:A.handled=none) (e0:Env0 P w K mg base A outer s H) (hl:vs.length=ps.length) (r:Vals vs us)
  (x:InCallC s s.heap.objs.size (bindL (envOfC qual scope s.heap.objs.size f cd).kindOf (ps.zip us) λ_=>none) (cellsFrom (s.heap.objs.size+1) scope.names []) (bindC (envOfC qual scope s.heap.objs.size f cd).kindOf (ps.zip us) λ_=>none) s1) :
  Inv (cxOf CX P w K mg base N qual scope f cd A outer s H E) [] (start N vs) H s1:=by
 have hpl:ps.length<=N.length:=by have:=congrArg List.length S.pre;rw[bS]at this;lia
 obtain⟨h1,tk,rfl,hk⟩:=x.done;have noA:∀b:Addr,b∉(cxOf CX P w K mg base N qual scope f cd A outer s H E).ex:=λb z=>absurd (show b∈([]:List Addr) from z) (by simp);refine⟨⟨e0.mod,S.kind,rfl,rfl,aj _,λy z c h1 h2=>?_,λy hy=>?_,λy c _ h=>?_,λ_=>hd,Around.frames_deeper e0.frames,.inr ⟨rfl,rfl⟩,λb z=>absurd z (noA b),e0.bs,e0.bsz,λb _ _=>noA b,λb z=>absurd z (noA b),e0.funs,e0.frf⟩,
  rfl,e0.bare,Un.kept hk,⟨_,x.toInCall.ns,λi y v h1 h2 h3=>?_⟩,λy c h=>⟨_,x.cell y c h⟩,e0.hok.fresh (aj _),λy c h=>?_,λp hp=>absurd (show p∈([]:List (Addr×Obj)) from hp) (by simp),e0.hok.kept hk,?_⟩
 ·exact name_of_addr x.apart (bZ h1) (bZ h2)
 ·have hy:scope.names.lookup y=some .cell\/scope.names.lookup y=some .free:=hy;rcases hy with hy|hy
  ·exact cell_has hy
  ·exact absurd rfl (S.nofree _ (bZ hy))
 ·exact bM (x.above y c (bZ h))
 ·have hi:i<vs.length:=by
   unfold start at h2;by_cases hi:i<vs.length
   ·exact hi
   ·rw[aX (by simpa using hi)]at h2;rw[bf]at h2;split at h2<;>cases h2
  have ha:vs[i]?=some v:=by
   unfold start at h2;rw[aS (by simpa using hi),au]at h2;cases e:vs[i]? with
   |none=>rw[e]at h2;cases h2
   |some a=>rw[e]at h2;cases h2;rfl
  obtain⟨u,hu,rv⟩:=r.get ha;have hp:ps[i]?=some y:=by rw[<- S.pre,List.getElem?_take_of_lt (by lia)];exact h1
  have ndP:ps.Nodup:=by rw[<- S.pre];exact S.nd.sublist (List.take_sublist _ _)
  refine⟨u,rv,?_⟩;rcases S.par y (bK hp) with k|k
  ·exact .inl ⟨k,bindL_get ndP hp hu k⟩
  ·obtain⟨c,e⟩:=cell_has (n:=s.heap.objs.size+1) k;refine .inr ⟨.inl k,c,e,?_⟩;have q:=x.cell y c e;rw[bindC_get ndP hp hu (by show scope.names.lookup y≠_;rw[k];decide)]at q;exact q
 ·exact e0.hok.fresh (bM (x.above y c (bZ h)))
 ·unfold start;show _=N.length;rw[aN,aa,bA];lia
theorem fn_of {CX:CXT}{P:Program}{w:World}{K:Fg}{mg:Mg}{base:Heap}{k:Nat}{f:Addr}{name qual:Str}{params:Arguments}{body:List Stmt}{scope:Scope}{dV kV doc pm cdv ct oc:Value}{an od:Option Addr}
  {osl:Array (Option Value)} {N ps:List Str} {sp:Sp} (lk:K.lookup f=some ⟨oc,od,.func (W.fnOf name qual params body scope dV kV doc pm an cdv ct),osl⟩) (hcd:W.codeIn K cdv qual=true) (S:FnScope N ps scope)
  (len:∀vs H Q E,sp vs H Q E->vs.length=ps.length)
  (hbody:∀(A:Around) (outer:List Env) (s:Shared) (H:Hp) (vs:List V) (Q:VK) (E:XK),Room k (A.deeper (envOfC qual scope s.heap.objs.size f cdv))->sp vs H Q E ->
   ∃t,PSs (cxOf CX P w K mg base N qual scope f cdv A outer s H E) body t/\t { nx:=λ_ H'=>Q .non H',rt:=Q } (start N vs) H) :
  FnOk P w K mg base CX (k+1) f (W.fnOf name qual params body scope dV kV doc pm an cdv ct) ps sp:=by
 refine⟨len,λA outer s H args us vs Q E hr e0 hb r hsp=>?_⟩;have hl:=len _ _ _ _ hsp;have KX:K.In s.heap:=e0.mod.kin.keeps λb o e=>(e0.bs b o e).1;have lim:s.heap.NoLimit:=e0.mod.nolimit.keeps λb o e=>(e0.bs b o e).1;have hkind:∀y∈ps.zip us,scope.names.lookup y.1=some .local\/(scope.names.lookup y.1=some .cell/\((cellsFrom (s.heap.objs.size+1) scope.names []).lookup y.1).isSome=true):=λ⟨n,v⟩ hy=>by
  rcases S.par n (fj hy).1 with q|q
  ·exact .inl q
  ·exact .inr ⟨q,eW _ _ _ (.inl q)⟩
 refine codeAny_call_function hr.depth (KX _ _ lk) rfl S.co S.gen rfl (W.codeRec_of KX hcd) (hb _ _ _ _ ?_);refine wpAny_newFunctionEnv_cells S.kind hkind λenv he s1 x=>?_;subst he;refine⟨lim.keeps x.toInCall.keep,codeAny_func ?_⟩;obtain⟨t,ht,hq⟩:=hbody A outer s H vs Q E (hr.deeper _) hsp;have I:Inv (cxOf CX P w K mg base N qual scope f cdv A outer s H E) [] (start N vs) H s1:=inv_start S hr.hd e0 hl r x;refine dq (ht [] s1 (start N vs) H _ I hq) (λfl s' hs=>?_) λe s' hs=>hs;have fin:∀{σ':St} {H':Hp} {v:V} {u:Value},Inv (cxOf CX P w K mg base N qual scope f cdv A outer s H E) [] σ' H' s' -> RelV v u->Q v H' -> CE outer P w H s Q u s':=
  λ{σ' H' v u} J rv q=>⟨v,H',J.os,J.bare,J.base,J.hok,rv,q⟩
 cases fl with
 |ret u=>obtain⟨v,σ',H',J,rv,q⟩:=hs;exact fin J rv q
 |next=>obtain⟨σ',H',J,q⟩:=hs;exact fin (v:=V.non) (u:=Value.none) J rfl q
 |brk=>obtain⟨_,_,_,q⟩:=hs;exact False.elim q
 |cont=>obtain⟨_,_,_,q⟩:=hs;exact False.elim q
section
variable {X:Cx}{x:Str}{p pos:Pos}{e:Expr}{es:List Expr}{t:TA}{id T:String}{r:List V->Hp->VK->Prop}
def tCB (r:List V->Hp->VK->Prop)(t:TA):TE:=λσ H Q=>t σ H λvs H1=>r vs H1 Q
theorem pe_callB (hc:CallR X (.builtin id) r)(hg:Gl X x)(hm:X.mg x=none)(hv:bootBuiltins x=some (.builtin id))(ha:PA X (e::es) t)(hn:x≠"__name__":=by decide)(hdb:(x == ("__debug__":Str))=false:=by decide)
  (he:starEach (e::es) X.env=(false,eval e X.env)::starEach es X.env:=by rfl) (hpl:(backTo pos (starEach es X.env)).any (·.1)=false:=by rfl):PE X (.Call (.Name x p) (e::es) [] pos) (tCB r t):=by
 intro pins s σ H Q I h;refine cF (ld_blt I hg hm hv ?_ hn hdb);exact PyProof.Rows.callWith_builtin1 (thn (ha pos pins s σ H _ I h) λus s1 ⟨vs,H1,I1,r1,q1⟩=>hc pins s1 σ H1 vs us Q I1 r1 q1) he hpl
theorem pe_callTy (hc:CallR X (.type T) r)(hg:Gl X x)(hm:X.mg x=none)(hv:bootBuiltins x=some (.type T))(ha:PA X (e::es) t)(hn:x≠"__name__":=by decide)(hdb:(x == ("__debug__":Str))=false:=by decide)
  (he:starEach (e::es) X.env=(false,eval e X.env)::starEach es X.env:=by rfl) (hpl:(backTo pos (starEach es X.env)).any (·.1)=false:=by rfl):PE X (.Call (.Name x p) (e::es) [] pos) (tCB r t):=by
 intro pins s σ H Q I h;refine cF (ld_blt I hg hm hv ?_ hn hdb);exact bY (thn (ha pos pins s σ H _ I h) λus s1 ⟨vs,H1,I1,r1,q1⟩=>hc pins s1 σ H1 vs us Q I1 r1 q1) he hpl
end
end L2
namespace HT
open PySem PyProof.Rows
section
variable {prog:Program}{w:World}{A:Around}{E:Value->Shared->Prop}{s:Shared}
def sIx (n d:Nat):Option Int->Nat
 |none=>d
 |some v=>if v<0 then(v+(n:Int)).toNat else min v.toNat n
theorem sIx_none (n d:Nat):sIx n d none=d:=rfl
theorem sIx_nat (n d k:Nat):sIx n d (some (k:Int))=min k n:=by show(if (k:Int)<0 then((k:Int)+(n:Int)).toNat else min (k:Int).toNat n)=min k n;rw[af (by lia),cS]
end
end HT
namespace L2
open PySem PySem.Spec PyProof.Rows
abbrev TO:=St->Hp->(Option Int->Hp->Prop)->Prop
def PO (X:Cx)(e:Option Expr)(t:TO):Prop:=
 ∀(pins:List (Addr×Obj)) (s:Shared) (σ:St) (H:Hp) (Q:Option Int->Hp->Prop),Inv X pins σ H s->t σ H Q ->
  wpAny (model X.prog X.w) X.A (evalPart e X.env) (λu s'=>∃o H',Inv X pins σ H' s'/\IsPart u o/\Q o H') X.xe s
def tNoPart:TO:=λ_ H Q=>Q none H
def tPart (t:TE):TO:=λσ H Q=>t σ H λx H1=>∃i,x=.int i/\Q (some i) H1
section
variable {X:Cx}{e:Expr}{te:TE}{lo hi:Option Expr}{tl th:TO}{pos p2:Pos}
theorem po_none:PO X none tNoPart:=by intro pins s σ H Q I h;rw[evalPart_none];exact aV ⟨none,H,I,.none,h⟩
theorem po_some (h:PE X e te):PO X (some e) (tPart te):=by intro pins s σ H Q I hw;rw[evalPart_some];refine thn (h pins s σ H _ I hw) λu s1 ⟨x,H1,I1,r1,q1⟩=>?_;obtain⟨i,rfl,q⟩:=q1;obtain⟨t,rfl⟩:=r1;exact⟨some i,H1,I1,.int i t,q⟩
def SlR (X:Cx)(r:V->Option Int->Option Int->Hp->VK->Prop):Prop:=
 ∀(pins:List (Addr×Obj)) (s:Shared) (σ:St) (H:Hp) (x:V) (v vl vu:Value) (lo hi:Option Int) (sl:Addr) (Q:VK),Inv X pins σ H s->RelV x v->s.heap.IsSliceOf sl vl vu .none->IsPart vl lo->IsPart vu hi->r x lo hi H Q ->
  ∃T id,typeLookup (.type T) "__getitem__"=pure (some (.builtin id))/\s.TypeIs v T/\wpAny (model X.prog X.w) X.A (getItem v (.ref sl)) (EP X pins σ Q) X.xe s
def tSl (r:V->Option Int->Option Int->Hp->VK->Prop)(te:TE)(tl th:TO):TE:=λσ H Q=>te σ H λx H1=>tl σ H1 λl H2=>th σ H2 λu H3=>r x l u H3 Q
theorem pe_slice (hr:SlR X r)(he:PE X e te)(hl:PO X lo tl)(hu:PO X hi th):PE X (.Subscript e (.Slice lo hi none p2) pos) (tSl r te tl th):=by intro pins s σ H Q I h;refine Subscript_ (thn (he pins s σ H _ I h) λv s1 ⟨x,H1,I1,r1,q1⟩=>?_);refine wpAny_Slice (thn (hl pins s1 σ H1 _ I1 q1) λvl s2 ⟨l,H2,I2,pl,q2⟩=>thn (hu pins s2 σ H2 _ I2 q2) λvu s3 ⟨u,H3,I3,pu,q3⟩=>?_);rw[evalPart_none];refine aV ?_;have I4:Inv X pins σ H3 { s3 with heap:=s3.heap.push { cls:=.type "slice",data:=.fields #[vl,vu,.none] } }:=I3.kept (t':=s3.toks) λb ob q=>ah _ q;obtain⟨T,id,hT,ht,hg⟩:=hr pins { s3 with heap:=s3.heap.push { cls:=.type "slice",data:=.fields #[vl,vu,.none] } } σ H3 x v vl vu l u s3.heap.objs.size Q I4 r1 (Heap.IsSliceOf.new ..) pl pu q3;show wpAny (model X.prog X.w) X.A (subscriptTail e (.Slice lo hi none p2) v (.ref s3.heap.objs.size)) (EP X pins σ Q) X.xe { s3 with heap:=s3.heap.push { cls:=.type "slice",data:=.fields #[vl,vu,.none] } };exact tail_any (ops:=[.ref s3.heap.objs.size,v]) ht hT hg (by with_unfolding_all rfl)
def cutV (xs:List V)(lo hi:Option Int):List V:=(xs.drop (HT.sIx xs.length 0 lo)).take (HT.sIx xs.length xs.length hi-HT.sIx xs.length 0 lo)
theorem cutV_length (xs:List V)(lo hi:Option Int):(cutV xs lo hi).length<=xs.length:=by unfold cutV;rw[bS,dE];lia
end
def ixN (n:Nat)(i:Int):Option Nat:=if 0<=i then(if i<n then some i.toNat else none) else if -(n:Int)<=i then some (i+n).toNat else none
def atI {α:Type}(xs:List α)(i:Int):Option α:=(ixN xs.length i).bind λj=>xs[j]?
theorem ixN_seq (h:ixN n i=some j):seqIndex? i n=some j/\j<n /\ -(n:Int)<=i/\i<n:=by
 unfold ixN at h;by_cases h0:0<=i
 ·rw[ae h0]at h;by_cases h1:i<n
  ·rw[ae h1]at h;have e:i.toNat=j:=aw h;exact⟨by rw[seqIndex_of h0 h1,e],by lia,by lia,h1⟩
  ·rw[af h1]at h;cases h
 ·rw[af h0]at h;by_cases h1:-(n:Int)<=i
  ·rw[ae h1]at h;have e:(i+n).toNat=j:=aw h;exact⟨by rw[seqIndex_neg (by lia) h1,e],by lia,h1,by lia⟩
  ·rw[af h1]at h;cases h
theorem atI_get {α:Type}{xs:List α}{i:Int}{v:α}(h:atI xs i=some v):∃j,seqIndex? i xs.length=some j/\xs[j]?=some v/\j<xs.length /\ -(xs.length:Int)<=i/\i<xs.length:=by
 unfold atI at h;cases e:ixN xs.length i with
 |none=>rw[e]at h;cases h
 |some j=>rw[e]at h;obtain⟨h1,h2,h3,h4⟩:=ixN_seq e;exact⟨j,h1,h,h2,h3,h4⟩
theorem atI_nat {α:Type}{xs:List α}{j:Nat}{v:α}(h:xs[j]?=some v):atI xs (j:Int)=some v:=by
 have hj:j<xs.length:=(aD.mp h).1;have e:ixN xs.length (j:Int)=some j:=by unfold ixN;rw[ae (by lia),ae (by lia)];simp
 unfold atI;rw[e];exact h
def PlainIx (b:Expr):Prop:=∀o i,subscripted b false o i=operate [o,i] (getItem o i)
def IxR (X:Cx)(r:R2):Prop:=
 ∀(value slice:Expr) (pins:List (Addr×Obj)) (s:Shared) (σ:St) (H:Hp) (x y:V) (v u:Value) (Q:VK),Inv X pins σ H s->RelV x v->RelV y u->r x y H Q ->
  subscripted slice false v u=operate [v,u] (getItem v u)->wpAny (model X.prog X.w) X.A (subscriptTail value slice v u) (EP X pins σ Q) X.xe s
def MtR (X:Cx)(id:String)(r:V->List V->Hp->VK->Prop):Prop:=
 ∀(pins:List (Addr×Obj)) (s:Shared) (σ:St) (H:Hp) (x:V) (xs:List V) (v:Value) (us:List Value) (Q:VK),Inv X pins σ H s->RelV x v->Vals xs us->r x xs H Q ->
  wpAny (model X.prog X.w) X.A (call (.builtin id) (v::us)) (EP X pins σ Q) X.xe s
section
variable {X:Cx}{a b:Expr}{ta tb:TE}{pos:Pos}
theorem IxR.or (h:IxR X r)(h':IxR X r'):IxR X (λx y H Q=>r x y H Q\/r' x y H Q):=by
 intro value slice pins s σ H x y v u Q I rx ry q hs;rcases q with q|q
 ·exact h value slice pins s σ H x y v u Q I rx ry q hs
 ·exact h' value slice pins s σ H x y v u Q I rx ry q hs
theorem pe_ix (hr:IxR X r)(ha:PE X a ta)(hb:PE X b tb)(hs:PlainIx b):PE X (.Subscript a b pos) (tOp r ta tb):=by intro pins s σ H Q I h;exact Subscript_ (binT ha hb I h λv u s2 x y H2 I2 rx ry q=>hr a b pins s2 σ H2 x y v u Q I2 rx ry q (hs _ _))
def rIxL (K:Fg):R2:=λx y H Q=>∃p xs i v,x=.ref p/\y=.int i/\SqL K H p xs/\atI xs i=some v/\Q v H
def rIxT (K:Fg):R2:=λx y H Q=>∃p xs i v,x=.ref p/\y=.int i/\SqT K H p xs/\atI xs i=some v/\Q v H
def rIxS:R2:=λx y H Q=>∃z i c,x=.str z/\y=.int i/\z.length<=sizeLine/\atI z.cps.toList i=some c/\Q (.str ⟨#[c]⟩) H
theorem ix_list:IxR X (rIxL X.K):=by
 intro value slice pins s σ H x y v u Q I rx ry h hs;obtain⟨p,xs,i,z,rfl,rfl,hq,he,q⟩:=h;cases rx;obtain⟨t,rfl⟩:=ry;obtain⟨its,r,pl,hz⟩:=I.list hq;obtain⟨j,h1,h2,h3,h4,h5⟩:=atI_get he;obtain⟨w,ew,rw'⟩:=r.get h2;have hl:=r.length;have hn:=line63;have fin:EP X pins σ Q w s:=⟨z,H,I,rw',q⟩;by_cases h0:0<=i
 ·have hj:i.toNat=j:=by rw[seqIndex_of h0 h5]at h1;exact aw h1
  exact item_listR pl.isList h0 (by lia) (by rw[hj];simpa using ew) fin hs
 ·have hj:(i+(its.toArray.size:Int)).toNat=j:=by rw[seqIndex_neg (by lia) h4]at h1;rw[ao,<- hl];exact aw h1
  exact dm (x:=w) pl.isList.typeIs slot_list_getitem.lookup
   (wpAny_getItem_list_neg (Q:=λr s'=>r=w/\EP X pins σ Q r s') pl.isList (by lia) (by rw[ao]<;>lia) (by lia) (by rw[hj];simpa using ew) ⟨rfl,fin⟩) hs
theorem ix_tup:IxR X (rIxT X.K):=by
 intro value slice pins s σ H x y v u Q I rx ry h hs;obtain⟨p,xs,i,z,rfl,rfl,hq,he,q⟩:=h;cases rx;obtain⟨t,rfl⟩:=ry;obtain⟨its,r,pl,hz⟩:=I.tuple hq;obtain⟨j,h1,h2,h3,h4,h5⟩:=atI_get he;obtain⟨w,ew,rw'⟩:=r.get h2;have hl:=r.length;have hn:=line63;have fin:EP X pins σ Q w s:=⟨z,H,I,rw',q⟩;exact dm (x:=w) pl.typeIs slot_tuple_getitem.lookup
  (getItem_tuple (j:=j) (Q:=λr s'=>r=w/\EP X pins σ Q r s') pl (by lia) (by lia) (by rw[ao,<- hl];exact h1) (by simpa using ew) ⟨rfl,fin⟩) hs
theorem ix_str:IxR X rIxS:=by
 intro value slice pins s σ H x y v u Q I rx ry h hs;obtain⟨z,i,c,rfl,rfl,hz,he,q⟩:=h;obtain⟨t,rfl⟩:=rx;obtain⟨t',rfl⟩:=ry;obtain⟨j,h1,h2,h3,h4,h5⟩:=atI_get he;have hl:z.cps.toList.length=z.length:=by simp[Str.length]
 rw[hl]at h1 h4 h5;have hn:=line63;exact tail_any (typeIs_str s z t) slot_str_getitem.lookup (getItem_str (c:=c) (by
  have e1:decide (i < -(2^63:Int))=false:=aH (by lia);have e2:decide (i ≥ 2^63)=false:=aH (by lia);rw[e1,e2,Bool.or_false]) (by rw[h1];simpa using h2) ⟨.str ⟨#[c]⟩,H,I.tok _,⟨_,rfl⟩,q⟩) hs
def rIx (K:Fg):R2:=λx y H Q=>rIxL K x y H Q\/rIxT K x y H Q\/rIxS x y H Q
theorem ix_seq:IxR X (rIx X.K):=ix_list.or (ix_tup.or ix_str)
theorem mapSeq_set (its:Lv)(n j:Nat)(u:Value):Obj.mapSeq (·.setIfInBounds j u) { cls:=.type "list",data:=.seq its.toArray n }={ cls:=.type "list",data:=.seq (its.set j u).toArray n }:=by simp[Obj.mapSeq]
theorem Inv.lst (I:Inv X pins σ H s)(h:H p=some (.lst xs)) :
  ∃(its:List Value) (n:Nat),Vals xs its/\s.heap.get? p=some { cls:=.type "list",data:=.seq its.toArray n }/\xs.length<=sizeLine:=by
 obtain⟨z,its,n,r,e⟩:=I.hok p _ h;exact⟨its,n,r,e,z⟩
theorem Inv.lstUpd {pins:List (Addr×Obj)}{σ:St}{H:Hp}{s:Shared}{p:Addr}{xs ys:List V}{its its':Lv}{n n':Nat}{f:Obj->Obj}(I:Inv X pins σ H s)(h:H p=some (.lst xs))
  (ho:s.heap.get? p=some { cls:=.type "list",data:=.seq its.toArray n }) (hf:f { cls:=.type "list",data:=.seq its.toArray n }={ cls:=.type "list",data:=.seq its'.toArray n' }) (r:Vals ys its') (hz:ys.length<=sizeLine) (t:Nat) :
  Inv X pins σ (upd H p (.lst ys)) { s with heap:=s.heap.update p f,toks:=t }:=by
 have e:(s.heap.update p f).get? p=some { cls:=.type "list",data:=.seq its'.toArray n' }:=by rw[cf f ho (by rw[hf]<;>rfl),hf]
 refine I.write (x:=p) (e:=p) (by rw[h];trivial) (.inl rfl) (λb u hb q=>(aU _ _ (bP hb)).trans q) ⟨_,e⟩ ?_;exact⟨hz,its',n',r,e⟩
def rSetL:V->V->V->Hp->(Hp->Prop)->Prop:=λo i v H Q=>∃p xs k j,o=.ref p/\i=.int k/\H p=some (.lst xs)/\ixN xs.length k=some j/\Q (upd H p (.lst (xs.set j v)))
theorem set_list:PSet X rSetL:=by
 intro pins s σ H o i v ov iv u Q I ro ri rv h;obtain⟨p,xs,k,j,rfl,rfl,hp,hj,q⟩:=h;cases ro;obtain⟨t,rfl⟩:=ri;obtain⟨its,n,r,ho,hz⟩:=I.lst hp;obtain⟨h1,h2,h3,h4⟩:=ixN_seq hj;have hl:=r.length;have hn:=line63;have I':Inv X pins σ (upd H p (.lst (xs.set j v))) { s with heap:=s.heap.update p (Obj.mapSeq (·.setIfInBounds j u)) } :=
  I.lstUpd hp ho (mapSeq_set its n j u) (r.set rv j) (by rw[aT];exact hz) s.toks
 by_cases h0:0<=k
 ·have hk:k.toNat=j:=by rw[seqIndex_of h0 h4]at h1;exact aw h1
  exact W.ki_setAt ho h0 (by lia) (by rw[ao,<- hl];exact h4) (by rw[hk];exact⟨_,I',q⟩)
 ·have hk:(k+(its.toArray.size:Int)).toNat=j:=by rw[seqIndex_neg (by lia) h3]at h1;rw[ao,<- hl];exact aw h1
  exact W.ki_setBack ho (by lia) (by rw[ao,<- hl];exact h3) (by lia) (by rw[hk];exact⟨_,I',q⟩)
theorem slice_bounds (lo hi:Option Int)(n:Nat):(sliceBounds lo hi none n).1=((HT.sIx n 0 lo:Nat):Int)/\(sliceBounds lo hi none n).2.1=((HT.sIx n n hi:Nat):Int)/\(sliceBounds lo hi none n).2.2=1:=by
 refine⟨?_,?_,rfl⟩
 ·cases lo with
  |none=>simp[sliceBounds,HT.sIx]
  |some i=>
   simp only[sliceBounds,HT.sIx,Option.getD_none,show(1:Int) > 0 by decide,if_true];by_cases h:i<0
   ·simp only[h,if_true]<;>lia
   ·simp only[h,if_false]<;>lia
 ·cases hi with
  |none=>simp[sliceBounds,HT.sIx]
  |some i=>
   simp only[sliceBounds,HT.sIx,Option.getD_none,show(1:Int) > 0 by decide,if_true];by_cases h:i<0
   ·simp only[h,if_true]<;>lia
   ·simp only[h,if_false]<;>lia
theorem slicePick_cut (its:Lv)(lo hi:Option Int):slicePick its.toArray lo hi none=((its.drop (HT.sIx its.length 0 lo)).take (HT.sIx its.length its.length hi-HT.sIx its.length 0 lo)).toArray:=by obtain⟨h1,h2,h3⟩:=slice_bounds lo hi its.toArray.size;unfold slicePick;rw[h1,h2,h3];simp only[sliceRange_one,pick_run,ao]<;>rfl
def rSlL (K:Fg):V->Option Int->Option Int->Hp->VK->Prop:=λx lo hi H Q=>∃a xs,x=.ref a/\SqL K H a xs/\∀p,H p=none->Q (.ref p) (upd H p (.lst (cutV xs lo hi)))
theorem sl_list:SlR X (rSlL X.K):=by intro pins s σ H x v vl vu lo hi sl Q I rx hs pl pu h;obtain⟨a,xs,rfl,hx,q⟩:=h;cases rx;obtain⟨its,r,ht,hz⟩:=I.list hx;have hlen:=r.length;refine⟨"list",_,slot_list_getitem.lookup,ht.isList.typeIs,?_⟩;refine wpAny_getItem_list_slice ht.isList hs pl pu .none (by simp) ?_ (by rw[ao]<;>lia);rw[slicePick_cut,<- hlen];refine⟨.ref s.heap.objs.size,_,I.laid (t':=s.toks) (o:=.lst (cutV xs lo hi)) (λb ob q=>ah _ q) (aj _) ?_,rfl,q _ (I.hok.fresh (aj _))⟩;exact⟨aG (cutV_length xs lo hi) hz,_,0,(r.drop (HT.sIx xs.length 0 lo)).take (HT.sIx xs.length xs.length hi-HT.sIx xs.length 0 lo),aP _ rfl⟩
theorem call_len_seq:CallR X (.builtin "len") (λxs H Q=>∃p ys,xs=[.ref p]/\(SqL X.K H p ys\/SqT X.K H p ys)/\Q (.int ys.length) H):=by
 intro pins s σ H xs us Q I r h;obtain⟨p,ys,rfl,hq,q⟩:=h;obtain⟨u,rfl,rx⟩:=vals1 r;cases rx;have hn:=line63;rcases hq with hq|hq
 ·obtain⟨its,r',pl,hz⟩:=I.list hq;have hlen:=r'.length;exact Calls.call_len_list pl.isList (by simp only[ao]<;>lia) ⟨.int ys.length,H,I.tok _,⟨s.toks+1,by rw[ao,hlen]⟩,q⟩
 ·obtain⟨its,r',pl,hz⟩:=I.tuple hq;have hlen:=r'.length;exact len_tuple pl (by simp only[ao]<;>lia) ⟨.int ys.length,H,I.tok _,⟨s.toks+1,by rw[ao,hlen]⟩,q⟩
theorem call_list_of:CallR X (.type "list") (λxs H Q=>∃p ys,xs=[.ref p]/\(SqL X.K H p ys\/SqT X.K H p ys)/\∀l,H l=none->Q (.ref l) (upd H l (.lst ys))):=by
 intro pins s σ H xs us Q I r h;obtain⟨p,ys,rfl,hq,q⟩:=h;obtain⟨u,rfl,rx⟩:=vals1 r;cases rx;have fin:∀(its:List Value),Vals ys its->ys.length<=sizeLine->∀(h':Heap) (c':Nat),(∀b o',s.heap.get? b=some o' -> h'.get? b=some o') ->
   h'.get? s.heap.objs.size=some { cls:=.type "list",dict:=none,data:=.seq its.toArray c',slots:=#[] }->EP X pins σ Q (.ref s.heap.objs.size) { s with heap:=h' }:=λits r' hz h' c' kp e=>
  ⟨.ref s.heap.objs.size,_,I.laid (t':=s.toks) kp (aj _) (show ObjOk X.prog X.w _ h' _ (.lst ys) from⟨hz,its,c',r',e⟩),rfl,q _ (I.hok.fresh (aj _))⟩
 rcases hq with hq|hq
 ·obtain⟨its,r',pl,hz⟩:=I.list hq;have hlen:=r'.length;obtain⟨o,ho,hc,n,hd⟩:=pl.isList;exact call_list_seq p (.inl rfl) ho hc hd (λh' c' kp e=>fin its r' hz h' c' kp e) (by simp only[ao]<;>lia)
 ·obtain⟨its,r',pl,hz⟩:=I.tuple hq;have hlen:=r'.length;obtain⟨o,ho,hc,n,hd⟩:=pl;exact call_list_seq p (.inr rfl) ho hc hd (λh' c' kp e=>fin its r' hz h' c' kp e) (by simp only[ao]<;>lia)
def tyV (K:Fg)(T:String)(x:V)(H:Hp):Prop:=match x with
 | .str _=>T="str"
 | .int _=>T="int"
 | .ref p=>(T="list"/\∃xs,SqL K H p xs)\/(T="tuple"/\∃o,K.lookup p=some o/\o.cls=.type "tuple"/\o.dict=none) \/
   (T="dict"/\((∃kvs,H p=some (.dK kvs))\/∃kvs,H p=some (.dT kvs)))\/(T="set"/\∃S n,H p=some (.set S n))
 |_=>False
theorem tyV_is (I:Inv X pins σ H s)(r:RelV x v)(ty:tyV X.K T x H) :
  s.TypeIs v T/\∀a,v=.ref a->∃ob,s.heap.get? a=some ob/\ob.dict=none:=by
 cases x with
 |str z=>obtain⟨t,rfl⟩:=r;cases (show T="str" from ty);exact⟨typeIs_str s z t,λ_ e=>nomatch e⟩
 |int i=>obtain⟨t,rfl⟩:=r;cases (show T="int" from ty);exact⟨typeIs_int s i t,λ_ e=>nomatch e⟩
 |ref p=>
  cases r;rcases ty with⟨rfl,xs,hq⟩|⟨rfl,o,hk,hc,hd⟩|⟨rfl,hk⟩|⟨rfl,S,n,hk⟩
  ·obtain⟨its,_,pl,_⟩:=I.list hq;refine⟨pl.isList.typeIs,λa e=>?_⟩;cases e;obtain⟨o,n,e,c,hd,_⟩:=pl;exact⟨o,e,hd⟩
  ·refine⟨⟨o,I.kIn p o hk,hc⟩,λa e=>?_⟩;cases e;exact⟨o,I.kIn _ o hk,hd⟩
  ·have z:∃o,s.heap.get? p=some o/\o.ExactDict:=by
    rcases hk with⟨kvs,hk⟩|⟨kvs,hk⟩
    ·obtain⟨_,_,_,_,o,_,_,e,ex,_⟩:=I.hok p _ hk;exact⟨o,e,ex⟩
    ·obtain⟨_,_,_,_,o,_,_,e,ex,_⟩:=I.hok p _ hk;exact⟨o,e,ex⟩
   obtain⟨o,e,ex⟩:=z;refine⟨⟨o,e,ex.1⟩,λa e2=>?_⟩;cases e2;exact⟨o,e,ex.2.1⟩
  ·obtain⟨o,_,_,_,e,ex,_⟩:=I.hok p _ hk;refine⟨⟨o,e,ex.1⟩,λa e2=>?_⟩;cases e2;exact⟨o,e,ex.2.1⟩
 |_=>exact False.elim ty
def tBM0 (K:Fg)(T:String)(r:V->List V->Hp->VK->Prop)(to:TE):TE:=λσ H Q=>to σ H λx H1=>tyV K T x H1/\r x [] H1 Q
def tBM (K:Fg)(T:String)(r:V->List V->Hp->VK->Prop)(to:TE)(t:TA):TE:=λσ H Q=>to σ H λx H1=>tyV K T x H1/\t σ H1 λxs H2=>r x xs H2 Q
variable {o e:Expr}{es:List Expr}{to:TE}{t:TA}{name:Str}{apos cpos:Pos}{T id:String}{r:V->List V->Hp->VK->Prop}
theorem pe_bm0 (pa:PlainAttrs T)(slot:Slot T name id)(hty:typeOf (.builtin id)=pure (.type "method_descriptor"))(hm:MtR X id r)(ho:PE X o to)
  (hbase:attributeBase o name X.env (eval o X.env)=eval o X.env:=by rfl) (hline:(apos.endLine == cpos.line)=true:=by rfl):PE X (.Call (.Attribute o name apos) [] [] cpos) (tBM0 X.K T r to):=by
 intro pins s σ H Q I h;refine wpAny_Call_method0_late hbase hline (thn (ho pins s σ H _ I h) λv s1 ⟨x,H1,I1,r1,ty,q1⟩=>?_);obtain⟨h1,h2⟩:=tyV_is I1 r1 ty;exact⟨T,id,pa,slot,hty,h1,h2,dn rfl (PySem.evalArgs_none (hm pins s1 σ H1 x [] v [] Q I1 r1 .nil q1))⟩
theorem pe_bm (pa:PlainAttrs T)(slot:Slot T name id)(hty:typeOf (.builtin id)=pure (.type "method_descriptor"))(hm:MtR X id r)(ho:PE X o to)(ha:PA X (e::es) t)
  (hbase:attributeBase o name X.env (eval o X.env)=eval o X.env:=by rfl)
  (hfew:((backTo cpos (starEach (e::es) X.env)).all (λx=>!x.1) && (backToKw cpos (keywordEach [] X.env)).all (λx=>x.1.isSome)
   && decide ((e::es).length+([]:List Keyword).length+(if ([]:List Keyword).isEmpty then 0 else 1)<30))=true:=by rfl)
  (hline:(apos.endLine == cpos.line)=true:=by rfl) (hs:starEach (e::es) X.env=(false,eval e X.env)::starEach es X.env:=by rfl) (hplain:(backTo cpos (starEach es X.env)).any (·.1)=false:=by rfl) :
  PE X (.Call (.Attribute o name apos) (e::es) [] cpos) (tBM X.K T r to t):=by
 intro pins s σ H Q I h;refine wpAny_Call_method_late hbase hfew hline rfl (thn (ho pins s σ H _ I h) λv s1 ⟨x,H1,I1,r1,ty,q1⟩=>?_);obtain⟨h1,h2⟩:=tyV_is I1 r1 ty;refine⟨T,id,pa,slot,hty,h1,h2,?_⟩;have hA:=ha cpos pins s1 σ H1 _ I1 q1;rw[hs]at hA ⊢;refine dn (by show(false || (backTo cpos (starEach es X.env)).any (·.1))=false;rw[hplain]<;>rfl) (dL ?_);exact thn hA λus s2 ⟨vs,H2,I2,r2,q2⟩=>hm pins s2 σ H2 x vs v us Q I2 r1 r2 q2
end
def MtM (X:Cx)(id:String)(r:V->List V->Hp->VK->Prop):Prop:=
 ∀(pins:List (Addr×Obj)) (s:Shared) (σ:St) (H:Hp) (x:V) (xs:List V) (v:Value) (us:List Value) (Q:VK),Inv X pins σ H s->RelV x v->Vals xs us->r x xs H Q ->
  wpAny (model X.prog X.w) X.A (call (.builtin id) (v::us)) (EP X pins σ Q) X.xe s
theorem Vals.one:∀{x:V} {us:Lv},Vals [x] us->∃u,us=[u]/\RelV x u
 |_,_,.cons r .nil=>⟨_,rfl,r⟩
theorem Vals.zero:∀{us:Lv},Vals [] us->us=[]
 |_,.nil=>rfl
theorem Vals.dropLast (h:Vals xs us):Vals xs.dropLast us.dropLast:=by
 induction h with
 |nil=>exact .nil
 |cons r t ih=>
  cases t with
  |nil=>exact .nil
  |cons q t'=>exact .cons r ih
theorem Vals.rep (h:Vals xs us):∀k:Nat,Vals (List.replicate k xs).flatten (List.replicate k us).flatten
 |0=>.nil
 |k+1=>by rw[b7,b7,cT,cT];exact Vals.append h (Vals.rep h k)
theorem erase_last {α:Type}(l:List α):l.eraseIdx (l.length-1)=l.dropLast:=by
 induction l with
 |nil=>rfl
 |cons a r ih=>
  cases r with
  |nil=>rfl
  |cons b r=>
   have e:(a::b::r).length-1=((b::r).length-1)+1:=by have h1:(a::b::r).length=r.length+2:=rfl;have h2:(b::r).length=r.length+1:=rfl;lia
   rw[e,List.eraseIdx_cons_succ,ih]
   all_goals rfl
theorem foldl_rep (its:Lv):∀(k:Nat) (acc:Lv),
  List.foldl (λx1 x2=>x1++x2) acc.toArray (List.replicate k its.toArray)=(acc++(List.replicate k its).flatten).toArray
 |0,acc=>by simp
 |k+1,acc=>by
  have e:acc.toArray++its.toArray=(acc++its).toArray:=by simp
  have e2:(acc++its)++(List.replicate k its).flatten=acc++(List.replicate (k+1) its).flatten:=by rw[b7,cT,List.append_assoc]
  rw[<- e2,<- foldl_rep its k (acc++its),<- e,b7,List.foldl_cons]
section
variable {X:Cx}{pins:List (Addr×Obj)}{σ:St}{H:Hp}{s:Shared}{l b:Addr}{xs ys zs:List V}
theorem Inv.lset {its its':Lv}{n:Nat}{f:Array Value->Array Value}{t':Nat}(I:Inv X pins σ H s)(hH:H l=some (.lst xs))
  (e:s.heap.get? l=some { cls:=.type "list",data:=.seq its.toArray n }) (hf:f its.toArray=its'.toArray) (hv:Vals ys its') (hz:ys.length<=sizeLine) :
  Inv X pins σ (upd H l (.lst ys)) { s with heap:=s.heap.update l (Obj.mapSeq f),toks:=t' }:=by
 have q:=PySem.IsL.update e f;rw[hf]at q;refine I.write (x:=l) (e:=l) (by rw[hH];exact trivial) (.inl rfl) (λb' u hb hu=>(aU s.heap (Obj.mapSeq f) (bP hb)).trans hu) ⟨_,q⟩ ?_;exact⟨hz,its',_,hv,q⟩
theorem Inv.lnew (I:Inv X pins σ H s)(hv:Vals ys its)(hz:ys.length<=sizeLine) :
  Inv X pins σ (upd H s.heap.objs.size (.lst ys)) { s with heap:=s.heap.push { cls:=.type "list",data:=.seq its.toArray },toks:=t' } :=
 I.laid (λ_ _ q=>ah _ q) (aj _) ⟨hz,its,0,hv,aP _ rfl⟩
theorem Inv.fresh (I:Inv X pins σ H s):H s.heap.objs.size=none:=I.hok.fresh (aj _)
theorem Inv.lstM (I:Inv X pins σ H s)(hH:H l=some (.lst xs)):xs.length<=sizeLine/\∃(its:Lv) (n:Nat),Vals xs its/\xs.length=its.length/\s.heap.get? l=some { cls:=.type "list",data:=.seq its.toArray n }:=by obtain⟨z,its,n,r,e⟩:=I.hok l _ hH;exact⟨z,its,n,r,r.length,e⟩
theorem notLongL (h:n<=sizeLine):Builtin.List.listTooLong n=false:=by unfold Builtin.List.listTooLong;exact aH (by lia)
end
section
variable {X:Cx}
def rAppend:V->List V->Hp->VK->Prop:=λx vs H Q=>∃l xs y,x=.ref l/\vs=[y]/\H l=some (.lst xs)/\xs.length<sizeLine/\Q .non (upd H l (.lst (xs++[y])))
theorem mt_append:MtM X "list.append" rAppend:=by intro pins s σ H x vs v us Q I rx rv h;obtain⟨l,xs,y,rfl,rfl,hH,hz,q⟩:=h;cases rx;obtain⟨u,rfl,ru⟩:=rv.one;obtain⟨z,its,n,r,hl,e⟩:=I.lstM hH;refine fV F.slot_list_append ⟨_,e,rfl⟩ F.entry_list_append (F.args_list_append_2 _ _) (PySem.list_append l its.toArray n u (by rw[ao];lia)) ⟨e,?_⟩;refine⟨.non,_,I.lset (its':=its++[u]) hH e (by simp) (r.append (.cons ru .nil)) ?_,rfl,q⟩;rw[aN,bp];lia
def rPop:V->List V->Hp->VK->Prop:=λx vs H Q=>∃l xs y,x=.ref l/\vs=[]/\H l=some (.lst xs)/\xs[xs.length-1]?=some y/\Q y (upd H l (.lst xs.dropLast))
theorem mt_pop:MtM X "list.pop" rPop:=by
 intro pins s σ H x vs v us Q I rx rv h;obtain⟨l,xs,y,rfl,rfl,hH,hy,q⟩:=h;cases rx;have hus:=rv.zero;subst hus;obtain⟨z,its,n,r,hl,e⟩:=I.lstM hH;obtain⟨u,hu,ru⟩:=r.get hy;have hy':its.toArray[its.toArray.size-1]?=some u:=by show its.toArray[its.length-1]?=some u;rw[<- fk,<- hl];exact hu
 refine fV F.slot_list_pop ⟨_,e,rfl⟩ F.entry_list_pop (F.args_list_pop_1 _) (MeetsSeq.list_pop_last l its.toArray n u hy' (by rw[ao];lia)) ⟨e,?_⟩;refine⟨y,_,I.lset (its':=its.dropLast) hH e ?_ r.dropLast ?_,ru,q⟩
 ·show its.toArray.eraseIdxIfInBounds (its.toArray.size-1)=its.dropLast.toArray;rw[ao,List.eraseIdxIfInBounds_toArray,erase_last]
 ·rw[fA];lia
def rRep:R2:=λx y H Q=>∃l k xs,x=.ref l/\y=.int k/\H l=some (.lst xs) /\ -(2^63)<=k/\k<2^63/\xs.length*k.toNat<=sizeLine /\
 ∀p,H p=none->Q (.ref p) (upd H p (.lst (List.replicate k.toNat xs).flatten))
theorem len_rep {α:Type}(xs:List α)(k:Nat):(List.replicate k xs).flatten.length=k*xs.length:=by
 induction k with
 |zero=>simp
 |succ k ih=>rw[b7,cT,aN,ih,fm,Nat.add_comm]
theorem op_rep:OpR X (binaryOp .Mult) rRep:=by
 intro pins s σ H x y v u Q I rx ry h;obtain⟨l,k,xs,rfl,rfl,hH,h1,h2,hz,q⟩:=h;cases rx;obtain⟨t,rfl⟩:=ry;obtain⟨z,its,n,r,hl,e⟩:=I.lstM hH;have hlen:its.toArray.size*k.toNat<=sizeLine:=by rw[ao,<- hl];exact hz
 have hcap:¬its.toArray.size*k.toNat > (2^63-1) / 8:=by
  have:(sizeLine:Nat)<=(2^63-1) / 8:=by decide
  lia
 have hfit:¬(!Builtin.List.listFitsIndex k)=true:=by rw[fitsIndex_both h1 h2];exact aK
 have hlong:¬Builtin.List.listTooLong (its.toArray.size*k.toNat)=true:=by rw[notLongL hlen];exact aK
 have hnew:List.foldl (λx1 x2=>x1++x2) #[] (List.replicate (if its.toArray.isEmpty=true then 0 else k.toNat) its.toArray)=(List.replicate k.toNat its).flatten.toArray:=by
  have f0:∀m:Nat,List.foldl (λx1 x2=>x1++x2) #[] (List.replicate m its.toArray)=(List.replicate m its).flatten.toArray:=λm=>by have:=foldl_rep its m [];rw[List.nil_append]at this;exact this
  rw[f0];cases its with
  |nil=>simp
  |cons a r'=>rw[af (by simp)]
 refine wpAny_binaryOp_repeat_ref (T:="list") (U:="int") (by decide) ⟨_,e,rfl⟩ (λs'=>typeIs_int s' k t) noFill_list_mul F.fills_int_mul F.slot_int_rmul repeat_list F.slot_int_index.lookup
  (fV F.slot_int_rmul (typeIs_int s k t) F.entry_int_rmul (F.args_int_rmul_2 _ _) (int___rmul___int_list k t l its.toArray n)
   ⟨e,rfl,⟨_,e,rfl⟩,fV F.slot_list_mul ⟨_,e,rfl⟩ F.entry_list_mul (F.args_list_mul_2 _ _) (AutoListH.list___mul___list_int_3 l its.toArray n k t hfit hcap hlong) ⟨e,?_⟩⟩)
 rw[hnew];exact⟨.ref _,_,I.lnew (t':=s.toks) (r.rep k.toNat) (by rw[len_rep,bN];exact hz),rfl,q _ I.fresh⟩
end
end L2
namespace Att
open PySem PySem.W PySem.Calls PyProof.Rows
theorem ints_of_wellAll:∀(ns:Li) (vs:Lv),WellAll P h vs (ns.map WData.int)->IntsAre vs ns:=by
 intro ns
 induction ns with
 |nil=>intro vs w;rw[d5]at w;cases w;exact .nil
 |cons n ns ih=>
  intro vs w;rw[aA]at w;cases w with
  |cons a b=>cases a;exact .cons _ _ (ih _ b)
theorem script_of {l:OpenLaw}{n:Nat}(hn:l.most=some n){P:Params}{args:List WData}
  (hpre:l.row.toRowW.claim.pre args=true) (hwl:WellAll P h vals args) :
  ∃a vs ns,vals=[Value.ref a]/\args=[WData.list (ns.map WData.int)]/\h.get? a=some { cls:=.type "list",data:=.seq vs.toArray }/\IntsAre vs ns/\ns.length<=n:=by
 have hsh:WShape.hasAll [] args [.list .int]=true:=(pre_splitW hpre).1;have hc:l.pre.holds [] { args:=args }=true:=(pre_splitW hpre).2;obtain⟨d,r,rfl,h1,h2⟩:=hasAllW_cons hsh;obtain rfl:=hasAllW_nil h2;obtain⟨xs,rfl,h3⟩:=hasW_list h1;obtain⟨ns,rfl⟩:=items_int h3;have hlen:ns.length<=n:=by
  unfold OpenLaw.pre at hc;have h4:(WTm.not (.lt (.lit (.int (n:Int))) (.len (.arg 0)))).holds [] { args:=[.list (ns.map .int)] }=true:=by have h4:=(holds_andW hc).1;rw[hn]at h4;exact h4
  have h5:=condW_of h4 (w_not (w_lt w_lit (w_len_list (w_arg rfl))));rw[aa]at h5;refine c6 λq=>?_;have q':(n:Int)<((ns.length:Nat):Int):=by lia
  first
   |(rw[aM q']at h5;exact absurd h5 (by decide))
   |(simp at h5;lia)
 cases hwl with
 |cons w1 w2=>
  cases w2;cases w1 with
  |list ho hall=>exact⟨_,_,ns,rfl,rfl,ho,ints_of_wellAll ns _ hall,hlen⟩
theorem post_true (l:OpenLaw)(args:List WData):l.row.toRowW.claim.post args (.bool true) args=true:=
 postW_of (r:=l.row.toRowW) (X:=(true == true))
  (show WShape.has [] (.bool true) .bool=true by first|rfl|decide|simp[WShape.has,WShape.arms,WShape.armsAll])
  (show(WTm.eq .res (.lit (.bool true))).value [] { args:=args,res:=some (.bool true),after:=args }=some (.bool (true == true)) from w_eq_bool (w_res rfl) w_lit) rfl
section
variable {prog:Program}{w:World}{A:Around}{E:Value->Shared->Prop}{s:Shared}{K:Frag}
def ledger (h:Heap)(L d:Addr):List (Addr×Obj):=(List.range h.objs.size).filterMap λa=>if a=L\/a=d then none else(h.get? a).map λo=>(a,o)
end
end Att
namespace L2
open PySem PySem.Spec PyProof.Rows
theorem vals_ints:∀{vs:Lv} {ns:Li},IntsAre vs ns->Vals (ns.map V.int) vs
 |_,_,.nil=>.nil
 |_,_,.cons n t h=>.cons ⟨t,rfl⟩ (vals_ints h)
def lL (K:Fg):Hp:=λb=>match (ju K).find? λx=>x.2.1 == b with
 |some x=>some (.tbl ⟨x.2.2,#[]⟩)
 |none=>none
theorem lZ {K:Fg}{b:Addr}{o:HO}(h:lL K b=some o):∃x∈ju K,x.2.1=b/\o=.tbl ⟨x.2.2,#[]⟩:=by
 unfold lL at h;split at h
 ·rename_i x e;exact⟨x,eh e,by simpa using List.find?_some e,(aw h).symm⟩
 ·cases h
structure yC (K:Fg)(h:Heap):Prop where
 e:∀x∈ju K,h.get? x.2.1=some (W.tabObj #[])
 n:∀x∈ju K,K.lookup x.2.1=none
 u:∀x∈ju K,∀y∈ju K,x.2.1=y.2.1->x.2.2=y.2.2
theorem vh {K:Fg}{x:Addr×Addr×Str}(h:x∈ju K):W.codeHdIn K x.1 x.2.1=true:=by
 obtain⟨y,_,e⟩:=bD.mp h
 repeat' split at e
 all_goals first
  |(cases e;assumption)
  |cases e
theorem xN {K:Fg}{h:Heap}(L:yC K h){x:Addr×Addr×Str}(hx:x∈ju K):lL K x.2.1=some (.tbl ⟨x.2.2,#[]⟩):=by
 unfold lL;split
 ·rename_i y e;have e1:y.2.1=x.2.1:=by simpa using List.find?_some e
  rw[L.u y (eh e) x hx e1]
 ·rename_i e;have:=List.find?_eq_none.mp e x hx;simp at this
theorem law_call {P:Program}{w:World}{K:Fg}{mg mb:Mg}{CX:CXT}{k:Nat}{fa a:Addr}{fd:FuncData}{x:Str}{sp:Sp}{s₁:Shared}{vs:Lv}{ns:Li}
  (KX:K.In s₁.heap) (hns:s₁.heap.Ns mainGlobals mg) (hb:s₁.heap.Ns builtinsNs mb) (hbb:∀x:Str,x≠"__name__"->mb x=bootBuiltins x) (hlim:s₁.heap.NoLimit) (hg:s₁.gens = #[])
  (ha:s₁.heap.get? a=some { cls:=.type "list",data:=.seq vs.toArray }) (hi:IntsAre vs ns) (hl:ns.length<=sizeLine) (hr:Room k callerA) (LO:yC K s₁.heap) (BM:O8 mg s₁.heap)
  (F:∀base:Heap,K.In base->base.Ns mainGlobals mg->FnOk P w K mg base CX k fa fd [x] sp) (hbind:∀(s:Shared) (u:Value),BindsTo s fd ⟨[u],[]⟩ [(x,u)])
  (hsp:∀H:Hp,SqL K H a (ns.map V.int)->sp [.ref a] H (λv _=>v=.bl true) λ_ _ _=>False)
  (hCX:∀H e s',CX [] H s₁ (λ_ _ _=>False) e s' -> False) :
  codeAny (model P w) callerA (.call (.ref fa) ⟨[.ref a],[]⟩) (λr s'=>r=.ok (.ret (.bool true))/\OldK s₁.heap s'.heap/\s'.os=s₁.os/\AllBare s'.gens) s₁:=by
 have rv:=vals_ints hi;have lenV:=hi.length;have nat:∀{b:Addr} {o:HO},lL K b=some o->b≠a:=λ{b o} h z=>by obtain⟨x,hx,e,_⟩:=lZ h;have:=LO.e x hx;rw[e,z,ha]at this;cases this
 have core:∀H:Hp,(∀b,b≠a->H b=lL K b)->SqL K H a (ns.map V.int)->HOk P w H s₁.heap->(H a≠none->K.lookup a=none/\∃o xs,H a=some (.frz o (.lst xs))) ->
   codeAny (model P w) callerA (.call (.ref fa) ⟨[.ref a],[]⟩) (λr s'=>r=.ok (.ret (.bool true))/\OldK s₁.heap s'.heap/\s'.os=s₁.os/\AllBare s'.gens) s₁:=by
  intro H hT hS hok hK;have base_of:∀{b:Addr} {o:Obj},s₁.heap.get? b=some o->H b=none->(hidT s₁.heap H).get? b=some o:=λe n=>hidT_get e n;have noA:∀{b:Addr} {o:Obj} {es:Array DictEntry} {ep:Nat},s₁.heap.get? b=some o->o.data=.dict es ep->H b=none:=λ{b o es ep} e d=>by
   by_cases hba:b=a
   ·subst hba;rw[ha]at e;cases e;have d':Data.seq vs.toArray _=Data.dict es ep:=d;cases d'
   ·rw[hT b hba];cases q:lL K b with
    |none=>rfl
    |some u=>obtain⟨x,hx,e1,_⟩:=lZ q;have:=LO.e x hx;rw[e1,e]at this;cases this;cases d
  have noB:∀{b:Addr} {o:Obj},s₁.heap.get? b=some o->o.cls=.type "module"->H b=none:=λ{b o} e d=>by
   by_cases hba:b=a
   ·subst hba;rw[ha]at e;cases e;injection d with z;exact absurd z (by decide)
   ·rw[hT b hba];cases q:lL K b with
    |none=>rfl
    |some u=>obtain⟨x,hx,e1,_⟩:=lZ q;have:=LO.e x hx;rw[e1,e]at this;cases this;cases d
  have nsK:∀{b:Addr} {m:Mg},s₁.heap.Ns b m->(hidT s₁.heap H).Ns b m:=λ{b m} ⟨o,es,ep,e,d,r⟩=>⟨o,es,ep,base_of e (noA e d),d,r⟩;have hKb:K.In (hidT s₁.heap H):=λb o e=>base_of (KX b o e) (by
   by_cases hba:b=a
   ·subst hba;cases q:H b with
    |none=>rfl
    |some u=>rw[(hK (by rw[q];simp)).1]at e;cases e
   ·rw[hT b hba];cases q:lL K b with
    |none=>rfl
    |some u=>
     obtain⟨x,hx,e1,_⟩:=lZ q;have:=LO.n x hx;rw[e1,e]at this;cases this)
  have hM:Mod K mg (hidT s₁.heap H):=⟨hKb,nsK hns,⟨mb,nsK hb,hbb⟩,let ⟨mc,h1,h2⟩:=hlim;⟨mc,nsK h1,h2⟩,let ⟨bm,ob,b1,b2,b3,b4,b5⟩:=BM;⟨bm,ob,b1,b2,base_of b3 (noB b3 b4),b4,b5⟩⟩
  have e0:Env0 P w K mg (hidT s₁.heap H) callerA [] s₁ H:=⟨rfl,hM,λb o e=>of_hidT e,fX (hidT_size _ _),trivial,⟨λb hb=>absurd (show b∈([]:List Addr) from hb) (by simp),λx hx=>⟨#[],by rw[hT _ (nat (xN LO hx))];exact xN LO hx⟩⟩,hok,.of_eq hg⟩;refine fh ((F _ hKb (nsK hns)).run callerA [] s₁ H ⟨[.ref a],[]⟩ [.ref a] [.ref a] _ _ hr e0 (hbind s₁ (.ref a)) (.cons rfl .nil) (hsp H hS)) λr s' h=>?_;cases r with
  |error e=>exact(hCX H e s' h).elim
  |ok fl=>
   cases fl with
   |next=>exact False.elim h
   |brk=>exact False.elim h
   |cont=>exact False.elim h
   |ret u=>
    obtain⟨v,H',os,bare,un,hok',r',q⟩:=h;have q':v=.bl true:=q;subst q';obtain rfl:u=Value.bool true:=r';have all:∀b o,s₁.heap.get? b=some o->s'.heap.get? b=some o\/∃x∈ju K,x.2.1=b/\o=W.tabObj #[]/\∃more,s'.heap.get? b=some (W.tabObj (#[]++more)):=λb o e=>by
     by_cases hba:b=a
     ·subst hba;cases q:H b with
      |none=>exact .inl (un.keep b o e q (by intro z;exact absurd (show b∈([]:List Addr) from z) (by simp)) (by simp))
      |some u=>obtain⟨_,ob,xs,z⟩:=hK (by rw[q];simp);have z2:=un.frzs b ob _ z;obtain⟨e1,_⟩:=hok b _ z;obtain⟨e2,_⟩:=hok' b _ z2;rw[e]at e1;cases e1;exact .inl e2
     ·cases q:lL K b with
      |none=>exact .inl (un.keep b o e (by rw[hT b hba];exact q) (by intro z;exact absurd (show b∈([]:List Addr) from z) (by simp)) (by simp))
      |some u=>obtain⟨x,hx,e1,rfl⟩:=lZ q;obtain⟨more,e2⟩:=un.tbls b _ (by rw[hT b hba];exact q);obtain⟨e3,_⟩:=hok' b _ e2;have e4:=LO.e x hx;rw[e1,e]at e4;exact .inr ⟨x,hx,e1,aw e4,more,e3⟩
    refine⟨rfl,⟨λb o e=>?_,λb o e=>?_⟩,os,bare⟩
    ·rcases all b o e with z|⟨x,hx,e1,rfl,more,e2⟩
     ·exact .inl z
     ·have C:W.CodeHd s₁.heap x.1 x.2.1:=fK KX (vh hx);exact .inr (.inl ⟨e1 ▸ (C.tab (LO.e x hx)).isCodeTable,rfl,#[],more,rfl,e2⟩)
    ·rcases all b o e with z|⟨x,hx,e1,rfl,more,e2⟩
     ·exact⟨_,z⟩
     ·exact⟨_,e2⟩
 have tabOk:∀(H:Hp) b u,lL K b=some u->ObjOk P w H s₁.heap b u:=λH b u q=>by obtain⟨x,hx,e1,rfl⟩:=lZ q;have e4:=LO.e x hx;rw[e1]at e4;exact⟨e4,trivial,λp cv hc=>by cases hc⟩
 cases hk:K.lookup a with
 |some o=>
  have e:=KX a o hk;rw[ha]at e;cases e;refine core (lL K) (λ_ _=>rfl) (.inr ⟨_,vs.toArray,_,hk,rfl,rfl,rfl,by rw[ao,lenV];exact hl,by simpa using rv⟩) (λb u z=>tabOk _ b u z) λz=>?_;cases q:lL K a with
  |none=>exact absurd q z
  |some u=>exact absurd rfl (nat q)
 |none=>
  refine core (λb=>if b=a then some (.frz { cls:=.type "list",data:=.seq vs.toArray } (.lst (ns.map V.int))) else lL K b) (λb hb=>af hb) (.inl (.inr ⟨{ cls:=.type "list",data:=.seq vs.toArray },ae rfl⟩)) (λb u z=>?_) λ_=>⟨hk,_,_,ae rfl⟩;by_cases hb:b=a
  ·have z':=(ae hb).symm.trans z;cases z';subst hb;exact⟨ha,by rw[aa];exact hl,vs,_,rv,ha⟩
  ·exact tabOk _ b u ((af hb).symm.trans z)
abbrev KOf {K:Fg}{h:Heap}(_:K.In h):Fg:=K
def inClass (s:Stmt)(j:Nat):Stmt:=match s with
 | .ClassDef _ _ _ body _ _ _ _ _ _ _=>body.getD j (.Pass ⟨0,0,0,0⟩)
 |_=>.Pass ⟨0,0,0,0⟩
def defArgs (s:Stmt):Arguments:=match s with
 | .FunctionDef _ a _ _ _ _ _ _ _ _=>a
 |_=>{ posonlyargs:=[],args:=[],vararg:=none,kwonlyargs:=[],kw_defaults:=[],kwarg:=none,defaults:=[] }
def defBody (s:Stmt):List Stmt:=match s with
 | .FunctionDef _ _ b _ _ _ _ _ _ _=>b
 |_=>[]
def defScope (s:Stmt):Scope:=match s with
 | .FunctionDef _ _ _ _ _ _ sc _ _ _=>sc
 |_=>{ kind:=.function,names:=[],isGenerator:=false,isCoroutine:=false }
abbrev CX0:CXT:=λ_ _ _ _ _ _=>False
abbrev E0:XK:=λ_ _ _=>False
theorem pass0:Passes CX0 X E0:=λ_ _ _ _ _ _ _ h=>h.elim
structure Fun (K:Fg)(x qual:Str)(st:Stmt)(f:Addr)(fd:FuncData):Prop where
 ex:∃(oc:Value) (od:Option Addr) (kV doc pm:Value) (an:Option Addr) (cdv ct:Value) (osl:Array (Option Value)),
  fd=W.fnOf x qual (defArgs st) (defBody st) (defScope st) .none kV doc pm an cdv ct/\K.lookup f=some ⟨oc,od,.func fd,osl⟩/\W.codeIn K cdv qual=true
 kp:W.keepIn K (.ref f)=true
section
variable {P:Program}{w:World}{K:Fg}{mg:Mg}{base:Heap}
theorem Fun.ok {x qual:Str}{st:Stmt}{f:Addr}{fd:FuncData}{N ps:Ls}{k:Nat}{sp:Sp}(F:Fun K x qual st f fd)(S:FnScope N ps (defScope st))(len:∀vs H Q E,sp vs H Q E->vs.length=ps.length)
  (hbody:∀(cdv:Value) (A:Around) (outer:List Env) (s:Shared) (H:Hp) (vs:List V) (Q:VK) (E:XK),Room k (A.deeper (envOfC qual (defScope st) s.heap.objs.size f cdv))->sp vs H Q E ->
   ∃t,PSs (cxOf CX0 P w K mg base N qual (defScope st) f cdv A outer s H E).nox (defBody st) t/\t { nx:=λ_ H'=>Q .non H',rt:=Q } (start N vs) H):FnOk P w K mg base CX0 (k+1) f fd ps sp:=by
 obtain⟨oc,od,kV,doc,pm,an,cdv,ct,osl,rfl,lk,hcd⟩:=F.ex;refine fn_of lk hcd S len λA outer s H vs Q E hr hsp=>?_;obtain⟨t,h,q⟩:=hbody cdv A outer s H vs Q E hr hsp;exact⟨t,h.nox,q⟩
theorem Fun.binds {x qual:Str}{st:Stmt}{f:Addr}{fd:FuncData}{ps:Ls}(F:Fun K x qual st f fd)
  (h:∀(kV doc pm:Value) (an:Option Addr) (cdv ct:Value) (us:List Value),us.length=ps.length->bindArgs (W.fnOf x qual (defArgs st) (defBody st) (defScope st) .none kV doc pm an cdv ct) ⟨us,[]⟩=pure (ps.zip us)):Binds K fd ps []:=by
 obtain⟨oc,od,kV,doc,pm,an,cdv,ct,osl,rfl,lk,hcd⟩:=F.ex;exact .all (h kV doc pm an cdv ct)
theorem fun_mk {x qual:Str}{st:Stmt}{f:Addr}{oc:Value}{od an:Option Addr}{osl:Array (Option Value)}{kV doc pm cdv ct:Value}(l:K.lookup f=some ⟨oc,od,.func (W.fnOf x qual (defArgs st) (defBody st) (defScope st) .none kV doc pm an cdv ct),osl⟩)
  (c:W.codeIn K cdv qual=true) (k:W.keepIn K (.ref f)=true):Fun K x qual st f (W.fnOf x qual (defArgs st) (defBody st) (defScope st) .none kV doc pm an cdv ct):=⟨⟨oc,od,kV,doc,pm,an,cdv,ct,osl,rfl,l,c⟩,k⟩
end
theorem hu_of (hr:Room k A):A.units+1<cLine:=bc (Nat.add_le_add_left (by decide:1<=64) _) hr.units
theorem small1000 (h:n<=1000):n<sizeLine:=bc h (by decide)
section
variable {X:Cx}
theorem pv (i:Nat)(hN:X.N[i]?=some x:=by rfl)(hv:Vis X.env.scope x:=by walk_at "v")(hd:(x == ("__debug__":Str))=false:=by decide)
  (hcd:(x == ("__classdict__":Str))=false:=by decide):PE X (.Name x pos) (tVar i):=pe_var hN hv hd hcd
end
theorem iteF {A B:Prop}(h:B):if false=true then A else B:=by rw[af aK];exact h
theorem iteT {A B:Prop}(h:A):if true=true then A else B:=by rw[ae rfl];exact h
def Nx (x:Option HO):HO->Prop
 | .tbl t=>∃ps,x=some (.tbl ⟨t.q,ps⟩)
 |o=>x=some o
def Same (H H':Hp):Prop:=∀b o,H b=some o->Nx (H' b) o
theorem Nx.of (h:x=some o):Nx x o:=by cases o<;>first|exact h|exact⟨_,h⟩
theorem Nx.some (h:Nx x o):∃u,x=some u:=by cases o<;>first|exact⟨_,h⟩|(obtain⟨ps,h⟩:=h;exact⟨_,h⟩)
theorem mR (h:∀b o,H b=some o->H' b=some o):Same H H':=λb o e=>.of (h b o e)
theorem Same.refl (H:Hp):Same H H:=mR λ_ _ h=>h
theorem Same.trans (a:Same H H1)(b:Same H1 H2):Same H H2:=λc o h=>by have q:=a c o h;cases o<;>first|exact b c _ q|(obtain⟨ps,q⟩:=q;have z:=b c _ q;exact z)
theorem Same.free (e:Same H H')(h:H' l=Option.none):H l=Option.none:=by
 cases q:H l with
 |none=>rfl
 |some o=>obtain⟨u,z⟩:=(e l o q).some;rw[z]at h;cases h
theorem Same.seq {K:Fg}{H H':Hp}{a:Addr}{xs:List V}(e:Same H H')(h:SqL K H a xs):SqL K H' a xs:=by
 rcases h with (h|⟨o,h⟩)|h
 ·exact .inl (.inl (e _ _ h))
 ·exact .inl (.inr ⟨o,e _ _ h⟩)
 ·exact .inr h
def gI (σ:St)(i:Nat):Int:=match σ[i]? with
 |some (some (.int n))=>n
 |_=>0
def hI (σ:St)(i:Nat):Prop:=σ[i]?=some (some (.int (gI σ i)))
def tN (C:St->Hp->Prop)(g:St->Int):TE:=λσ H Q=>C σ H/\Q (.int (g σ)) H
def tP (C:St->Hp->Prop)(p:St->Prop)[∀σ,Decidable (p σ)]:TT:=λσ H Q=>C σ H/\Q (decide (p σ)) H
def tV (C:St->Hp->Prop)(p:St->Prop)[∀σ,Decidable (p σ)]:TE:=λσ H Q=>C σ H/\Q (.bl (decide (p σ))) H
def PX (C:St->Hp->Prop)(g:St->List Int):TA:=λσ H Q=>C σ H/\Q ((g σ).map V.int) H
section
variable {X:Cx}{a b:Expr}{pos:Pos}{Ca Cb:St->Hp->Prop}{ga gb:St->Int}
theorem iD (i:Nat)(hN:X.N[i]?=some x:=by rfl)(hv:Vis X.env.scope x:=by walk_at "v")
  (hd:(x == ("__debug__":Str))=false:=by decide) (hcd:(x == ("__classdict__":Str))=false:=by decide):PE X (.Name x pos) (tN (λσ _=>hI σ i) (λσ=>gI σ i)):=
 λpins s σ H Q I h=>pe_var hN hv hd hcd pins s σ H Q I ⟨_,h.1,h.2⟩
theorem lV:PE X (.Constant (.int i) j pos) (tN (λ_ _=>True) (λ_=>i)):=λpins s σ H Q I h=>pe_int pins s σ H Q I h.2
theorem I8 (hg:Gl X x)(hm:∃tk,X.mg x=some (.int i tk))(hd:(x == ("__debug__":Str))=false:=by decide):PE X (.Name x pos) (tN (λ_ _=>True) (λ_=>i)):=
 λpins s σ H Q I h=>let ⟨_,hm⟩:=hm;pe_glob hg hm (v:=.int i) ⟨_,rfl⟩ hd pins s σ H Q I h.2
theorem Kp {op:Operator}{C:Int->Int->Prop}{g:Int->Int->Int}(ho:OpR X (binaryOp op) (rI C λi j=>.int (g i j)))(ha:PE X a (tN Ca ga))(hb:PE X b (tN Cb gb)) :
  PE X (.BinOp a op b pos) (tN (λσ H=>Ca σ H/\Cb σ H/\C (ga σ) (gb σ)) (λσ=>g (ga σ) (gb σ))):=
 λpins s σ H Q I h=>pe_op ho ha hb pins s σ H Q I ⟨h.1.1,h.1.2.1,_,_,rfl,rfl,h.1.2.2,h.2⟩
theorem Mz {op:Operator}{g:Int->Int->Int}(ho:OpR X (binaryOp op) (rI0 λi j=>.int (g i j)))(ha:PE X a (tN Ca ga))(hb:PE X b (tN Cb gb)) :
  PE X (.BinOp a op b pos) (tN (λσ H=>Ca σ H/\Cb σ H) (λσ=>g (ga σ) (gb σ))):=
 λpins s σ H Q I h=>pe_op ho ha hb pins s σ H Q I ⟨h.1.1,h.1.2,_,_,rfl,rfl,h.2⟩
theorem vM:OpR X (binaryOp .Mult) (rI IntMulOk λi j=>.int (i*j)):=opI λ_ _ _ _ _ _ _ hc q=>mul_int q hc
theorem FN:OpR X (inplaceOp .Mult) (rI IntMulOk λi j=>.int (i*j)):=opI λ_ _ _ _ _ _ _ hc q=>imul_int q hc
def Bt (_ j:Int):Prop:=0<j/\j.natAbs.log2<9000
theorem Dz:OpR X (binaryOp .FloorDiv) (rI Bt λi j=>.int (i / j)):=opI λi j _ _ _ _ _ hc q=>by have h1:(0:Int)<j:=hc.1;exact floordiv_int (by lia) (by rw[Int.fdiv_eq_ediv_of_nonneg i (by lia)];exact q) (.inl (PyProof.noPylong_of_log2 hc.2))
theorem KZ (ha:PE X a (tN Ca ga))(hb:PE X b (tN Cb gb)):PE X (.BinOp a .Add b pos) (tN (λσ H=>Ca σ H/\Cb σ H) (λσ=>ga σ+gb σ)):=Mz op_add ha hb
theorem Hv (ha:PE X a (tN Ca ga))(hb:PE X b (tN Cb gb)):PE X (.BinOp a .Mult b pos) (tN (λσ H=>Ca σ H/\Cb σ H/\IntMulOk (ga σ) (gb σ)) (λσ=>ga σ*gb σ)):=Kp vM ha hb
theorem GJ (ha:PE X a (tN Ca ga))(hb:PE X b (tN Cb gb)):PE X (.BinOp a .Mod b pos) (tN (λσ H=>Ca σ H/\Cb σ H/\0<gb σ) (λσ=>ga σ % gb σ)):=Kp op_mod ha hb
theorem M5 (ha:PE X a (tN Ca ga)):PE X (.UnaryOp .USub a pos) (tN Ca (λσ=>-ga σ)):=
 λpins s σ H Q I h=>pe_un un_neg ha pins s σ H Q I ⟨h.1,_,rfl,h.2⟩
theorem rG {op:CmpOp}{p:Int->Int->Prop}[∀i j,Decidable (p i j)](ho:OpR X (compareOp op) (rI0 λi j=>.bl (decide (p i j))))(hm:behindInMarks op b=false)(ha:PE X a (tN Ca ga))(hb:PE X b (tN Cb gb)) :
  PT X (.Compare a [op] [b] pos) (tP (λσ H=>Ca σ H/\Cb σ H) (λσ=>p (ga σ) (gb σ))):=
 λpins s σ H Q I h=>pt_cmpR ho ha hb hm pins s σ H Q I ⟨h.1.1,h.1.2,_,_,rfl,rfl,_,rfl,h.2⟩
theorem EY:OpR X (compareOp .Eq) (rI0 λi j=>.bl (decide (i=j))):=λpins s σ H x y v u Q I rx ry h=>by obtain⟨i,j,rfl,rfl,q⟩:=h;refine op_eq pins s σ H _ _ v u Q I rx ry ⟨rfl,?_⟩;rw[dec_int,fq];exact q
theorem K9:OpR X (compareOp .NotEq) (rI0 λi j=>.bl (decide (¬i=j))):=λpins s σ H x y v u Q I rx ry h=>by obtain⟨i,j,rfl,rfl,q⟩:=h;have q:Q (.bl (decide (¬i=j))) H:=q;rw[fy]at q;refine op_ne pins s σ H _ _ v u Q I rx ry ⟨rfl,?_⟩;rw[dec_int,fq];exact q
theorem Hf (ha:PE X a (tN Ca ga))(hb:PE X b (tN Cb gb)):PT X (.Compare a [.Lt] [b] pos) (tP (λσ H=>Ca σ H/\Cb σ H) (λσ=>ga σ<gb σ)):=rG op_lt (nomark _) ha hb
theorem Hy (ha:PE X a (tN Ca ga))(hb:PE X b (tN Cb gb)):PT X (.Compare a [.LtE] [b] pos) (tP (λσ H=>Ca σ H/\Cb σ H) (λσ=>ga σ<=gb σ)):=rG op_le (nomark _) ha hb
theorem K6 (ha:PE X a (tN Ca ga))(hb:PE X b (tN Cb gb)):PT X (.Compare a [.Gt] [b] pos) (tP (λσ H=>Ca σ H/\Cb σ H) (λσ=>gb σ<ga σ)):=rG (p:=λi j=>j<i) op_gt (nomark _) ha hb
theorem DP (ha:PE X a (tN Ca ga))(hb:PE X b (tN Cb gb)):PT X (.Compare a [.Eq] [b] pos) (tP (λσ H=>Ca σ H/\Cb σ H) (λσ=>ga σ=gb σ)):=rG EY (nomark _) ha hb
variable {pa pb:St->Prop}[∀σ,Decidable (pa σ)][∀σ,Decidable (pb σ)]{rest:List Expr}
theorem Iv (ha:PT X a (tP Ca pa)):PT X (.UnaryOp .Not a pos) (tP Ca (λσ=>¬pa σ)):=
 λpins s σ H Q I h=>pt_not ha pins s σ H Q I ⟨h.1,by have q:=h.2;rw[fy]at q;exact q⟩
theorem pw_or1P (ha:PT X a (tP Ca pa)):PW X (.BoolOp .Or [a] pos) (tP Ca pa):=pw_or1 ha
theorem pw_orP (ha:PT X a (tP Ca pa))(hb:PW X (.BoolOp .Or (b::rest) pos) (tP Cb pb)):PW X (.BoolOp .Or (a::b::rest) pos) (tP (λσ H=>Ca σ H/\(¬pa σ->Cb σ H)) (λσ=>pa σ\/pb σ)):=
 λwh pins s σ H Q I h=>pw_or ha hb wh pins s σ H Q I ⟨h.1.1,by
  have q:=h.2;by_cases c:pa σ
  ·rw[aM (Or.inl c:pa σ\/pb σ)]at q;rw[aM c];refine iteT ?_;exact q
  ·rw[aH c];refine iteF ?_;refine⟨h.1.2 c,?_⟩;have e:decide (pa σ\/pb σ)=decide (pb σ):=by simp[c]
   rw[e]at q;exact q⟩
theorem QM (h:PE X e (tV Ca pa))(he:∀whole,isTrue e X.env whole=(do let v <- whole;standAt e.pos;holding [v] (truthy v)):=by intro _;rfl):PT X e (tP Ca pa):=
 λpins s σ H Q I q=>pt_val h he pins s σ H Q I ⟨q.1,_,rfl,q.2⟩
def Qt (C:St->Hp->Prop)(p:St->Prop)(t u:TS):TS:=λD σ H=>C σ H/\(p σ->t D σ H)/\(¬p σ->u D σ H)
theorem sE (hc:PT X c (tP Ca pa))(hx:PSs X x t)(hy:PSs X y u):PS X (.If c x y pos) (Qt Ca pa t u):=
 λpins s σ H D I h=>ps_if hc hx hy pins s σ H D I ⟨h.1,by
  by_cases c:pa σ
  ·rw[aM c];refine iteT ?_;exact h.2.1 c
  ·rw[aH c];refine iteF ?_;exact h.2.2 c⟩
def Px (i:Nat)(C:St->Hp->Prop)(g:St->Int):TS:=λD σ H=>C σ H/\∀n,n=g σ->D.nx (σ.set i (some (.int n))) H
theorem vP (hN:X.N.Nodup)(hi:X.N[i]?=some x)(hx:Loc X.env.scope x)(he:PE X e (tN Ca ga))(hs:swapsWith e (some (.Name x pos')) pos.line X.env=pure false:=by rfl)
  (hf:X.fn x=true\/X.env.scope.names.lookup x=some .local:=by walk_at "w"):PS X (.Assign [.Name x pos'] e pos) (Px i Ca ga):=
 λpins s σ H D I h=>ps_set hN hi hx he hs hf pins s σ H D I ⟨h.1,h.2 _ rfl⟩
def Pa (i:Nat)(C:St->Hp->Prop)(g:St->Int)(P:Int->Int->Prop)(f:Int->Int->Int):TS:=λD σ H=>hI σ i/\C σ H/\P (gI σ i) (g σ)/\∀n,n=f (gI σ i) (g σ)->D.nx (σ.set i (some (.int n))) H
theorem Iz (hN:X.N.Nodup)(hi:X.N[i]?=some x)(hx:Loc X.env.scope x)(he:PE X e (tN Ca ga))(ho:OpR X (inplaceOp op) (rI P λi j=>.int (f i j)))
  (hf:X.fn x=true\/X.env.scope.names.lookup x=some .local:=by walk_at "w"):PS X (.AugAssign (.Name x pos') op e pos) (Pa i Ca ga P f):=
 λpins s σ H D I h=>ps_aug hN hi hx he ho hf pins s σ H D I ⟨_,h.1,h.2.1,_,_,rfl,rfl,h.2.2.1,h.2.2.2 _ rfl⟩
theorem wX:OpR X (inplaceOp .Add) (rI (λ_ _=>True) λi j=>.int (i+j)):=λpins s σ H x y v u Q I rx ry h=>by obtain⟨i,j,e1,e2,_,q⟩:=h;exact iop_add pins s σ H x y v u Q I rx ry ⟨i,j,e1,e2,q⟩
def HX (C:St->Hp->Prop)(p:St->Prop)(tb:TS):TS:=λD σ H=>∃(W:St->Hp->Prop) (μ:St->Hp->Nat),W σ H /\
 ∀σ H,W σ H->C σ H/\(p σ->tb { D with nx:=λσ' H'=>W σ' H'/\μ σ' H'<μ σ H,ct:=λσ' H'=>W σ' H'/\μ σ' H'<μ σ H,bk:=D.nx } σ H)/\(¬p σ->D.nx σ H)
theorem uE (hp:PassesOwn (model X.prog X.w) X.A X.env X.xe)(hc:PT X c (tP Ca pa))(hb:PSs X body tb):PS X (.While c body [] pos) (HX Ca pa tb):=
 λpins s σ H D I h=>ps_while hp hc hb pins s σ H D I (by
  obtain⟨W,μ,w0,st⟩:=h;refine while_by W μ w0 (λσ H w=>?_) (λσ H Q Q' m q=>⟨q.1,m _ _ q.2⟩);obtain⟨c1,c2,c3⟩:=st σ H w;refine⟨c1,?_⟩;by_cases c:pa σ
  ·rw[aM c];refine iteT ?_;exact c2 c
  ·rw[aH c];refine iteF ?_;exact c3 c)
end
section
variable {X:Cx}{b:Expr}{es:List Expr}{pos p1:Pos}{Cb C:St->Hp->Prop}{gb:St->Int}
theorem rD {ns:Li}{i:Int}(h0:0<=i)(h1:i<(ns.length:Int)):atI (ns.map V.int) i=some (V.int (ns.getD i.toNat 0)):=by
 have e:i=((i.toNat:Nat):Int):=by lia
 have l:i.toNat<ns.length:=by lia
 have q:atI (ns.map V.int) ((i.toNat:Nat):Int)=some (V.int (ns.getD i.toNat 0)):=atI_nat (by rw[au,aB l,gQ,aB l];rfl);rw[<- e]at q;exact q
def Oo (K:Fg)(j:Nat)(C:St->Hp->Prop)(g:St->Int):TE:=λσ H Q=>C σ H/\∃(a:Addr) (ns:List Int) (n:Int),σ[j]?=some (some (.ref a))/\SqL K H a (ns.map V.int)/\atI (ns.map V.int) (g σ)=some (.int n)/\Q (.int n) H
theorem IV (j:Nat)(hb:PE X b (tN C gb))(hs:PlainIx b)(hN:X.N[j]?=some x:=by rfl)(hv:Vis X.env.scope x:=by walk_at "v")
  (hd:(x == ("__debug__":Str))=false:=by decide) (hcd:(x == ("__classdict__":Str))=false:=by decide):PE X (.Subscript (.Name x px) b pos) (Oo X.K j C gb):=by
 intro pins s σ H Q I h;obtain⟨c,a,ns,n,e1,e2,e3,q⟩:=h;exact pe_ix ix_list (pe_var hN hv hd hcd) hb hs pins s σ H Q I ⟨_,e1,c,a,_,_,_,rfl,rfl,e2,e3,q⟩
theorem Jr (j:Nat)(a:Addr)(ns:Li){x:Str}{px:Pos}(hb:PE X b (tN C gb))(hs:PlainIx b)(hN:X.N[j]?=some x:=by rfl)(hv:Vis X.env.scope x:=by walk_at "v")
  (hd:(x == ("__debug__":Str))=false:=by decide) (hcd:(x == ("__classdict__":Str))=false:=by decide) :
  PE X (.Subscript (.Name x px) b pos) (tN (λσ H=>C σ H/\σ[j]?=some (some (.ref a))/\SqL X.K H a (ns.map V.int) /\ -(ns.length:Int)<=gb σ/\gb σ<(ns.length:Int)) (λσ=>ns.getD (if 0<=gb σ then gb σ else gb σ+ns.length).toNat 0)):=by
 intro pins s σ H Q I h;obtain⟨⟨c,e1,e2,b1,b2⟩,q⟩:=h;refine pe_ix ix_list (pe_var hN hv hd hcd) hb hs pins s σ H Q I ⟨_,e1,c,a,_,_,_,rfl,rfl,e2,?_,q⟩;show atI (ns.map V.int) (gb σ)=some (V.int (ns.getD (if 0<=gb σ then gb σ else gb σ+ns.length).toNat 0));by_cases c0:0<=gb σ
 ·rw[ae c0];exact rD c0 b2
 ·rw[af c0];have q2:=rD (ns:=ns) (i:=gb σ+ns.length) (by lia) (by lia);unfold atI ixN at q2 ⊢;rw[aa]at q2 ⊢;rw[ae (show 0<=gb σ+(ns.length:Int) by lia),ae (show gb σ+(ns.length:Int)<(ns.length:Int) by lia)]at q2;rw[af c0,ae b1];exact q2
theorem KY (j:Nat)(a:Addr)(xs:List V)(hm:X.mg "len"=none)(hN:X.N[j]?=some x:=by rfl)(hg:Gl X "len":=by rfl)(hv:Vis X.env.scope x:=by walk_at "v")
  (hd:(x == ("__debug__":Str))=false:=by decide) (hcd:(x == ("__classdict__":Str))=false:=by decide) (he:starEach [.Name x px] X.env=[(false,eval (.Name x px) X.env)]:=by rfl) :
  PE X (.Call (.Name "len" p) [.Name x px] [] pos) (tN (λσ H=>σ[j]?=some (some (.ref a))/\SqL X.K H a xs) (λ_=>(xs.length:Int))):=by
 intro pins s σ H Q I h;exact pe_callB call_len_seq hg hm PySem.boot_len (pa_cons (pe_var hN hv hd hcd) pa_nil he) (by decide) (by decide) he rfl pins s σ H Q I ⟨_,h.1.1,a,_,rfl,.inl h.1.2,h.2⟩
end
section
variable {X:Cx}{e:Expr}{es:List Expr}{pos p:Pos}{Ca Cb:St->Hp->Prop}{ga:St->Int}{gs:St->List Int}
theorem Ip:PA X [] (PX (λ_ _=>True) (λ_=>[])):=λpos pins s σ H Q I h=>pa_nil pos pins s σ H Q I h.2
theorem Ha (ha:PE X e (tN Ca ga))(hr:PA X es (PX Cb gs))(hs:starEach (e::es) X.env=(false,eval e X.env)::starEach es X.env:=by rfl):PA X (e::es) (PX (λσ H=>Ca σ H/\Cb σ H) (λσ=>ga σ::gs σ)):=
 λpos pins s σ H Q I h=>pa_cons ha hr hs pos pins s σ H Q I ⟨h.1.1,h.1.2,h.2⟩
end
def PP (n:Nat)(pre:List Int->Prop)(F:List Int->Bool):Sp:=λvs H Q _=>∃ns:List Int,ns.length=n/\vs=ns.map V.int/\pre ns/\Q (.bl (F ns)) H
structure Ok (P:Program)(w:World)(K:Fg)(mg:Mg)(base:Heap)(k:Nat)(x:Str)(ps:List Str)(sp:Sp):Prop where
 ex:∃f fd,FnOk P w K mg base CX0 k f fd ps sp/\Binds K fd ps []/\W.keepIn K (.ref f)=true/\mg x=some (.ref f)
theorem Ok.imp {P:Program}{w:World}{K:Fg}{mg:Mg}{base:Heap}{k:Nat}{x:Str}{ps:Ls}{sp sp':Sp}(o:Ok P w K mg base k x ps sp)(h:∀vs H Q E,sp' vs H Q E->sp vs H Q E):Ok P w K mg base k x ps sp':=by obtain⟨f,fd,a,b⟩:=o.ex;exact⟨f,fd,a.imp h,b⟩
section
variable {X:Cx}{e:Expr}{es:List Expr}{pos p:Pos}{j k:Nat}{x:Str}{ps:List Str}{sp:Sp}{t:TA}
theorem nj (o:Ok X.prog X.w X.K X.mg X.base j x ps sp)(hr:Room k X.A)(ha:PA X (e::es) t)(hj:j<=k:=by decide)(hg:Gl X x:=by rfl)(hdb:(x == ("__debug__":Str))=false:=by decide)
  (he:starEach (e::es) X.env=(false,eval e X.env)::starEach es X.env:=by rfl) (hpl:(backTo pos (starEach es X.env)).any (·.1)=false:=by rfl):PE X (.Call (.Name x p) (e::es) [] pos) (tCall sp [] E0 t):=by
 obtain⟨f,fd,F,b,kp,m⟩:=o.ex;exact pe_call (F.mono hj) hr hg m kp b .nil pass0 ha hdb he hpl
variable {C:St->Hp->Prop}{g:St->List Int}{n:Nat}{pre:List Int->Prop}
theorem Ij (o:Ok X.prog X.w X.K X.mg X.base j x ps (PP n pre F))(hr:Room k X.A)(ha:PA X (e::es) (PX C g))(hn:∀σ,(g σ).length=n:=by intro _;rfl)(hj:j<=k:=by decide)(hg:Gl X x:=by rfl)
  (hdb:(x == ("__debug__":Str))=false:=by decide) (he:starEach (e::es) X.env=(false,eval e X.env)::starEach es X.env:=by rfl) (hpl:(backTo pos (starEach es X.env)).any (·.1)=false:=by rfl) :
  PE X (.Call (.Name x p) (e::es) [] pos) (tV (λσ H=>C σ H/\pre (g σ)) (λσ=>F (g σ)=true)):=
 λpins s σ H Q I h=>nj o hr ha hj hg hdb he hpl pins s σ H Q I ⟨h.1.1,g σ,hn σ,by rw[aZ],h.1.2,by have q:=h.2;rw[b8]at q;exact q⟩
end
structure mL (K:Fg)(mg:Mg)(x:Str)(st:Stmt)(ps:List Str):Prop where
 ex:∃f fd,Fun K x x st f fd/\Binds K fd ps []/\mg x=some (.ref f)
section
variable {P:Program}{w:World}{K:Fg}{mg:Mg}{base:Heap}
theorem mL.ok {x:Str}{st:Stmt}{N ps:Ls}{k:Nat}{sp:Sp}(d:mL K mg x st ps)(S:FnScope N ps (defScope st))(len:∀vs H Q E,sp vs H Q E->vs.length=ps.length)
  (hbody:∀(f:Addr) (cdv:Value) (A:Around) (outer:List Env) (s:Shared) (H:Hp) (vs:List V) (Q:VK) (E:XK),Room k (A.deeper (envOfC x (defScope st) s.heap.objs.size f cdv))->sp vs H Q E ->
   ∃t,PSs (cxOf CX0 P w K mg base N x (defScope st) f cdv A outer s H E).nox (defBody st) t/\t { nx:=λ_ H'=>Q .non H',rt:=Q } (start N vs) H):Ok P w K mg base (k+1) x ps sp:=by
 obtain⟨f,fd,F,b,m⟩:=d.ex;exact⟨f,fd,F.ok S len λcdv A outer s H vs Q E hr h=>hbody f cdv A outer s H vs Q E hr h,b,F.kp,m⟩
theorem mL.mk' {x:Str}{st:Stmt}{ps:Ls}{f:Addr}{fd:FuncData}(F:Fun K x x st f fd)(b:Binds K fd ps [])(m:mg x=some (.ref f)):mL K mg x st ps:=⟨f,fd,F,b,m⟩
end
theorem MJ:bootBuiltins "int"=some (.type "int"):=by decide +kernel
theorem Jk:bootBuiltins "bool"=some (.type "bool"):=by decide +kernel
theorem vU:bootBuiltins "list"=some (.type "list"):=by decide +kernel
theorem Ht:bootBuiltins "tuple"=some (.type "tuple"):=by decide +kernel
theorem ut:bootBuiltins "ValueError"=some (.type "ValueError"):=by decide +kernel
theorem Gp:bootBuiltins "len"=some (.builtin "len"):=by decide +kernel
theorem oO:bootBuiltins "isinstance"=some (.builtin "isinstance"):=by decide +kernel
theorem Mp:bootBuiltins "max"=some (.builtin "max"):=by decide +kernel
def Hl:V->Option Value
 | .ty n=>some (.type n)
 | .ref a=>some (.ref a)
 |_=>none
theorem xG (h:Hl c=some cv)(r:RelV c u):u=cv:=by
 cases c with
 |ty n=>cases h;exact r
 |ref a=>cases h;exact r
 |non=>cases h
 |bl _=>cases h
 |int _=>cases h
 |str _=>cases h
 |byt _=>cases h
 |flt _=>cases h
section
variable {X:Cx}
theorem qM:CallR X (.builtin "isinstance") (λxs H Q=>∃x c t cv b,xs=[x,c]/\Hl c=some cv/\TyOf X.K H x t/\W.kitOne X.K t cv=some b/\Q (.bl b) H):=by intro pins s σ H xs us Q I r h;obtain⟨x,c,t,cv,b,rfl,hc,ty,e,q⟩:=h;obtain⟨u,w',rfl,r1,r2⟩:=vals2 r;obtain rfl:=xG hc r2;exact isinst_ok I r1 ty e λtk=>⟨.bl b,H,I.tok tk,rfl,q⟩
end
theorem Jd {ns:Li}(h:ns.length=1):∃a,ns=[a]:=match ns,h with | [a],_=>⟨a,rfl⟩
theorem Qn {ns:Li}(h:ns.length=2):∃a b,ns=[a,b]:=match ns,h with | [a,b],_=>⟨a,b,rfl⟩
theorem same_new (h:H p=none)(o:HO):Same H (upd H p o):=mR λb u q=>by rw[upd_ne (ne_of_none q h)];exact q
theorem bits_le (h:k.natAbs<2^n):Builtin.Int.intBits k<=n:=by
  unfold Builtin.Int.intBits;split
  . exact be _
  . have hk:k.natAbs≠0:=by
      rename_i c;intro z;apply c
      first | exact z | (have:k=0:=by omega
                         simp[this])|lia
    have:=(Nat.log2_lt hk).mpr h;lia
theorem qj (ha:a.natAbs<2^n)(hb:b.natAbs<2^m)(hn:n<=1048576:=by decide)(hm:m<=1048576:=by decide):IntMulOk a b:=
 .of_bits (aG (bits_le ha) (aG hn (by decide))) (aG (bits_le hb) (aG hm (by decide)))
theorem jZ (h:-(2^64)<b/\b<2^64):IntMulOk a b:=.of_right (intBits_le_64 h.1 h.2)
theorem o7 (h:-(2^64)<a/\a<2^64):IntMulOk a b:=.of_left (intBits_le_64 h.1 h.2)
abbrev Iw:Value->Shared->Prop:=λ_ _=>False
def uG (cs:List Expr)(ev:Env):Sem Bool:=forIn cs true λc r=>if r=true then do let ok <- isTrue c ev (eval c ev);pure (ForInStep.yield ok) else pure (ForInStep.yield r)
section
variable {P:Program}{w:World}{A:Around}{R:Result->Shared->Prop}{s:Shared}
theorem Dc (I:Nat->Shared->Prop)
  (turn:∀n s,I n s->wpAny (model P w) A (pyNext it) (λr s1=>(r=none/\R (.ok .next) s1)\/∃v,r=some v /\
   wpAny (model P w) A (letOwnedTupleGo tg it v) (λ_ s2=>wpAny (model P w) A (assign tg ev v) (λ_ s3=>wpAny (model P w) A (uG cs ev) (λok s4=>
    if ok=true then wpAny (model P w) A (eval el ev) (λx s5=>wpAny (model P w) A (call (.builtin "list.append") [acc,x]) (λ_ s6=>∃m,m<n/\I m s6) Iw s5) Iw s4
    else ∃m,m<n/\I m s4) Iw s3) Iw s2) Iw s1) Iw s)
  (n:Nat) (h:I n s):codeAny (model P w) A (.compLoop (.ListComp el [⟨tg,src,cs,0⟩] sc at') 0 it acc ev) R s:=by
 refine codeAny_loop rfl I (λn s hI=>?_) n h;refine wpAny_noted (wpAny_noRaise ?_);rw[compTurn_list];refine ak (wpAny_standAt (ak (thn (turn n s hI) λr s1 h1=>?_)));rcases h1 with⟨rfl,h1⟩|⟨v,rfl,h1⟩
 ·exact aV h1
 ·refine ak (thn h1 λ_ s2 h2=>ak (thn h2 λ_ s3 h3=>ak (thn h3 λok s4 h4=>?_)));cases ok with
  |false=>exact aV ⟨rfl,h4⟩
  |true=>exact ak (ak (thn h4 λx s5 h5=>ak (thn h5 λ_ s6 h6=>aV (aV ⟨rfl,h6⟩))))
end
def lX (X:Cx)(sc:Scope)(cl:List (Str×Addr)):List Str->List (Option Nat)->Prop
 |[],[]=>True
 |_::xs,none::cs=>lX X sc cl xs cs
 |x::xs,some i::cs=>(X.N[i]?=some x/\Vis X.env.scope x/\X.env.kindOf x≠some .local/\((relabel sc X.env).names.lookup x=some .cell\/(relabel sc X.env).names.lookup x=some .free)/\∃c,cl.lookup x=some c/\X.env.cells.lookup x=some c)/\lX X sc cl xs cs
 |_,_=>False
def yR (ev:Env):List (Str×Addr)->Prop
 |[]=>True
 |(x,c)::r=>ev.cells.lookup x=some c/\yR ev r
theorem yR.look:∀{cl:List (Str×Addr)},yR ev cl->∀{x:Str} {c:Addr},cl.lookup x=some c->ev.cells.lookup x=some c
 |[],_,x,c,h=>by simp at h
 |(y,d)::r,q,x,c,h=>by
  rw[List.lookup_cons]at h;cases e:x == y with
  |true=>
   rw[e]at h;have e':x=y:=by simpa using e
   subst e';cases h;exact q.1
  |false=>rw[e]at h;exact yR.look q.2 h
def mj (cap:List (Option Nat))(σ:St):St:=cap.map λo=>match o with
 |some i=>(σ[i]?).join
 |none=>none
def ie (X:Cx)(N':List Str)(sc:Scope)(cl:List (Str×Addr))(s:Shared)(H:Hp)(fp:List Addr):Cx:=
 { X with N:=N',s₀:=s,H₀:=H,env:=compEnvC sc cl s.heap.objs.size X.env,outer:=X.stack,ex:=fp,fn:=λ_=>false,pn:=[],xe:=Iw }
section
variable {X:Cx}{pins:List (Addr×Obj)}{σ:St}{H:Hp}{s:Shared}{N':List Str}{sc:Scope}{cl:List (Str×Addr)}{cap:List (Option Nat)}{fp:List Addr}
theorem lX.length {X:Cx}{sc:Scope}{cl:List (Str×Addr)}:∀{N':Ls} {cap:List (Option Nat)},lX X sc cl N' cap->cap.length=N'.length
 |[],[],_=>rfl
 |_::xs,none::cs,h=>by have:=lX.length (X:=X) (sc:=sc) (cl:=cl) (N':=xs) (cap:=cs) h;simp[this]
 |_::xs,some i::cs,h=>by have:=lX.length (X:=X) (sc:=sc) (cl:=cl) (N':=xs) (cap:=cs) h.2;simp[this]
 |[],_::_,h=>h.elim
 |_::_,[],h=>h.elim
theorem lX.at:∀{N':Ls} {cap:List (Option Nat)} {j:Nat},lX X sc cl N' cap->N'[j]?=some x->cap[j]?=some (some i) ->
  X.N[i]?=some x/\Vis X.env.scope x/\X.env.kindOf x≠some .local/\((relabel sc X.env).names.lookup x=some .cell\/(relabel sc X.env).names.lookup x=some .free)/\∃c,cl.lookup x=some c/\X.env.cells.lookup x=some c
 |[],[],j,_,h,_=>by simp at h
 |_::xs,none::cs,0,_,_,h=>by simp at h
 |_::xs,none::cs,j+1,q,h1,h2=>lX.at (N':=xs) (cap:=cs) (j:=j) q (by simpa using h1) (by simpa using h2)
 |y::xs,some k::cs,0,q,h1,h2=>by
  have e1:y=x:=by simpa using h1
  have e2:k=i:=by simpa using h2
  subst e1 e2;exact q.1
 |_::xs,some _::cs,j+1,q,h1,h2=>lX.at (N':=xs) (cap:=cs) (j:=j) q.2 (by simpa using h1) (by simpa using h2)
 |[],_::_,_,h,_,_=>h.elim
 |_::_,[],_,h,_,_=>h.elim
theorem Inv.block (I:Inv X pins σ H s)(hk:sc.kind=.function)(hcap:lX X sc cl N' cap)(sub:yR X.env cl)
  (has:∀x,((relabel sc X.env).names.lookup x=some .cell\/(relabel sc X.env).names.lookup x=some .free)->∃c,cl.lookup x=some c)
  (hf:∀b∈fp,FpOk X pins H b) (hfo:∀b∈fp,∃o,s.heap.get? b=some o) (hns:h'.Ns s.heap.objs.size m) (hsb:Heap.SameBut s.heap.objs.size (s.heap.push o) h') :
  Inv (ie X N' sc cl s H fp) [] (mj cap σ) H { s with heap:=h',toks:=tk }:=by
 have keep:∀b u,s.heap.get? b=some u->h'.get? b=some u:=λb u e=>
  (hsb.2 b (aO (ai e))).trans (ah _ e)
 refine⟨⟨I.ok.mod,hk,I.ok.glob,I.ok.blt,aj _,λx y c h1 h2=>I.ok.inj x y c (sub.look h1) (sub.look h2),has,(λx c h _=>nomatch h),I.ok.hd,I.ok.frames,.inl rfl,
  λb hb=>⟨?_,λx c e=>(hf b hb).2.2.2.2.1 x c (sub.look e)⟩,I.bs,aG I.ok.bsz I.sz,λb u e hb=>?_,λb hb hb'=>?_,I.stack,I.env0.frf⟩,
  rfl,I.bare,Un.kept keep,⟨m,hns,λj x v h1 h2 h3=>?_⟩,λx c e=>?_,I.hok.fresh (aj _),λx c e=>I.freeC x c (sub.look e),λp hp=>absurd (show p∈([]:List (Addr×Obj)) from hp) (by simp),I.hok.kept keep,?_⟩
 ·obtain⟨u,e⟩:=hfo b hb;exact aO (ai e)
 ·rcases (hf b hb).2.2.2.1 with z|z
  ·exact I.ok.noex b u e z
  ·exact absurd (ay (ai e) (aG I.ok.bsz z)) (bC _)
 ·rcases az.mp (I.stkSub b hb') with z|z
  ·exact(hf b hb).2.1 z
  ·exact(hf b hb).2.2.1 z
 ·obtain⟨m0,hn0,hl0⟩:=I.loc;have h2':((cap.map λo=>match o with|some i=>(σ[i]?).join|none=>none):St)[j]?=some (some v):=h2
  rw[au]at h2';cases e:cap[j]? with
  |none=>rw[e]at h2';cases h2'
  |some oi=>
   rw[e]at h2';cases oi with
   |none=>cases h2'
   |some i=>
    have h4:(σ[i]?).join=some v:=aw h2';have h5:σ[i]?=some (some v):=by
     cases z:σ[i]? with
     |none=>rw[z]at h4;cases h4
     |some y=>rw[z]at h4;cases h4;rfl
    obtain⟨a1,a2,a3,a4,c,a5,a6⟩:=hcap.at h1 e;obtain⟨u,r,l⟩:=hl0 i x v a1 h5 a2;refine⟨u,r,.inr ⟨a4,c,a5,?_⟩⟩;rcases l with⟨k,_⟩|⟨_,c',e',ic⟩
    ·exact absurd k a3
    ·rw[a6]at e';cases e';obtain⟨oc,h7,h8⟩:=ic;exact⟨oc,keep _ _ h7,h8⟩
 ·obtain⟨v,oc,h7,h8⟩:=I.cell x c (sub.look e);exact⟨v,oc,keep _ _ h7,h8⟩
 ·unfold mj;rw[aa];exact hcap.length
theorem Inv.JF (I:Inv X pins σ H s)(hf:∀b∈fp,FpOk X pins H b)(J:Inv (ie X N' sc cl s H fp) pins' σ' H' s'):Inv X pins σ H' s':=
 I.call' (ch:=fp) J.os J.base J.hok J.bare λb hb=>⟨(hf b hb).2.2.2.1,(hf b hb).2.1,(hf b hb).2.2.2.2.1,(hf b hb).2.2.2.2.2⟩
end
def um:St->St->Prop
 |[],[]=>True
 |none::a,_::b=>um a b
 |some v::a,y::b=>y=some v/\um a b
 |_,_=>False
theorem um.at:∀{a b:St},um a b->∀(i:Nat) (v:V),a[i]?=some (some v)->b[i]?=some (some v)
 |[],[],_,i,v,h=>by simp at h
 |none::a,_::b,q,0,v,h=>by simp at h
 |none::a,_::b,q,i+1,v,h=>by have:=um.at (a:=a) (b:=b) q i v (by simpa using h);simpa using this
 |some u::a,y::b,q,0,v,h=>by
  have e:u=v:=by simpa using h
  rw[q.1,e];rfl
 |some u::a,y::b,q,i+1,v,h=>by have:=um.at (a:=a) (b:=b) q.2 i v (by simpa using h);simpa using this
 |[],_::_,q,_,_,_=>q.elim
 |none::_,[],q,_,_,_=>q.elim
 |some _::_,[],q,_,_,_=>q.elim
def Ph (X:Cx)(cs:List Expr)(t:TT):Prop:=
 ∀(pins:List (Addr×Obj)) (s:Shared) (σ:St) (H:Hp) (Q:Bool->Hp->Prop),Inv X pins σ H s->t σ H Q->wpAny (model X.prog X.w) X.A (uG cs X.env) (TP X pins σ Q) X.xe s
theorem vN:Ph X [] (λ_ H Q=>Q true H):=λ_ _ _ H _ I h=>wpAny_tests_nil ⟨H,I,h⟩
theorem Jh (h:PT X c t):Ph X [c] t:=λpins s σ H Q I q=>wpAny_tests_one (h pins s σ H Q I q)
def P0 (D:Addr)(J:It)(σ:St)(g:TG)(tt:TT)(te:TE)(Q:VK)(W:Nat->Nat->List V->Hp->Prop):Prop:=
 ∀i m ys H,W i m ys H->H D=some (.lst ys)/\ys.length<sizeLine /\
  ((J.stop i H/\Q (.ref D) H)\/(J.go i H/\∀x H',J.yld i H x H' -> g x σ H' λσ2 H2=>um σ σ2/\tt σ2 H2 λok H3=>
   if ok=true then te σ2 H3 λy H4=>H4 D=some (.lst ys)/\∃m',m'<m/\W (i+1) m' (ys++[y]) (upd H4 D (.lst (ys++[y])))
   else ∃m',m'<m/\W (i+1) m' ys H3))
def Ot (cap:List (Option Nat))(wi:TI)(g:TG)(tt:TT)(te:TE):TE:=λσ H Q=>wi σ H λJ H1=>∀D,H1 D=none->∃W:Nat->Nat->List V->Hp->Prop,(∃m,W 0 m [] (upd H1 D (.lst [])))/\P0 D J (mj cap σ) g tt te Q W
section
variable {X:Cx}{pins:List (Addr×Obj)}{σ:St}{H:Hp}{s:Shared}{N':List Str}{sc:Scope}{cl:List (Str×Addr)}{cap:List (Option Nat)}{fp:List Addr}
 {el tg src:Expr} {cs:List Expr} {at':Pos} {g:TG} {tt:TT} {te:TE} {J:It} {it:Addr} {tn:Nat->Heap->Prop} {Q:VK}
structure wV (X:Cx)(N':List Str)(sc:Scope)(cl:List (Str×Addr))(cap:List (Option Nat)):Prop where
 kind:sc.kind=.function
 clos:closureFor sc X.env=pure cl
 nocell:∀y∈sc.names,y.2 ≠ .cell
 names:∀y∈sc.names,y.2=.local->sc.names.lookup y.1=some .local
 cap:lX X sc cl N' cap
 sub:yR X.env cl
 has:∀x,((relabel sc X.env).names.lookup x=some .cell\/(relabel sc X.env).names.lookup x=some .free)->∃c,cl.lookup x=some c
theorem zV (kind:sc.kind=.function)(clos:closureFor sc X.env=pure cl)(h1:(sc.names.all λy=>y.2 != .cell)=true)(h2:(sc.names.all λy=>y.2 != .local || sc.names.lookup y.1 == some .local)=true)
  (hcap:lX X sc cl N' cap) (sub:yR X.env cl) (h3:((relabel sc X.env).names.all λy=>(y.2 != .cell && y.2 != .free) || (cl.lookup y.1).isSome)=true):wV X N' sc cl cap:=by
 refine⟨kind,clos,λy hy e=>?_,λy hy e=>?_,hcap,sub,λx hx=>?_⟩
 ·have q:=cA.mp h1 y hy;rw[e]at q;exact absurd q (by decide)
 ·have q:=cA.mp h2 y hy;rw[e]at q;simpa using q
 ·have key:∀k,(k=NameKind.cell\/k=NameKind.free)->(relabel sc X.env).names.lookup x=some k->∃c,cl.lookup x=some c:=λk hk e=>by
   have q:=cA.mp h3 _ (bZ e);rcases hk with rfl|rfl
   ·exact bQ.mp (by simpa using q)
   ·exact bQ.mp (by simpa using q)
  rcases hx with e|e
  ·exact key _ (.inl rfl) e
  ·exact key _ (.inr rfl) e
theorem vf (L:wV X N' sc cl cap)(hc:X.calm=true)(I:Inv X pins σ H s)(T:Turn X.prog X.w X.K tg J fp it tn)(st:tn 0 s.heap)(hf:∀b∈fp,FpOk X pins H b)
  (hg:∀s H fp,PG (ie X N' sc cl s H fp) tg g) (ht:∀s H fp,Ph (ie X N' sc cl s H fp) cs tt) (he:∀s H fp,PE (ie X N' sc cl s H fp) el te)
  (rd:∀D,H D=none->∃W:Nat->Nat->List V->Hp->Prop,(∃m,W 0 m [] (upd H D (.lst [])))/\P0 D J (mj cap σ) g tt te Q W)
  {Ex:Value->Shared->Prop} {RR:Value->Addr->Result->Shared->Prop} (hR:∀D C m H' s',Inv X pins σ H' s' -> s'.heap.Ns C m->FpOk X pins H' C->Q (.ref D) H' -> RR (.ref D) C (.ok .next) s') :
  wpAny (model X.prog X.w) X.A (newList []) (λacc s3=>wpAny (model X.prog X.w) X.A (newFunctionEnv sc X.env.globals cl [] X.env.qual none .none (some X.env)) (λcv s4=>
   codeAny (model X.prog X.w) X.A (.compStart (.ListComp el [⟨tg,src,cs,0⟩] sc at') 0 (.ref it) acc { cv with scope:=relabel sc X.env }) (RR acc cv.locals) s4) Ex s3) Ex s:=by
 obtain⟨W,⟨m0,w0⟩,step⟩:=rd _ I.fresh;refine wpAny_newObj_type (wpAny_newFunctionEnv L.nocell (by intro y hy;simp at hy) (λh1 hns hsb=>?_) L.kind);have I3:Inv X pins σ (upd H s.heap.objs.size (.lst [])) { s with heap:=s.heap.push { cls:=.type "list",dict:=none,data:=.seq ([]:List Value).toArray } }:=I.lnew (its:=[]) (t':=s.toks) .nil (by show 0<=sizeLine;decide);have hfo:∀b∈fp,∃o,s.heap.get? b=some o:=λb hb=>let ⟨o,e,_⟩:=T.obj 0 s.heap st b hb;⟨o,e⟩
 have hf3:∀b∈fp,FpOk X pins (upd H s.heap.objs.size (.lst [])) b:=λb hb=>by obtain⟨o,e⟩:=hfo b hb;exact⟨by rw[upd_ne (aO (ai e))];exact(hf b hb).1,(hf b hb).2⟩
 dsimp only at hns hsb ⊢;generalize hs3:({ s with heap:=s.heap.push { cls:=.type "list",dict:=none,data:=.seq ([]:List Value).toArray } }:Shared)=s3 at I3 hns hsb ⊢;have hh3:s3.heap=s.heap.push { cls:=.type "list",dict:=none,data:=.seq ([]:List Value).toArray }:=by rw[<- hs3]
 have hns:h1.Ns s3.heap.objs.size (λx=>List.lookup x ([]:List (Str×Value)).reverse):=by rw[hh3];exact hns
 have hsb:Heap.SameBut s3.heap.objs.size (s3.heap.push { cls:=.type (if (some X.env).isSome=true then "dict" else "frame"),data:=.dict #[] }) h1:=by rw[hh3];exact hsb
 have hk3:∀b o,s.heap.get? b=some o->s3.heap.get? b=some o:=λb o e=>by rw[hh3];exact ah _ e
 have J0:=I3.block (N':=N') (cap:=cap) (fp:=fp) (tk:=s3.toks+([]:List (Str×Value)).length) L.kind L.cap L.sub L.has hf3 (λb hb=>let ⟨o,e⟩:=hfo b hb;⟨o,hk3 b o e⟩) hns hsb
 have st1:tn 0 h1:=T.keep 0 s.heap h1 st λb hb o e=>(hsb.2 b (aO (ai (hk3 b o e)))).trans (ah _ (hk3 b o e));have fpx:∀{H':Hp},(∀b∈fp,H' b=none)->∀b∈fp,FpOk (ie X N' sc cl s3 (upd H s.heap.objs.size (.lst [])) fp) [] H' b:=λhn b hb=>by
  obtain⟨o,e⟩:=hfo b hb;refine⟨hn b hb,aO (ai (hk3 b o e)),λhb'=>?_,.inl hb,λx c q=>(hf b hb).2.2.2.2.1 x c (L.sub.look q),λp hp=>absurd (show p∈([]:List (Addr×Obj)) from hp) (by simp)⟩;rcases az.mp (I.stkSub b hb') with z|z
  ·exact(hf b hb).2.1 z
  ·exact(hf b hb).2.2.1 z
 have loop:∀s4:Shared,s4={ s3 with heap:=h1,toks:=s3.toks+([]:List (Str×Value)).length } ->
   codeAny (model X.prog X.w) X.A (.compLoop (.ListComp el [⟨tg,src,cs,0⟩] sc at') 0 (.ref it) (.ref s.heap.objs.size) (compEnvC sc cl s3.heap.objs.size X.env)) (RR (.ref s.heap.objs.size) s3.heap.objs.size) s4:=by
  rintro s4 rfl;refine Dc (λn s'=>∃i ys H',Inv (ie X N' sc cl s3 (upd H s.heap.objs.size (.lst [])) fp) [] (mj cap σ) H' s'/\tn i s'.heap/\(∀b∈fp,H' b=none)/\W i n ys H') ?_ m0 ⟨0,[],_,J0,st1,λb hb=>(hf3 b hb).1,w0⟩;rintro n s' ⟨i,ys,H',Ji,sti,fri,wi⟩;obtain⟨hD,hlen,hgo⟩:=step i n ys H' wi;rcases hgo with⟨hstop,hq⟩|⟨hgo,hbody⟩
  ·refine thn (T.done (ie X N' sc cl s3 (upd H s.heap.objs.size (.lst [])) fp) rfl rfl rfl hc i [] s' _ H' Iw Ji (fpx fri) sti hstop) λr s1 ⟨hr,J1⟩=>.inl ⟨hr,?_⟩;obtain⟨m1,hm1,_⟩:=J1.loc;exact hR _ _ m1 H' s1 (I3.JF hf3 J1) hm1 (I3.fpOk (aj _) J1.free) hq
  ·refine thn (T.item (ie X N' sc cl s3 (upd H s.heap.objs.size (.lst [])) fp) rfl rfl rfl hc i [] s' _ H' Iw Ji (fpx fri) sti hgo) λr s1 ⟨u,hr,h4⟩=>.inr ⟨u,hr,thn h4 λ_ s5 ⟨x,H5,J5,r5,y5,st5,fr5⟩=>?_⟩;have J5':=J5.pinned (fpx fr5) (T.obj _ _ st5);refine thn (hg _ _ _ _ s5 _ H5 x u _ J5' r5 (hbody x H5 y5)) λ_ s6 ⟨σ6,H6,J6,ext,q6⟩=>?_;have endT:∀{ys':List V} {H7:Hp} {s7:Shared} {m':Nat},Inv (ie X N' sc cl s3 (upd H s.heap.objs.size (.lst [])) fp) ([]++pinsAt fp s5.heap) σ6 H7 s7->m'<n->W (i+1) m' ys' H7 ->
     ∃m,m<n/\∃i ys H',Inv (ie X N' sc cl s3 (upd H s.heap.objs.size (.lst [])) fp) [] (mj cap σ) H' s7/\tn i s7.heap/\(∀b∈fp,H' b=none)/\W i m ys H':=λ{ys' H7 s7 m'} J7 hm w7=>by
    refine⟨m',hm,i+1,ys',H7,(J7.unpinned).weak ?_ λj v z=>ext.at j v z,T.keep _ _ _ st5 λb hb o e=>(J7.pin (b,o) (aC _ (aC _ (mem_pinsAt hb e)))).1,λb hb=>?_,w7⟩
    ·rw[J7.len,Ji.len]
    ·obtain⟨o,e,_⟩:=T.obj _ _ st5 b hb;exact(J7.pin (b,o) (aC _ (aC _ (mem_pinsAt hb e)))).2.1
   refine thn (ht _ _ _ _ s6 _ H6 _ J6 q6) λok s7 ⟨H7,J7,q7⟩=>?_;cases ok with
   |false=>obtain⟨m',hm,w7⟩:=q7;exact endT J7 hm w7
   |true=>refine thn (he _ _ _ _ s7 _ H7 _ J7 q7) λy s8 ⟨yv,H8,J8,r8,hD8,m',hm,w8⟩=>?_;exact thn (mt_append _ s8 _ H8 (.ref s.heap.objs.size) [yv] (.ref s.heap.objs.size) [y] (λv H9=>H9=upd H8 s.heap.objs.size (.lst (ys++[yv]))) J8 rfl (.cons r8 .nil) ⟨_,ys,yv,rfl,rfl,hD8,hlen,rfl⟩) λ_ s9 ⟨_,H9,J9,_,e9⟩=>by subst e9;exact endT J9 hm w8
 subst hs3;exact codeAny_compStart_list (loop _ rfl) (T.self _ 0 _ _ _ st1 (loop _ rfl))
theorem FZ (L:wV X N' sc cl cap)(hc:X.calm=true)(hi:PI X tg src wi)(hg:∀s H fp,PG (ie X N' sc cl s H fp) tg g)(ht:∀s H fp,Ph (ie X N' sc cl s H fp) cs tt)(he:∀s H fp,PE (ie X N' sc cl s H fp) el te)
  (hs:∀x,foldedSetIterable src X.env x=pure x:=by intro _;rfl):PE X (.ListComp el [⟨tg,src,cs,0⟩] sc at') (Ot cap wi g tt te):=by
 intro pins s σ H Q I h;rw[eval_ListComp];refine wpAny_comprehension_free (use:=none) rfl hs L.clos L.kind L.names (thn (hi pins s σ H _ I h) λv s1 h1=>thn h1 λitv s2 h2=>?_);obtain⟨it,fp,tn,J,H2,rfl,I2,T,st2,f2,rd⟩:=h2;refine vf L hc I2 T st2 f2 hg ht he rd (RR:=λacc C=>compPost (model X.prog X.w) X.A X.xe none (EP X pins σ Q) acc C) λD C m H' s' J' hn fC q=>?_;refine⟨m,hn,λh' sb=>⟨.ref D,H',J'.turned (t':=s'.toks) (λb o hb e=>(sb.2 b hb).trans e) fC.1 fC.2.1 fC.2.2.2.1 fC.2.2.2.2.1 fC.2.2.2.2.2,rfl,q⟩⟩
theorem Np (hN:X.N.Nodup)(hi':X.N[i]?=some x)(hx:X.env.scope.names.lookup x=some .local)(L:wV X N' sc cl cap)(hc:X.calm=true)(hi:PI X tg src wi)(hg:∀s H fp,PG (ie X N' sc cl s H fp) tg g)
  (ht:∀s H fp,Ph (ie X N' sc cl s H fp) cs tt) (he:∀s H fp,PE (ie X N' sc cl s H fp) el te) (hsw:swapsWith (.ListComp el [⟨tg,src,cs,0⟩] sc at') (some (.Name x px)) spos.line X.env=pure true)
  (hs:∀x,foldedSetIterable src X.env x=pure x:=by intro _;rfl):PS X (.Assign [.Name x px] (.ListComp el [⟨tg,src,cs,0⟩] sc at') spos) (tAsg (Ot cap wi g tt te) (gName i)):=by
 intro pins s σ H D I h;rw[exec_Assign_Name_used _ _ _ _ hsw];refine ak (wpAny_standAt (ak ?_));refine ak (thn (wpAny_comprehension_free (use:=some (assign (.Name x px) X.env)) (Q:=λ_ s'=>SP X pins D .next s') rfl hs L.clos L.kind L.names (thn (hi pins s σ H _ I h) λv s1 h1=>thn h1 λitv s2 h2=>?_)) λ_ s' q=>aV (aV q));obtain⟨it,fp,tn,J,H2,rfl,I2,T,st2,f2,rd⟩:=h2;refine vf L hc I2 T st2 f2 hg ht he rd (RR:=λacc C=>compPost (model X.prog X.w) X.A X.xe (some (assign (.Name x px) X.env)) (λ_ s'=>SP X pins D .next s') acc C) λD' C m H' s' J' hn fC q=>?_;obtain⟨oC,es,ep,hoC,hdC,hr⟩:=hn;have Jp:Inv X (pins++[(C,oC)]) σ H' s':=J'.pins_of λp hp=>by
  rcases cI.mp hp with z|z
  ·exact J'.pin p (aC _ z)
  ·have e:p=(C,oC):=by simpa using z
   subst e;exact⟨hoC,fC.1,fC.2.1,fC.2.2.1,λv z=>by rw[hdC]at z;cases z⟩
 refine thn (pg_name (i:=i) hN hi' (.inl hx) (.inr hx) _ s' σ H' (.ref D') (.ref D') (λσ' H''=>D.nx σ' H'') Jp rfl q) λ_ s'' ⟨σ',H'',J2,q2⟩=>?_;obtain⟨p1,p2,p3,p4,p5⟩:=J2.pin (C,oC) (aC _ (aC _ (by simp)));refine⟨m,⟨oC,es,ep,p1,hdC,hr⟩,λh' sb=>⟨σ',H'',(J2.pins_of (pins':=pins) λp hp=>J2.pin p (aC _ (bT _ hp))).turned (t':=s''.toks) (λb o hb e=>(sb.2 b hb).trans e) p2 fC.2.1 fC.2.2.2.1 fC.2.2.2.2.1 fC.2.2.2.2.2,q2⟩⟩
end
theorem ObjOk.get (x:ObjOk P w H h a o):∃ob,h.get? a=some ob:=by
 cases o with
 |lst xs=>obtain⟨_,_,_,_,e⟩:=x;exact⟨_,e⟩
 |tup xs=>obtain⟨_,_,_,ob,e,_⟩:=x;exact⟨ob,e⟩
 |dK kvs=>obtain⟨_,_,_,_,o,_,_,e,_⟩:=x;exact⟨o,e⟩
 |dT kvs=>obtain⟨_,_,_,_,o,_,_,e,_⟩:=x;exact⟨o,e⟩
 |set S n=>obtain⟨o,_,_,_,e,_⟩:=x;exact⟨o,e⟩
 |ins C dx fs=>obtain⟨_,_,_,e,_⟩:=x;exact⟨_,e⟩
 |own y=>exact x
 |xd fs=>obtain⟨_,⟨o,_,_,e,_⟩,_⟩:=x;exact⟨o,e⟩
 |rng lo hi=>obtain⟨_,_,_,e⟩:=x;exact⟨_,e⟩
 |frz ob u=>obtain⟨e,_⟩:=x;exact⟨ob,e⟩
 |tbl ps=>exact⟨_,x.1⟩
 |met f y=>exact⟨_,(show h.get? a=some _ from x)⟩
 |ext φ=>obtain⟨_,e,_⟩:=x;exact e
structure PL (fr as:List Addr)(h h2:Heap)(a:Addr)(cls:Value):Prop where
 keep:∀b o,h.get? b=some o->b∉as->h2.get? b=some o
 slot:∀b o,b∈fr->h.get? b=some o->∃sl,h2.get? b=some { o with slots:=sl }
 ex:∃oe vs T oT ts,h2.get? a=some oe/\oe.cls=cls/\oe.dict=none/\oe.data=.fields vs/\vs[1]?=some (.ref T)/\h.get? T=none/\T≠a/\h2.get? T=some oT/\oT.data=.fields ts/\ts[3]?=some .none
theorem sJ (f:Array Value->Array Value)(o:Obj):(Obj.mapFields f o).dict=o.dict:=by unfold Obj.mapFields;split<;>rfl
section
variable {M:Model}{A:Around}{E:Value->Shared->Prop}{s:Shared}{base:Heap}{env:Env}{outer:List Env}{L a:Addr}{oe:Obj}{vs:Array Value}{as:List Addr}{Q:Unit->Shared->Prop}
theorem vd (hfr:A.frames=some (env::outer))(hl:s.heap.FunFrames base (env::outer))(hf:env.frame=some L)(he:s.heap.get? a=some oe)(hdn:oe.dict=none)(hd:oe.data=.fields vs)(hsz:1<vs.size)
  (haa:a∈as) (hfs:∀b∈frs (env::outer),b∈as) (h:∀h',PL (frs (env::outer)) as s.heap h' a oe.cls->Q () { s with heap:=h' }) :
  wpAny M A (do let x <- frameOf env;let pl <- entryPlaceOf L hadNext;let b <- EntryCells.newEntry head x .none (rawInt L) .none pl;setField (.ref a) 1 b) (λ_ s'=>wpAny M A (setFlight (.ref a) none) Q E s') E s:=by
 have hna:a∉frs (env::outer):=λz=>by obtain⟨_,o,e,d⟩:=hl.mem z;rw[he]at e;cases e;exact d vs hd
 refine ak (wpAny_frameOf_fun hfr hl hf λh1 so=>ak (wpAny_entryPlaceOf λpl hpl=>?_));unfold EntryCells.newEntry newFields;refine ak (wpAny_newObj_type ?_ (hpl.sizeOk5 _ _ _ _ _));have e1:h1.get? a=some oe:=(so.2.1 a hna).trans he;have nT:h1.objs.size≠a:=dz (ai e1);generalize hts:([head,Value.ref L,Value.none,rawInt L,Value.none]++(if pl.isEmpty then List.replicate 6 Value.none else pl)).toArray=ts;have lt3:3<ts.size:=by rw[<- hts];simp
 have e2:=ah (h:=h1) { cls:=.type "traceback",dict:=none,data:=.fields ts } e1;have t2:=aP h1 (o:={ cls:=.type "traceback",dict:=none,data:=.fields ts }) rfl;refine wpAny_setField e2 hd hsz ?_;have d3:=cg hd (·.setIfInBounds 1 (Value.ref h1.objs.size));have e3:=cf (Obj.mapFields (·.setIfInBounds 1 (Value.ref h1.objs.size))) e2 (cJ d3);have t3:=(aU (h1.push { cls:=.type "traceback",dict:=none,data:=.fields ts }) (Obj.mapFields (·.setIfInBounds 1 (Value.ref h1.objs.size))) (bP nT)).trans t2;refine wpAny_setFlight_none (vs:=vs.setIfInBounds 1 (.ref h1.objs.size)) e3 d3 (by simp[hsz]) t3 rfl lt3 (h _ ⟨λb o q nb=>?_,λb o q eb=>?_,?_⟩)
 ·have q1:h1.get? b=some o:=(so.2.1 b λz=>nb (hfs b z)).trans q;have ba:b≠a:=λz=>nb (z ▸ haa);rw[aU _ _ (dz (ai q1)),aU _ _ (bP ba)];exact ah _ q1
 ·obtain⟨sl,q1⟩:=so.2.2 b o eb;have ba:b≠a:=λz=>hna (z ▸ q);refine⟨sl,?_⟩;rw[aU _ _ (dz (ai q1)),aU _ _ (bP ba)];exact ah _ q1
 ·refine⟨_,_,h1.objs.size,_,_,(aU _ _ nT).trans e3,Obj.cls_mapFields _ _,?_,d3,by simp[hsz],?_,nT,cf _ t3 (cJ (cg rfl _)),cg rfl _,by simp[lt3]⟩
  ·rw[sJ];exact hdn
  ·cases q:s.heap.get? h1.objs.size with
   |none=>rfl
   |some o=>obtain⟨sl,q1⟩:=so.2.2 _ o q;exact absurd (ai q1) (bC _)
theorem zM (hfr:A.frames=some (env::outer))(hl:s.heap.FunFrames base (env::outer))(hf:env.frame=some L)(he:s.heap.get? a=some oe)(hdn:oe.dict=none)(hd:oe.data=.fields vs)(h1:vs[1]?=some .none)
  (haa:a∈as) (hfs:∀b∈frs (env::outer),b∈as) (h:∀h',PL (frs (env::outer)) as s.heap h' a oe.cls->Q () { s with heap:=h' }) :
  wpAny M A (noteFrame (.ref a) env) (λ_ s'=>wpAny M A (setFlight (.ref a) none) Q E s') E s:=by
 unfold noteFrame;simp only[hf];refine ak (wpAny_field he hd h1 ?_);rw[af (by decide)];exact vd hfr hl hf he hdn hd (ce.mp h1).1 haa hfs h
theorem uM (hfr:A.frames=some (env::outer))(hl:s.heap.FunFrames base (env::outer))(hf:env.frame=some L)(he:s.heap.get? a=some oe)(hdn:oe.dict=none)(hd:oe.data=.fields vs)(h1:vs[1]?=some (.ref T))
  (hTa:T≠a) (hT:s.heap.get? T=some oT) (hdT:oT.data=.fields ts) (h3:ts[3]?=some .none)
  (haa:a∈as) (hTT:T∈as) (hfs:∀b∈frs (env::outer),b∈as) (h:∀h',PL (frs (env::outer)) as s.heap h' a oe.cls->Q () { s with heap:=h' }) :
  wpAny M A (noteFrame (.ref a) env) (λ_ s'=>wpAny M A (setFlight (.ref a) none) Q E s') E s:=by
 unfold noteFrame;simp only[hf];refine ak (wpAny_field he hd h1 ?_);rw[ae (show(Value.ref T != Value.none)=true from by simp)];refine ak (wpAny_field hT hdT h3 ?_);rw[af (show ¬((Value.none == rawInt L)=true) from by simp[rawInt])];refine ak (wpAny_setField hT hdT (ce.mp h3).1 ?_);have nT:T∉frs (env::outer):=λz=>by obtain⟨_,o,e,d⟩:=hl.mem z;rw[hT]at e;cases e;exact d ts hdT
 have oth:∀b,b≠T->(s.heap.update T (Obj.mapFields (·.setIfInBounds 3 Value.none))).get? b=s.heap.get? b:=λb hb=>aU _ _ (bP hb);have selfT:=cf (Obj.mapFields (·.setIfInBounds 3 Value.none)) hT (cJ (cg hdT _));refine vd hfr (hl.of_keeps λb o hb hnf=>⟨o,(oth b (λz=>by rw[z,hT]at hb;cases hb;exact hnf ts hdT)).trans hb,rfl⟩) hf ((oth a (bP hTa)).trans he) hdn hd (ce.mp h1).1 haa hfs λh' q=>h h' ⟨λb o e nb=>?_,λb o z e=>?_,?_⟩
 ·exact q.keep b o ((oth b λz=>nb (z ▸ hTT)).trans e) nb
 ·exact q.slot b o z ((oth b λy=>nT (y ▸ z)).trans e)
 ·obtain⟨oe',vs',T',oT',ts',x1,x2,x3,x4,x5,x6,x7⟩:=q.ex;refine⟨oe',vs',T',oT',ts',x1,x2,x3,x4,x5,?_,x7⟩;rw[<- oth T' (λz=>by rw[z,selfT]at x6;cases x6)];exact x6
end
structure M9 (h0:Heap)(H:Hp)(h:Heap)(a:Addr)(cls:Value):Prop where
 ex:∃oe vs T oT ts,h.get? a=some oe/\oe.cls=cls/\oe.dict=none/\oe.data=.fields vs/\vs[1]?=some (.ref T)/\T≠a/\h.get? T=some oT/\oT.data=.fields ts/\ts[3]?=some .none/\H T=none/\h0.get? T=none
 un:H a=none
 new:h0.get? a=none
def xx (P:Program)(w:World):CXT:=λouter H s E e s'=>∃a cls H',e=.ref a/\s'.os=s.os/\AllBare s'.gens/\Un (frs outer) [] H H' s.heap s'.heap/\HOk P w H' s'.heap/\M9 s.heap H' s'.heap a cls/\E cls none H'
section
variable {X:Cx}{pins:List (Addr×Obj)}{σ:St}{H1 H':Hp}{s1 s':Shared}{a:Addr}{cls:Value}{E:XK}
theorem m7 {base h h':Heap}:∀{l:List Env},h.FunFrames base l->(∀b∈frs l,∀o,h.get? b=some o->∃sl,h'.get? b=some { o with slots:=sl })->h'.FunFrames base l
 |[],_,_=>tT
 |ev::r,hl,k=>by
  obtain⟨hk,⟨L,o,hf,hn,ho,hd⟩,hr⟩:=hl;have e:frs (ev::r)=L::frs r:=by unfold frs;rw[aJ,hf]
  obtain⟨sl,q⟩:=k L (by rw[e];exact ag) o ho;exact⟨hk,⟨L,_,hf,hn,q,hd⟩,m7 hr λb hb=>k b (by rw[e];exact ac _ hb)⟩
theorem Inv.zu (I:Inv X pins σ H1 s1)(u:Un (frs X.stack) [] H1 H' s1.heap s'.heap):s'.heap.FunFrames X.base X.stack:=
 m7 I.stack λb hb o e=>u.slot b o e (I.stkFree b hb) hb (by simp)
theorem vo (I:Inv X pins σ H1 s1)(hst:X.stack=X.env::X.outer)(hfr:X.env.frame=some X.env.locals)(hex:X.ex=[])(ho:s'.os=s1.os)(hb:AllBare s'.gens)
  (u:Un (frs X.stack) [] H1 H' s1.heap s'.heap) (hok:HOk X.prog X.w H' s'.heap) (has:∀b∈as,b∈frs X.stack\/(H' b=none/\s1.heap.get? b=none)) (hfs:∀b∈frs X.stack,b∈as) (haa:a∈as) (hna:H' a=none/\s1.heap.get? a=none)
  (L:PL (frs X.stack) as s'.heap h2 a cls) (hE:E cls none H'):xx X.prog X.w X.outer X.H₀ X.s₀ E (.ref a) { s' with heap:=h2 }:=by
 have hfs':frs X.stack=X.env.locals::frs X.outer:=by rw[hst];unfold frs;rw[aJ,hfr]
 have noex:∀b:Addr,b∉X.ex:=λb=>by rw[hex];simp
 have FF:=I.zu u;have keep2:=L.keep;have slot2:=L.slot;have below:∀b o,X.s₀.heap.get? b=some o->b≠X.env.locals:=λb o e=>aO (ay (ai e) I.ok.above);have out:∀b o,s1.heap.get? b=some o->b∈as->b∈frs X.stack:=λb o e z=>by
  rcases has b z with q|⟨_,q⟩
  ·exact q
  ·rw[e]at q;cases q
 have here:∀b o,X.s₀.heap.get? b=some o->∃o',s1.heap.get? b=some o':=λb o e=>I.base.there b o e (noex b);obtain⟨oe,vs,T,oT,ts,he,hcls,hdi,hd,h1,hnT,hTe,hT,hdT,h3⟩:=L.ex;have hT0:T∈as\/s'.heap.get? T=none:=.inr hnT;have freeAs:∀b∈as,H' b=none:=λb z=>by
  rcases has b z with q|⟨q,_⟩
  ·obtain⟨_,o,e,_⟩:=I.stack.mem q;exact u.free b o e (I.stkFree b q) (by simp)
  ·exact q
 refine⟨a,cls,H',rfl,ho.trans I.os,hb,⟨λb o e n hbf _=>?_,λb o e n hbf _=>?_,λb o e n _=>?_,λb o e _=>?_,λb xs e=>u.tups b xs (I.base.tups b xs e),λb o v e=>u.frzs b o v (I.base.frzs b o v e),λb ps e=>?_⟩,λb o e=>?_,⟨⟨oe,vs,T,oT,ts,he,hcls,hdi,hd,h1,hTe,hT,hdT,h3,?_,?_⟩,hna.1,?_⟩,hE⟩
 ·have e1:=I.base.keep b o e n hbf (noex b);have n1:=I.base.free b o e n (noex b);have b1:b∉frs X.stack:=λz=>by rw[hfs']at z;exact(az.mp z).elim (below b o e) hbf
  exact keep2 b o (u.keep b o e1 n1 b1 (by simp)) λz=>b1 (out b o e1 z)
 ·obtain⟨sl1,e1⟩:=I.base.slot b o e n hbf (noex b);have n1:=I.base.free b o e n (noex b);have b1:b∈frs X.stack:=by rw[hfs'];exact ac _ hbf
  obtain⟨sl2,e2⟩:=u.slot b _ e1 n1 b1 (by simp);obtain⟨sl3,e3⟩:=slot2 b _ b1 e2;exact⟨sl3,e3⟩
 ·obtain⟨o1,e1⟩:=here b o e;exact u.free b o1 e1 (I.base.free b o e n (noex b)) (by simp)
 ·obtain⟨o1,e1⟩:=here b o e;obtain⟨o2,e2⟩:=u.there b o1 e1 (by simp);by_cases z:b∈as
  ·obtain⟨sl,e3⟩:=slot2 b o2 (out b o1 e1 z) e2;exact⟨_,e3⟩
  ·exact⟨o2,keep2 b o2 e2 z⟩
 ·obtain⟨m1,e1⟩:=I.base.tbls b ps e;obtain⟨m2,e2⟩:=u.tbls b _ e1;exact⟨m1++m2,by rw[e2,qY.append_assoc]⟩
 ·refine(hok b o e).stay (λc v hc q=>keep2 c v q λz=>?_) (λ_ q=>q) λ_ _ q=>q;have:=freeAs c z;rcases hc with rfl|hc
  ·rw[this]at e;cases e
  ·rw[this]at hc;cases hc
 ·rcases hT0 with z|z
  ·exact freeAs T z
  ·cases q:H' T with
   |none=>rfl
   |some v=>obtain⟨ob,e⟩:=(hok T v q).get;rw[z]at e;cases e
 ·cases q:X.s₀.heap.get? T with
  |none=>rfl
  |some o=>
   obtain⟨o1,e1⟩:=here T o q;obtain⟨o2,e2⟩:=u.there T o1 e1 (by simp);rcases hT0 with z|z
   ·obtain⟨sl,e3⟩:=slot2 T o2 (out T o1 e1 z) e2;obtain⟨_,o4,e4,d4⟩:=FF.mem (out T o1 e1 z);rw[e2]at e4;cases e4;rw[hT]at e3;cases e3;exact absurd hdT (d4 ts)
   ·rw[z]at e2;cases e2
 ·cases q:X.s₀.heap.get? a with
  |none=>rfl
  |some o=>obtain⟨o1,e1⟩:=here a o q;rw[hna.2]at e1;cases e1
theorem leave_new (I:Inv X pins σ H1 s1)(hst:X.stack=X.env::X.outer)(hfr:X.env.frame=some X.env.locals)(hex:X.ex=[])(ho:s'.os=s1.os)(hb:AllBare s'.gens)
  (u:Un (frs X.stack) [] H1 H' s1.heap s'.heap) (hok:HOk X.prog X.w H' s'.heap) (hna:H' a=none/\s1.heap.get? a=none) (he:s'.heap.get? a=some oe) (hc:oe.cls=cls) (hdi:oe.dict=none) (hd:oe.data=.fields vs) (h1:vs[1]?=some .none) (hE:E cls none H')
  (hQ:∀s2,xx X.prog X.w X.outer X.H₀ X.s₀ E (.ref a) s2->Q () s2):wpAny M X.A (leaving X.env (.ref a)) Q E' s':=by
 subst hc;have hA:X.A.frames=some (X.env::X.outer):=by rw[<- hst];exact I.ok.frames
 have FF:=I.zu u;refine ak (zM (as:=a::frs X.stack) hA (by rw[<- hst];exact FF) hfr he hdi hd h1 ag (λb z=>ac _ (by rw[hst];exact z)) λh2 L=>hQ _ ?_);rw[<- hst]at L;exact vo I hst hfr hex ho hb u hok (λb z=>(az.mp z).elim (λq=>.inr (by rw[q];exact hna)) .inl) (λb z=>ac _ z) ag hna L hE
theorem Hn (I:Inv X pins σ H1 s1)(hst:X.stack=X.env::X.outer)(hfr:X.env.frame=some X.env.locals)(hex:X.ex=[])(ho:s'.os=s1.os)(hb:AllBare s'.gens)
  (u:Un (frs X.stack) [] H1 H' s1.heap s'.heap) (hok:HOk X.prog X.w H' s'.heap) (F:M9 s1.heap H' s'.heap a cls) (hE:E cls none H')
  (hQ:∀s2,xx X.prog X.w X.outer X.H₀ X.s₀ E (.ref a) s2->Q () s2):wpAny M X.A (leaving X.env (.ref a)) Q E' s':=by
 obtain⟨oe,vs,T,oT,ts,he,hcls,hdi,hd,h1,hTe,hT,hdT,h3,hHT,hsT⟩:=F.ex;subst hcls;have hA:X.A.frames=some (X.env::X.outer):=by rw[<- hst];exact I.ok.frames
 have FF:=I.zu u;refine ak (uM (as:=a::T::frs X.stack) hA (by rw[<- hst];exact FF) hfr he hdi hd h1 hTe hT hdT h3 ag (ac _ ag) (λb z=>ac _ (ac _ (by rw[hst];exact z))) λh2 L=>hQ _ ?_);rw[<- hst]at L;refine vo I hst hfr hex ho hb u hok (λb z=>?_) (λb z=>ac _ (ac _ z)) ag ⟨F.un,F.new⟩ L hE;rcases az.mp z with q|z
 ·exact .inr (by rw[q];exact⟨F.un,F.new⟩)
 ·rcases az.mp z with q|z
  ·exact .inr (by rw[q];exact⟨hHT,hsT⟩)
  ·exact .inl z
end
theorem Og {P:Program}{w:World}{K:Fg}{mg:Mg}{base:Heap}{N:Ls}{qual:Str}{scope:Scope}{f:Addr}{cd:Value}{A:Around}{outer:List Env}{s:Shared}{H:Hp}{E:XK} :
  Passes (xx P w) (cxOf (xx P w) P w K mg base N qual scope f cd A outer s H E) E:=λpins σ H1 s1 e s' I h=>by
 obtain⟨a,cls,H',rfl,ho,hb,u,hok,F,hE⟩:=h;exact Hn I rfl rfl rfl ho hb u hok F hE (M:=model P w) (E':=λe' s2=>xx P w outer H s E e' s2) λs2 q=>q
abbrev Qw:List Value:=[.type "ValueError",.type "Exception",.type "BaseException",.type "object"]
abbrev xU (K:Fg)(C:Addr):Prop:=W.excIn K C Qw "ValueError.__new__"=true
theorem xU.facts {K:Fg}{h:Heap}{C:Addr}(X:K.In h)(q:xU K C):∃nm qn N bs bm hd sn sub ab col dd k0 k1 k2 k3 k5 mN,
  h.get? C=some (excClassObj nm qn C N bs bm hd sn sub ab col dd k0 k1 k2 k3 k5 "ValueError.__new__")/\h.Ns N mN/\mN "__init__"=none/\OwnTail h Qw bm:=by
 unfold xU W.excIn at q;split at q
 ·rename_i dd' cd' sl' hlk;split at q
  ·rename_i C2 bm2 j0 j1 j2 j3 n2 j5 em es;simp only[dF,fW,Bool.not_eq_true']at q;obtain⟨⟨⟨⟨⟨e1,e2⟩,e3⟩,e4⟩,e5⟩,e6⟩:=q;subst e1 e2;obtain⟨nm,bs,mr,ns,qn,hd,sn,sub,ab,col,del⟩:=cd';dsimp only at em e3 e5 e6;subst em e3;have e7:sl' = #[j0,j1,j2,j3,some (.builtin "ValueError.__new__"),j5]:=by obtain⟨l⟩:=sl';simp only at es;rw[es]
   subst e7;exact⟨nm,qn,ns,bs,bm2,hd,sn,sub,ab,col,dd',j0,j1,j2,j3,j5,_,X _ _ hlk,.of_isNs (W.isNs_of_in X e5),W.nsMap_none_of_in X e5 e6,W.tail_of_in X e4⟩
  ·cases q
 ·cases q
def Ey (X:Cx)(E:XK):Prop:=∀(pins:List (Addr×Obj)) (σ:St) (H:Hp) (s:Shared) (a:Addr) (cls:Value) (vs:List Value) (h':Heap),Inv X pins σ H s->Heap.MadeExcOf s.heap h' a cls vs->E cls none H->X.xe (.ref a) { s with heap:=h' }
theorem Inv.untracked (I:Inv X pins σ H s)(h:s.heap.get? a=none):H a=none:=by
 cases q:H a with
 |none=>rfl
 |some o=>obtain⟨ob,e⟩:=(I.hok a o q).get;rw[h]at e;cases e
theorem Nq {P:Program}{w:World}{K:Fg}{mg:Mg}{base:Heap}{N:Ls}{qual:Str}{scope:Scope}{f:Addr}{cd:Value}{A:Around}{outer:List Env}{s:Shared}{H:Hp}{E:XK} :
  Ey (cxOf (xx P w) P w K mg base N qual scope f cd A outer s H E) E:=λpins σ H1 s1 a cls vs h' I hm hE=>by
 obtain⟨t,e,_⟩:=hm.there;exact leave_new (s':={ s1 with heap:=h' }) I rfl rfl rfl rfl I.bare (Un.kept hm.keeps) (I.hok.kept hm.keeps) ⟨I.untracked hm.new,hm.new⟩ e rfl rfl rfl rfl hE (M:=model P w) (E':=λe' s2=>xx P w outer H s E e' s2) λs2 q=>q
def Mw (C:Addr)(E:XK)(t:TA):TS:=λ_ σ H=>t σ H λ_ H1=>E (.ref C) none H1
theorem GK {X:Cx}{E:XK}{x:Str}{np cpos pos:Pos}{e:Expr}{es:List Expr}{C:Addr}{t:TA}(hn:Ey X E)(hc:X.calm=true)(q:xU X.K C)(hg:Gl X x)(hm:X.mg x=some (.ref C))(ha:PA X (e::es) t)(hz:(e::es).length<=1000:=by decide)
  (hdb:(x == ("__debug__":Str))=false:=by decide) (he:starEach (e::es) X.env=(false,eval e X.env)::starEach es X.env:=by rfl) (hpl:(backTo cpos (starEach (e::es) X.env)).any (·.1)=false:=by rfl)
  (hl:∀σ H Q,t σ H Q->t σ H λvs H1=>vs.length=(e::es).length/\Q vs H1):PS X (.Raise (some (.Call (.Name x np) (e::es) [] cpos)) none pos) (Mw C E t):=by
 intro pins s σ H D I h;obtain⟨nm,qn,N,bs,bm,hd,sn,sub,ab,col,dd,k0,k1,k2,k3,k5,mN,hC,hns,hni,tl⟩:=q.facts I.ok.mod.kin;have hbase:bm.contains (.type "BaseException")=true:=tl.hasType (by decide +kernel);refine wpAny_Raise_call_subU (nm:=nm) (q:=qn) (C:=C) (N:=N) (bs:=bs) (bm:=bm) (hdct:=hd) (sn:=sn) (sub:=sub) (ab:=ab) (col:=col) (dd:=dd) (k0:=k0) (k1:=k1) (k2:=k2) (k3:=k3) (k5:=k5) (mN:=mN)
  dY (by decide +kernel) dY hbase (I.ok.hd hc) hpl hni (ld_glob I hg hm ⟨rfl,?_⟩ hdb)
 have ev:wpAny (model X.prog X.w) X.A (spliced (backTo cpos (starEach (e::es) X.env))) (AP X pins σ λvs H1=>vs.length=(e::es).length/\E (.ref C) none H1) X.xe s:=ha cpos pins s σ H _ I (hl σ H _ h);rw[he]at ev ⊢;refine dL (thn ev λus s1 ⟨vs,H1,I1,r,l1,q1⟩=>⟨rfl,?_,?_⟩)
 ·rw[<- r.length,l1];exact bM (small1000 hz)
 ·exact⟨I1.bk _ _ hC,hns.keeps I1.bk,tl.keeps I1.bk,λh' a hm'=>hn pins σ H1 s1 a (.ref C) _ h' I1 hm' q1⟩
structure Ax (K:Fg)(C:Addr)(m:Str)(f:Addr):Prop where
 ga:W.specialIn K (.ref C) "__getattribute__"=some (some (.builtin "type.__getattribute__"))
 rd:W.readsIn K C (.type "type")=true
 fc:W.findCls K (.ref C) (.type "type") m=some (.val (.ref f))
 kp:W.keepIn K (.ref f)=true
section
variable {X:Cx}{CX:CXT}{k:Nat}{f C:Addr}{fd:FuncData}{ps:List Str}{sp:Sp}{dvs:List V}{ds:List Value}{E:XK}{x m:Str}{p pos apos:Pos}{e o:Expr}{es:List Expr}{ta:TE}{t:TA}
theorem Jz (hg:Gl X x)(hm:X.mg x=some (.ref C))(c:Ax X.K C m f)(F:FnOk X.prog X.w X.K X.mg X.base CX k f fd ps sp)(hr:Room k X.A)(hb:Binds X.K fd ps ds)(hd:Vals dvs ds)(hx:Passes CX X E)(ha:PA X (e::es) t)
  (hdb:(x == ("__debug__":Str))=false:=by decide) (hst:starEach (e::es) X.env=(false,eval e X.env)::starEach es X.env:=by rfl) (hpl:(backTo pos (starEach es X.env)).any (·.1)=false:=by rfl)
  (ht:eval (.Call (.Attribute (.Name x p) m apos) (e::es) [] pos) X.env=(do
   let ov <- eval (.Name x p) X.env
   standAt apos.atName
   let (f,first) <- holding [ov] (getMethod ov m pl)
   callWith pos f first (backTo pos (starEach (e::es) X.env)) (backToKw pos (keywordEach [] X.env))):=by rfl):PE X (.Call (.Attribute (.Name x p) m apos) (e::es) [] pos) (tCall sp dvs E t):=by
 intro pins s σ H Q I h;refine fi (pl:=pl) (ld_glob I hg hm ?_ hdb) ht;refine W.method_cls I.kIn c.ga (W.cls_value I.kIn c.rd c.fc rfl ?_);have I':=I.tok (s.toks+1);refine de (first:=[]) (h₀:=X.base) I.ok.mod.kin c.kp (thn (ha pos pins _ σ H _ I' h) λus s1 ⟨vs,H1,I1,r,q⟩=>⟨I1.kIn,?_⟩) hst hpl
 exact run_fn F hr hb hd hx I1 r q
end
structure Ra (P:Program)(w:World)(K:Fg)(mg:Mg)(base:Heap)(CX:CXT)(k:Nat)(C:Addr)(m:Str)(ps:List Str)(sp:Sp):Prop where
 ex:∃f fd,FnOk P w K mg base CX k f fd ps sp/\Binds K fd ps []/\Meth K C m f/\Cls K C
def Qh (KA:Hp->Addr->Int->Prop)(a:Addr)(z:Int)(n:Nat)(pre:Int->List Int->Prop)(F:Int->List Int->Int):Sp:=λvs H Q _=>∃ns:List Int,ns.length=n/\vs=.ref a::ns.map V.int/\KA H a z/\pre z ns/\Q (.int (F z ns)) H
structure KM (P:Program)(w:World)(K:Fg)(mg:Mg)(base:Heap)(k:Nat)(KA:Hp->Addr->Int->Prop)(m:Str)(n:Nat)(pre:Int->List Int->Prop)(F:Int->List Int->Int):Prop where
 ex:∀H a z,KA H a z->∃C dx fs ps,H a=some (.ins C dx fs)/\fs.lookup m=none/\Ra P w K mg base CX0 k C m ps (Qh KA a z n pre F)
structure Q6 (P:Program)(w:World)(K:Fg)(mg:Mg)(base:Heap)(CX:CXT)(k:Nat)(x:Str)(C:Addr)(m:Str)(ps:List Str)(sp:Sp):Prop where
 ex:∃f fd,FnOk P w K mg base CX k f fd ps sp/\Binds K fd ps []/\Ax K C m f/\mg x=some (.ref C)
structure Qv (P:Program)(w:World)(K:Fg)(mg:Mg)(base:Heap)(CX:CXT)(k:Nat)(x:Str)(C:Addr)(ps:List Str)(sp:Sp):Prop where
 ex:∃f fd,FnOk P w K mg base CX k f fd ps sp/\Binds K fd ps []/\Mk K C f/\mg x=some (.ref C)
section
variable {X:Cx}{CX:CXT}{j k:Nat}{C:Addr}{ps:List Str}{sp:Sp}{E:XK}{x m:Str}{p pos apos:Pos}{e:Expr}{es:List Expr}{t:TA}
theorem JR (o:Q6 X.prog X.w X.K X.mg X.base CX j x C m ps sp)(hr:Room k X.A)(hx:Passes CX X E)(ha:PA X (e::es) t)(hj:j<=k:=by decide)(hg:Gl X x:=by rfl)
  (hdb:(x == ("__debug__":Str))=false:=by decide) (hst:starEach (e::es) X.env=(false,eval e X.env)::starEach es X.env:=by rfl) (hpl:(backTo pos (starEach es X.env)).any (·.1)=false:=by rfl)
  (ht:eval (.Call (.Attribute (.Name x p) m apos) (e::es) [] pos) X.env=(do
   let ov <- eval (.Name x p) X.env
   standAt apos.atName
   let (f,first) <- holding [ov] (getMethod ov m pl)
   callWith pos f first (backTo pos (starEach (e::es) X.env)) (backToKw pos (keywordEach [] X.env))):=by rfl):PE X (.Call (.Attribute (.Name x p) m apos) (e::es) [] pos) (tCall sp [] E t):=by
 obtain⟨f,fd,F,b,c,mm⟩:=o.ex;exact Jz hg mm c (F.mono hj) hr b .nil hx ha hdb hst hpl ht
theorem Fv (o:Qv X.prog X.w X.K X.mg X.base CX j x C ps sp)(hr:Room k X.A)(hx:Passes CX X E)(ha:PA X (e::es) t)(hj:j+1<=k:=by decide)(hg:Gl X x:=by rfl)(hdb:(x == ("__debug__":Str))=false:=by decide)
  (he:starEach (e::es) X.env=(false,eval e X.env)::starEach es X.env:=by rfl) (hpl:(backTo pos (starEach es X.env)).any (·.1)=false:=by rfl):PE X (.Call (.Name x p) (e::es) [] pos) (tMake C sp [] E t):=by
 obtain⟨f,fd,F,b,c,mm⟩:=o.ex;exact pe_make c F (hr.mono hj) hg mm b .nil hx ha hdb he hpl
end
def spS (K:Fg)(n:Nat)(pre:List Int->List Int->Prop)(F:List Int->List Int->Int):Sp:=λvs H Q _=>∃(a:Addr) (xs is:List Int),is.length=n/\vs=.ref a::is.map V.int/\SqL K H a (xs.map V.int)/\pre xs is/\Q (.int (F xs is)) H
def rO:List Str:=["plain","plus","less","times","over"]
def Q9 (cW cR cP:Addr)(H:Hp)(a:Addr)(z:Int):Prop:=∃C dx fs,H a=some (.ins C dx fs)/\((C=cW/\z=0)\/((C=cR\/C=cP)/\0<z))/\fs.lookup ("size":Str)=some (.int z)/\∀m∈rO,fs.lookup m=none
def pl (z n:Int):Int:=if z=0 then n else n % z
theorem jU (h:0<z):pl z n=n % z:=by unfold pl;rw[af (by lia)]
section
variable {X:Cx}{pins:List (Addr×Obj)}{σ:St}{H:Hp}{s:Shared}{h':Heap}
theorem Inv.Bf {ch:List Addr}{t':Nat}(I:Inv X pins σ H s)(hf:∀b∈ch,FpOk X pins H b)(k:∀b o,b∉ch->s.heap.get? b=some o->h'.get? b=some o):Inv X pins σ H { s with heap:=h',toks:=t' }:=by
 have nit:∀b u,H b=some u->b∉ch:=λb u e z=>by rw[(hf b z).1]at e;cases e
 refine I.step (g':=s.gens) (d':=s.drawn) (ch:=ch) (λb hb=>⟨(hf b hb).2.2.2.1,(hf b hb).2.1,(hf b hb).2.2.2.2.1,(hf b hb).2.2.2.2.2⟩) (λb o _ _ hc e _=>k b o hc e) (λb o _ _ hc e _=>⟨o.slots,k b o hc e⟩) (λ_ _ _ _ n=>n)
  (λb o hc e=>⟨o,k b o hc e⟩) (λ_ _ e=>e) (λ_ _ _ e=>e) (λb ps e=>⟨#[],by rw[e];simp⟩) (λm hm=>?_) (λb u e=>?_) I.bare
 ·obtain⟨o,es,ep,ho,r⟩:=hm;exact⟨o,es,ep,k _ o (λz=>(hf _ z).2.1 rfl) ho,r⟩
 ·refine(I.hok b u e).stay (λc v hc q=>k c v ?_ q) (λ_ q=>q) λ_ _ q=>q;rcases hc with z|z
  ·rw[z];exact nit b u e
  ·exact nit c _ z
theorem Inv.track (I:Inv X pins σ H s)(f:FpOk X pins H T)(new:ObjOk X.prog X.w (upd H T o) s.heap T o):Inv X pins σ (upd H T o) s:=by
 obtain⟨f0,f1,f2,f3,f4,f5⟩:=f;have ne:∀{b:Addr} {u:HO},H b=some u->b≠T:=λe=>ne_of_none e f0;refine⟨I.ok,I.os,I.bare,⟨I.base.keep,I.base.slot,λb ob e n x=>?_,I.base.there,λb xs e=>?_,λb ob u e=>?_,λb ps e=>?_⟩,I.loc,I.cell,by rw[upd_ne (bP f1)];exact I.free,λx c e=>?_,λp hp=>?_,λb u e=>?_,I.len⟩
 ·have hb:b≠T:=λz=>by
   subst z;rcases f3 with z|z
   ·exact x z
   ·exact absurd (ay (ai e) z) (bC _)
  rw[upd_ne hb];exact I.base.free b ob e n x
 ·have q:=I.base.tups b xs e;rw[upd_ne (ne q)];exact q
 ·have q:=I.base.frzs b ob u e;rw[upd_ne (ne q)];exact q
 ·obtain⟨m,q⟩:=I.base.tbls b ps e;exact⟨m,by rw[upd_ne (ne q)];exact q⟩
 ·rw[upd_ne (f4 x c e)];exact I.freeC x c e
 ·obtain⟨a1,a2,a3⟩:=I.pin p hp;exact⟨a1,by rw[upd_ne (f5 p hp)];exact a2,a3⟩
 ·by_cases c:b=T
  ·subst c;rw[upd_same]at e;cases e;exact new
  ·rw[upd_ne c]at e;exact(I.hok b u e).stay (λ_ _ _ q=>q) (λd q=>by rw[upd_ne (ne q)];exact q) (λd xs q=>by rw[upd_ne (ne q)];exact q) λd _ _ q=>by rw[upd_ne (ne q)];exact q
end
def Pz (K:Fg)(a:Addr):It:=
 ⟨λi H=>∃xs x,SqL K H a xs/\xs[i]?=some x,λi H v H'=>∃T y,v=.ref T/\H T=none/\H'=upd H T (.tup [.int i,y])/\∀xs,SqL K H a xs->xs[i]?=some y,λi H=>∃xs,SqL K H a xs/\xs.length<=i⟩
theorem CN {P:Program}{w:World}{K:Fg}{els:List Expr}{kk:Nat}{tp:Pos}(a e it:Addr)(hne:e≠it):Turn P w K (.Tuple els kk tp) (Pz K a) [e,it] e (λi h=>(∃old,IsEnum h e it i old)/\h.IsListIter it a i) where
 mem:=by simp
 obj:=λi h st b hb=>by
  obtain⟨⟨old,he⟩,o,ho,_,hd⟩:=st;rcases az.mp hb with rfl|hb
  ·exact⟨_,he,λv z=>by cases z⟩
  ·have q:b=it:=by simpa using hb
   subst q;exact⟨o,ho,λv z=>by rw[hd]at z;cases z⟩
 keep:=λi h h' st k=>by obtain⟨⟨old,he⟩,hit⟩:=st;exact⟨⟨old,k e (by simp) _ he⟩,hit.at λo q=>k it (by simp) o q⟩
 item:=by
  intro X hP hw hK hc i pins s σ H E I hf st hg;subst hP hw hK;obtain⟨xs,x,hq,hx⟩:=hg;obtain⟨⟨old,he⟩,hit⟩:=st;obtain⟨its,rv,p,hz⟩:=I.list hq;obtain⟨u,hu,ru⟩:=rv.get hx;refine wpAny_pyNext_enum_item he hit p.isList (x:=u) (by simpa using hu) hne λh1 ho hit1 hT hsz hk=>⟨_,rfl,?_⟩;refine wpAny_letOwnedTupleGo_enum ho λh2 he2 hs2=>?_;have Te:s.heap.objs.size≠e:=dz (ai he);have keep2:∀b o,b∉[e,it]->s.heap.get? b=some o->h2.get? b=some o:=λb o hb q=>by have b1:b≠e:=λz=>hb (by simp[z]);have b2:b≠it:=λz=>hb (by simp[z]);exact(hs2.2 b b1).trans (hk b o b1 b2 q)
  have I1:Inv X pins σ H { s with heap:=h2,toks:=s.toks+1 }:=I.Bf hf keep2;have fT:FpOk X pins H s.heap.objs.size:=I.fpOk (aj _) (I.hok.fresh (aj _));have I2:=I1.track (o:=.tup [.int i,x]) fT ⟨by show 2<=sizeLine;decide,[.int i s.toks,u],.cons ⟨_,rfl⟩ (.cons ru .nil),⟨_,(hs2.2 _ Te).trans hT,rfl,_,rfl⟩⟩;refine⟨.ref s.heap.objs.size,_,I2,rfl,⟨_,x,rfl,fT.1,rfl,λys hy=>by rw[I.list_inj hy hq];exact hx⟩,⟨⟨_,by exact_mod_cast he2⟩,?_⟩,λb hb=>?_⟩
  ·obtain⟨o,q,r⟩:=hit1;exact⟨o,(hs2.2 it (bP hne)).trans q,r⟩
  ·rw[upd_ne]
   ·exact(hf b hb).1
   ·rcases az.mp hb with rfl|hb
    ·exact bP Te
    ·have q:b=it:=by simpa using hb
     subst q;obtain⟨o,q,_⟩:=hit;exact aO (ai q)
 done:=by intro X hP hw hK hc i pins s σ H E I hf st hg;subst hP hw hK;obtain⟨xs,hq,hx⟩:=hg;obtain⟨⟨old,he⟩,hit⟩:=st;obtain⟨its,rv,p,hz⟩:=I.list hq;have hl:=rv.length;exact wpAny_pyNext_enum_end (I.ok.hd hc) he hit p.isList (by simp;lia) λh1 eb=>⟨rfl,I.Bf hf λb o hb q=>eb b o (λz=>hb (by simp[z])) q⟩
 self:=λA i s Q E st h=>by obtain⟨⟨old,he⟩,_⟩:=st;exact wpAny_pyIter_enum he h
theorem wM:bootBuiltins "enumerate"=some (.type "enumerate"):=by decide +kernel
def Kw (K:Fg)(ta:TA):TI:=λσ H R=>ta σ H λvs H1=>∃a,vs=[.ref a]/\(∃xs,SqL K H1 a xs)/\R (Pz K a) H1
theorem Bu {X:Cx}{els:List Expr}{kk:Nat}{tp:Pos}{l:Expr}{ta:TA}{p pos:Pos}(hg:Gl X "enumerate")(hm:X.mg "enumerate"=none)(ha:PA X [l] ta)(hs:starEach [l] X.env=[(false,eval l X.env)]:=by rfl) :
  PI X (.Tuple els kk tp) (.Call (.Name "enumerate" p) [l] [] pos) (Kw X.K ta):=by
 intro pins s σ H R I h;refine Call_ (ld_blt I hg hm wM (bY (thn (ha pos pins s σ H _ I h) λus s1 ⟨vs,H1,I1,r1,q1⟩=>?_) hs rfl));obtain⟨a,rfl,⟨xs,hq⟩,q⟩:=q1;obtain⟨u,rfl,ru⟩:=vals1 r1;cases ru;obtain⟨its,rv,p',hz⟩:=I1.list hq;refine call_enumerate_list p'.isList λh1 he hit hsz hk=>?_;refine wpAny_pyIter_enum he ?_;have I2:Inv X pins σ H1 { s1 with heap:=h1 }:=I1.kept (t':=s1.toks) hk;refine⟨_,[s1.heap.objs.size+1,s1.heap.objs.size],_,_,H1,rfl,I2,CN a (s1.heap.objs.size+1) s1.heap.objs.size (Nat.succ_ne_self _),⟨⟨_,he⟩,hit⟩,λb hb=>?_,q⟩;rcases az.mp hb with rfl|hb
 ·exact I1.fpOk (fJ _) (I1.hok.fresh (fJ _))
 ·have e:b=s1.heap.objs.size:=by simpa using hb
  subst e;exact I1.fpOk (aj _) (I1.hok.fresh (aj _))
theorem Gw {K:Fg}{a:Addr}{xs:List V}{g:TG}{tb:TS}{D:Ends}{σ:St}{H:Hp}(Pv:Nat->St->Hp->Prop)(h0:Pv 0 σ H)(hl:∀i σ H,i<=xs.length->Pv i σ H->SqL K H a xs)
  (hs:∀i x σ H T,xs[i]?=some x->Pv i σ H->H T=none->g (.ref T) σ (upd H T (.tup [.int i,x])) λσ2 H2=>tb { D with nx:=Pv (i+1),ct:=Pv (i+1),bk:=D.nx } σ2 H2) (hd:∀σ H,Pv xs.length σ H->D.nx σ H) :
  ∃W:Nat->Nat->St->Hp->Prop,(∃m,W 0 m σ H)/\∀i m σ H,W i m σ H ->
   ((Pz K a).stop i H/\D.nx σ H)\/((Pz K a).go i H/\∃N:St->Hp->Prop,(∀σ' H',N σ' H' -> ∃m',m'<m/\W (i+1) m' σ' H')/\∀x H',(Pz K a).yld i H x H' -> g x σ H' λσ2 H2=>tb { D with nx:=N,ct:=N,bk:=D.nx } σ2 H2):=by
 refine⟨λi m σ H=>m=xs.length-i/\i<=xs.length/\Pv i σ H,⟨xs.length,by simp,be _,h0⟩,?_⟩;rintro i m σ H ⟨rfl,hi,p⟩;have q:=hl i σ H hi p;by_cases hlt:i<xs.length
 ·refine .inr ⟨⟨xs,xs[i],q,by simp[hlt]⟩,Pv (i+1),λσ' H' p'=>⟨xs.length-(i+1),by lia,rfl,hlt,p'⟩,λx H' y=>?_⟩;obtain⟨T,z,rfl,hT,rfl,hz⟩:=y;exact hs i z σ H T (hz xs q) p hT
 ·have e:i=xs.length:=by lia
  subst e;exact .inl ⟨⟨xs,q,aj _⟩,hd σ H p⟩
theorem int_at {ns:Li}{i:Nat}{x:V}(h:(ns.map V.int)[i]?=some x):∃n,x=.int n/\ns[i]?=some n:=by
 rw[au]at h;cases e:ns[i]? with
 |none=>rw[e]at h;cases h
 |some n=>rw[e]at h;exact⟨n,(aw h).symm,rfl⟩
theorem rC {α:Type}{ns:List α}{i:Nat}{n:α}(h:ns[i]?=some n):ns.take (i+1)=ns.take i++[n]:=by rw[dt,h];rfl
abbrev yL:TT:=λ_ H Q=>Q true H
end L2
namespace FM
open L2
def iG (n:Int):Prop:=2<=n/\n<=9973/\∀d:Int,2<=d->d*d<=n->¬n % d=0
open Classical in
def uW (n:Int):Bool:=decide (iG n)
open Classical in
theorem pK (h:iG n):uW n=true:=by unfold uW;exact aM h
open Classical in
theorem qd (h:¬iG n):uW n=false:=by unfold uW;exact aH h
open Classical in
theorem Ib:uW n=true ↔ iG n:=by unfold uW;exact decide_eq_true_iff
def uV (n d:Int):Prop:=∀e:Int,2<=e->e<d->¬n % e=0
theorem uV.next (h:uV n d)(hd:¬n % d=0):uV n (d+1):=λe h1 h2=>by
 by_cases c:e=d
 ·rw[c];exact hd
 ·exact h e h1 (by lia)
theorem Ko {d:Int}(h:2<=d):d<=d*d:=by have:=aR (show(1:Int)<=d by lia) (show(0:Int)<=d by lia);lia
theorem pH {d e:Int}(h0:0<=d)(h:d<=e):d*d<=e*e:=Int.mul_le_mul h h h0 (by lia)
theorem iG.out {n d:Int}(h:uV n d)(h2:2<=d)(lo:2<=n)(hi:n<=9973)(hd:¬d*d<=n):iG n:=⟨lo,hi,λe h1 he=>by
 by_cases c:e<d
 ·exact h e h1 c
 ·have:=pH (d:=d) (e:=e) (by lia) (by lia);lia⟩
theorem Lq:iG 2:=⟨by lia,by lia,λd h1 h2=>by have:=pH (d:=2) (e:=d) (by lia) h1;lia⟩
def Qk:List Int->Bool:=λns=>match ns with
 |[n]=>uW n
 |_=>false
def yes:List Int->Prop:=λ_=>True
theorem yF (z n:Int):pl z (pl z n)=pl z n:=by
 unfold pl;by_cases h:z=0
 ·rw[ae h,ae h]
 ·rw[af h,af h,cr _ (c7 z)]
theorem GQ (z a b:Int):pl z (pl z a*b)=pl z (a*b):=by
 unfold pl;by_cases h:z=0
 ·rw[ae h,ae h,ae h]
 ·rw[af h,af h,af h,dA,cr _ (c7 z),<- dA]
theorem Jq (z a b:Int):pl z (a*pl z b)=pl z (a*b):=by rw[bV,GQ,bV]
theorem Pb (h:0<z):0<=pl z n/\pl z n<z:=by rw[jU h];exact⟨bx _ (by lia),bj _ h⟩
def ik (xs:List Int):List Int:=(xs.reverse.dropWhile (· == 0)).reverse
theorem oV (xs:Li):ik (xs++[0])=ik xs:=by unfold ik;rw[fL];simp
theorem t8 (xs:Li)(h:x≠0):ik (xs++[x])=xs++[x]:=by unfold ik;rw[fL];simp[h]
theorem uU (xs:Li):(ik xs).length<=xs.length:=by unfold ik;have:=(List.dropWhile_sublist (· == 0) (l:=xs.reverse)).length_le;simpa using this
def ev:List Int->Int->Int
 |[],_=>0
 |n::r,x=>n+x*ev r x
end FM
namespace L3
open PySem PySem.Spec PyProof.Rows L2
inductive PV where
 |int (n:Int)|bl (b:Bool)|non|str (s:Str)|ints (ns:List Int)|scr (ns:List Int)|lst (xs:List PV)|tup (xs:List PV)|ob (k:Nat) (z:Int)|ty (n:String)|cls (a:Addr)
def encD (kvs:List (Int×Int)):HO:=.dK (kvs.map λq=>(Sum.inl q.1,V.int q.2))
structure Gx where
 ob:Nat->Hp->Addr->Int->Prop
 mono:∀k H H' a z,Same H H' -> ob k H a z->ob k H' a z
mutual
def At (K:Fg)(G:Gx)(H:Hp):PV->V->Prop
 | .int n,v=>v=.int n
 | .bl b,v=>v=.bl b
 | .non,v=>v=.non
 | .str s,v=>v=.str s
 | .ints ns,v=>∃a,v=.ref a/\Rd H a (.lst (ns.map V.int))
 | .scr ns,v=>∃a,v=.ref a/\SqL K H a (ns.map V.int)
 | .lst xs,v=>∃a vs,v=.ref a/\Rd H a (.lst vs)/\jy K G H xs vs
 | .tup xs,v=>∃a vs,v=.ref a/\H a=some (.tup vs)/\jy K G H xs vs
 | .ob k z,v=>∃a,v=.ref a/\G.ob k H a z
 | .ty n,v=>v=.ty n
 | .cls a,v=>v=.ref a
def jy (K:Fg)(G:Gx)(H:Hp):List PV->List V->Prop
 |[],vs=>vs=[]
 |p::ps,vs=>∃v r,vs=v::r/\At K G H p v/\jy K G H ps r
end
theorem gY (e:Same H H')(h:Rd H a (.lst xs)):Rd H' a (.lst xs):=by
 rcases h with h|⟨o,h⟩
 ·exact .inl (e _ _ h)
 ·exact .inr ⟨o,e _ _ h⟩
theorem Du {K:Fg}{H H':Hp}{a:Addr}{xs:List V}(e:Same H H')(h:SqT K H a xs):SqT K H' a xs:=by
 rcases h with (h|⟨o,h⟩)|h
 ·exact .inl (.inl (e _ _ h))
 ·exact .inl (.inr ⟨o,e _ _ h⟩)
 ·exact .inr h
mutual
theorem At.mono {K:Fg}{G:Gx}{H H':Hp}(s:Same H H'):∀(p:PV) (v:V),At K G H p v->At K G H' p v
 | .int _,_,h=>h
 | .bl _,_,h=>h
 | .non,_,h=>h
 | .str _,_,h=>h
 | .ints _,_,h=>by obtain⟨a,e,q⟩:=h;exact⟨a,e,gY s q⟩
 | .scr _,_,h=>by obtain⟨a,e,q⟩:=h;exact⟨a,e,s.seq q⟩
 | .lst xs,_,h=>by obtain⟨a,vs,e,q,r⟩:=h;exact⟨a,vs,e,gY s q,jy.mono s xs vs r⟩
 | .tup xs,_,h=>by obtain⟨a,vs,e,q,r⟩:=h;exact⟨a,vs,e,s _ _ q,jy.mono s xs vs r⟩
 | .ob _ _,_,h=>by obtain⟨a,e,q⟩:=h;exact⟨a,e,G.mono _ _ _ _ _ s q⟩
 | .ty _,_,h=>h
 | .cls _,_,h=>h
theorem jy.mono {K:Fg}{G:Gx}{H H':Hp}(s:Same H H'):∀(ps:List PV) (vs:List V),jy K G H ps vs->jy K G H' ps vs
 |[],_,h=>h
 |p::ps,_,h=>by obtain⟨v,r,e,q,t⟩:=h;exact⟨v,r,e,At.mono s p v q,jy.mono s ps r t⟩
end
theorem jy.length {K:Fg}{G:Gx}{H:Hp}:∀{ps:List PV} {vs:List V},jy K G H ps vs->ps.length=vs.length
 |[],_,h=>by cases h;rfl
 |p::ps,_,h=>by obtain⟨v,r,rfl,_,t⟩:=h;rw[bh,bh,jy.length t]
theorem jy.get {K:Fg}{G:Gx}{H:Hp}:∀{ps:List PV} {vs:List V} {i:Nat} {v:V},jy K G H ps vs->vs[i]?=some v->∃p,ps[i]?=some p/\At K G H p v
 |[],_,i,v,h,e=>by cases h;simp at e
 |p::ps,_,0,v,h,e=>by obtain⟨w,r,rfl,q,t⟩:=h;simp at e;subst e;exact⟨p,rfl,q⟩
 |p::ps,_,i+1,v,h,e=>by obtain⟨w,r,rfl,q,t⟩:=h;obtain⟨p',e',q'⟩:=jy.get (i:=i) (v:=v) t (by simpa using e);exact⟨p',by simpa using e',q'⟩
theorem jy.at {K:Fg}{G:Gx}{H:Hp}:∀{ps:List PV} {vs:List V} {i:Nat} {p:PV},jy K G H ps vs->ps[i]?=some p->∃v,vs[i]?=some v/\At K G H p v
 |[],_,i,v,h,e=>by simp at e
 |p::ps,_,0,v,h,e=>by obtain⟨w,r,rfl,q,t⟩:=h;simp at e;subst e;exact⟨w,rfl,q⟩
 |p::ps,_,i+1,v,h,e=>by obtain⟨w,r,rfl,q,t⟩:=h;obtain⟨v',e',q'⟩:=jy.at (i:=i) (p:=v) t (by simpa using e);exact⟨v',by simpa using e',q'⟩
theorem jy.snoc {K:Fg}{G:Gx}{H:Hp}{p:PV}{v:V}:∀{ps:List PV} {vs:List V},jy K G H ps vs->At K G H p v->jy K G H (ps++[p]) (vs++[v])
 |[],_,h,q=>by cases h;exact⟨v,[],rfl,q,rfl⟩
 |p'::ps,_,h,q=>by obtain⟨w,r,rfl,q',t⟩:=h;exact⟨w,_,rfl,q',jy.snoc t q⟩
def mn (H:Hp)(O:Addr->Bool):Hp:=λb=>if O b=true then none else H b
theorem lU (h:mn H O b=some o):O b=false/\H b=some o:=by
 unfold mn at h;by_cases c:O b=true
 ·rw[ae c]at h;cases h
 ·rw[af c]at h;exact⟨by simpa using c,h⟩
theorem lB (h:O b=false):mn H O b=H b:=by unfold mn;rw[af (by rw[h];decide)]
theorem iz:Same (mn H O) H:=mR λ_ _ h=>(lU h).2
theorem jn (s:Same H H'):Same (mn H O) (mn H' O):=λb o h=>by obtain⟨c,e⟩:=lU h;rw[lB c];exact s b o e
theorem mH (k:∀a,O a=true->O' a=true):Same (mn H O') (mn H O):=mR λb o h=>by
 obtain⟨c,e⟩:=lU h;have:O b=false:=by
  cases z:O b with
  |false=>rfl
  |true=>rw[k b z]at c;cases c
 rw[lB this];exact e
def hide (a:Addr)(O:Addr->Bool):Addr->Bool:=λb=>b == a || O b
theorem hide_ne (h:b≠a):hide a O b=O b:=by unfold hide;simp[h]
theorem hide_self:hide a O a=true:=by unfold hide;simp
theorem je:∀b,O b=true->hide a O b=true:=λb h=>by unfold hide;simp[h]
theorem jX (s:Same H H')(ha:H a=none):Same (mn H O) (mn H' (hide a O)):=λb o h=>by obtain⟨c,e⟩:=lU h;rw[lB (by rw[hide_ne (ne_of_none e ha)];exact c)];exact s b o e
theorem nQ (h:O a=true):mn (upd H a o) O=mn H O:=by
 funext b;unfold mn;by_cases c:O b=true
 ·rw[ae c,ae c]
 ·rw[af c,af c,upd_ne (λz=>c (by rw[z];exact h))]
inductive Sl where
 |un|fr (p:PV)|ow (p:PV)|o2 (xs ys:List Int)|rd (p:PV)|od (kvs:List (Int×Int))
abbrev En:=List Sl
structure Bs where
 H0:Hp
 Oc:Addr->Bool
def uK (K:Fg)(G:Gx)(H:Hp):PV->List V->Prop
 | .ints ns,vs=>vs=ns.map V.int
 | .lst xs,vs=>jy K G H xs vs
 |_,_=>False
theorem uK.mono {K:Fg}{G:Gx}{H H':Hp}(s:Same H H'){p:PV}{vs:List V}(h:uK K G H p vs):uK K G H' p vs:=by cases p<;>first|exact h|exact jy.mono s _ _ h
structure Qe (B:Bs)(σ:L2.St)(H:Hp)(Z:En)(O:Addr->Bool)(i:Nat)(xs ys:List Int)(D a b:Addr):Prop where
 at_:σ[i]?=some (some (.ref D))
 oD:O D=true
 oa:O a=true
 ob:O b=true
 nD:B.H0 D=none
 na:B.H0 a=none
 nb:B.H0 b=none
 hD:H D=some (.lst [.ref a,.ref b])
 ha:H a=some (.lst (xs.map V.int))
 hb:H b=some (.lst (ys.map V.int))
 ab:a≠b
 un:∀(j:Nat) q c,Z[j]?=some (.ow q)->σ[j]?=some (some (.ref c))->c≠D/\c≠a/\c≠b
 one:∀(j:Nat) xs' ys',Z[j]?=some (.o2 xs' ys')->j=i
def Iu (O Oc:Addr->Bool):Addr->Bool:=λb=>O b && !Oc b
theorem Fe (h:∀b,O' b=true->O b=true):∀b,Iu O' Oc b=true->Iu O Oc b=true:=λb z=>by unfold Iu at z ⊢;rw[dF]at z ⊢;exact⟨h b z.1,z.2⟩
structure Rep (K:Fg)(G:Gx)(B:Bs)(σ:L2.St)(H:Hp)(Z:En)(O:Addr->Bool):Prop where
 same:Same B.H0 H
 cd:∀a,B.Oc a=true->B.H0 a≠none
 hid:∀a,B.Oc a=true->O a=true
 dom:∀a,O a=true->H a≠none
 vis:∀a,O a=true->B.Oc a=true\/B.H0 a=none
 fr:∀(i:Nat) p,Z[i]?=some (.fr p)->∃v,σ[i]?=some (some v)/\At K G (mn H O) p v
 ow:∀(i:Nat) p,Z[i]?=some (.ow p)->∃a vs,σ[i]?=some (some (.ref a))/\O a=true/\B.H0 a=none/\H a=some (.lst vs)/\uK K G (mn H O) p vs
 inj:∀(i j:Nat) p q a,Z[i]?=some (.ow p)->Z[j]?=some (.ow q)->σ[i]?=some (some (.ref a))->σ[j]?=some (some (.ref a))->i=j
 len:σ.length=Z.length
 o2:∀(i:Nat) xs ys,Z[i]?=some (.o2 xs ys)->∃D a b,Qe B σ H Z O i xs ys D a b
 rd:∀(i:Nat) p,Z[i]?=some (.rd p)->∃v,σ[i]?=some (some v)/\At K G (mn H (Iu O B.Oc)) p v
 od:∀(i:Nat) kvs,Z[i]?=some (.od kvs)->∃a,σ[i]?=some (some (.ref a))/\O a=true/\B.H0 a=none/\H a=some (encD kvs)
 oi:∀(i j:Nat) kvs kvs' a,Z[i]?=some (.od kvs)->Z[j]?=some (.od kvs')->σ[i]?=some (some (.ref a))->σ[j]?=some (some (.ref a))->i=j
section
variable {K:Fg}{G:Gx}{B:Bs}{σ:L2.St}{H H':Hp}{Z:En}{O:Addr->Bool}{i:Nat}
theorem Rep.grow (R:Rep K G B σ H Z O)(s:Same H H'):Rep K G B σ H' Z O:=by
 refine⟨R.same.trans s,R.cd,R.hid,λa h z=>R.dom a h (s.free z),R.vis,λi p e=>?_,λi p e=>?_,R.inj,R.len,λi xs ys e=>let ⟨D,a,b,q⟩:=R.o2 i xs ys e;⟨D,a,b,q.at_,q.oD,q.oa,q.ob,q.nD,q.na,q.nb,s _ _ q.hD,s _ _ q.ha,s _ _ q.hb,q.ab,q.un,q.one⟩,λi p e=>let ⟨v,e1,e2⟩:=R.rd i p e;⟨v,e1,At.mono (jn s) _ _ e2⟩,λi kvs e=>let ⟨a,e1,e2,e3,e4⟩:=R.od i kvs e;⟨a,e1,e2,e3,s _ _ e4⟩,R.oi⟩
 ·obtain⟨v,e1,e2⟩:=R.fr i p e;exact⟨v,e1,At.mono (jn s) _ _ e2⟩
 ·obtain⟨a,vs,e1,e2,e3,e4,e5⟩:=R.ow i p e;exact⟨a,vs,e1,e2,e3,s _ _ e4,e5.mono (jn s)⟩
theorem gA {α:Type}{l:List α}{i j:Nat}{x y:α}(h:(l.set i x)[j]?=some y):(i=j/\y=x/\i<l.length)\/(i≠j/\l[j]?=some y):=by
 rw[bX]at h;by_cases c:i=j
 ·rw[ae c]at h;by_cases c2:i<l.length
  ·rw[ae c2]at h;exact .inl ⟨c,(aw h).symm,c2⟩
  ·rw[af c2]at h;cases h
 ·rw[af c]at h;exact .inr ⟨c,h⟩
theorem gO {α:Type}{l:List α}{i j:Nat}{x:α}(h:i≠j):(l.set i x)[j]?=l[j]?:=by rw[bX,af h]
theorem mW {α:Type}{l:List α}{i:Nat}{x:α}(h:i<l.length):(l.set i x)[i]?=some x:=by rw[bX,ae rfl,ae h]
theorem Rep.set (R:Rep K G B σ H Z O){p:PV}{v:V}(h:At K G (mn H O) p v):Rep K G B (σ.set i (some v)) H (Z.set i (.fr p)) O:=by
 refine⟨R.same,R.cd,R.hid,R.dom,R.vis,λj q e=>?_,λj q e=>?_,λj k q r a e1 e2 e3 e4=>?_,by rw[aT,aT];exact R.len,λj xs ys e=>?_,λj q e=>?_,λj kvs e=>?_,λj k q r a e1 e2 e3 e4=>?_⟩
 ·rcases gA e with⟨rfl,e,l⟩|⟨n,e⟩
  ·cases e;exact⟨v,mW (by rw[R.len];exact l),h⟩
  ·rw[gO n];exact R.fr j q e
 ·rcases gA e with⟨rfl,e,l⟩|⟨n,e⟩
  ·cases e
  ·rw[gO n];exact R.ow j q e
 ·rcases gA e1 with⟨rfl,e,l⟩|⟨n,e⟩
  ·cases e
  ·rcases gA e2 with⟨rfl,e',l'⟩|⟨n',e'⟩
   ·cases e'
   ·rw[gO n]at e3;rw[gO n']at e4;exact R.inj j k q r a e e' e3 e4
 ·rcases gA e with⟨rfl,e,l⟩|⟨n,e⟩
  ·cases e
  ·obtain⟨D,a,b,q⟩:=R.o2 j xs ys e;refine⟨D,a,b,by rw[gO n];exact q.at_,q.oD,q.oa,q.ob,q.nD,q.na,q.nb,q.hD,q.ha,q.hb,q.ab,λk r c e1 e2=>?_,λk xs' ys' e1=>?_⟩
   ·rcases gA e1 with⟨_,e',_⟩|⟨n',e'⟩
    ·cases e'
    ·rw[gO n']at e2;exact q.un k r c e' e2
   ·rcases gA e1 with⟨_,e',_⟩|⟨n',e'⟩
    ·cases e'
    ·exact q.one k xs' ys' e'
 ·rcases gA e with⟨rfl,e,l⟩|⟨n,e⟩
  ·cases e
  ·rw[gO n];exact R.rd j q e
 ·rcases gA e with⟨rfl,e,l⟩|⟨n,e⟩
  ·cases e
  ·rw[gO n];exact R.od j kvs e
 ·rcases gA e1 with⟨rfl,e,l⟩|⟨n,e⟩
  ·cases e
  ·rcases gA e2 with⟨rfl,e',l'⟩|⟨n',e'⟩
   ·cases e'
   ·rw[gO n]at e3;rw[gO n']at e4;exact R.oi j k q r a e e' e3 e4
theorem yt:∀b,Iu (hide a O) Oc b=true->hide a (Iu O Oc) b=true:=λb z=>by
 by_cases c:b=a
 ·subst c;exact hide_self
 ·unfold Iu at z;rw[hide_ne c]at z;rw[hide_ne c];exact z
theorem Rep.new (R:Rep K G B σ H Z O){p:PV}{a:Addr}{vs:List V}(s:Same H H')(ha:H a=none)(he:H' a=some (.lst vs))(h:uK K G (mn H' (hide a O)) p vs):Rep K G B (σ.set i (some (.ref a))) H' (Z.set i (.ow p)) (hide a O):=by
 refine⟨R.same.trans s,R.cd,λb z=>je b (R.hid b z),λb z y=>?_,λb z=>?_,λj q e=>?_,λj q e=>?_,λj k q r b e1 e2 e3 e4=>?_,by rw[aT,aT];exact R.len,λj xs ys e=>?_,λj q e=>?_,λj kvs e=>?_,λj k q r b e1 e2 e3 e4=>?_⟩
 ·by_cases c:b=a
  ·subst c;rw[he]at y;cases y
  ·rw[hide_ne c]at z;exact R.dom b z (s.free y)
 ·by_cases c:b=a
  ·subst c;exact .inr (R.same.free ha)
  ·rw[hide_ne c]at z;exact R.vis b z
 ·rcases gA e with⟨rfl,e,l⟩|⟨n,e⟩
  ·cases e
  ·obtain⟨v,e1,e2⟩:=R.fr j q e;exact⟨v,by rw[gO n];exact e1,At.mono (jX s ha) _ _ e2⟩
 ·rcases gA e with⟨rfl,e,l⟩|⟨n,e⟩
  ·cases e;exact⟨a,vs,mW (by rw[R.len];exact l),hide_self,R.same.free ha,he,h⟩
  ·obtain⟨b,us,e1,e2,e3,e4,e5⟩:=R.ow j q e;exact⟨b,us,by rw[gO n];exact e1,je b e2,e3,s _ _ e4,e5.mono (jX s ha)⟩
 ·have old:∀(m:Nat) q,Z[m]?=some (.ow q)->σ[m]?=some (some (.ref a))->False:=λm q e z=>by obtain⟨b,us,e1,_,_,e4,_⟩:=R.ow m q e;rw[z]at e1;cases e1;rw[ha]at e4;cases e4
  rcases gA e1 with⟨rfl,e,l⟩|⟨n,e⟩
  ·rcases gA e2 with⟨rfl,e',l'⟩|⟨n',e'⟩
   ·rfl
   ·rw[mW (by rw[R.len];exact l)]at e3;cases e3;rw[gO n']at e4;exact(old k r e' e4).elim
  ·rcases gA e2 with⟨rfl,e',l'⟩|⟨n',e'⟩
   ·rw[mW (by rw[R.len];exact l')]at e4;cases e4;rw[gO n]at e3;exact(old j q e e3).elim
   ·rw[gO n]at e3;rw[gO n']at e4;exact R.inj j k q r b e e' e3 e4
 ·rcases gA e with⟨rfl,e,l⟩|⟨n,e⟩
  ·cases e
  ·obtain⟨D,a1,b1,q⟩:=R.o2 j xs ys e;refine⟨D,a1,b1,by rw[gO n];exact q.at_,je _ q.oD,je _ q.oa,je _ q.ob,q.nD,q.na,q.nb,s _ _ q.hD,s _ _ q.ha,s _ _ q.hb,q.ab,λk r c e1 e2=>?_,λk xs' ys' e1=>?_⟩
   ·rcases gA e1 with⟨rfl,e',l'⟩|⟨n',e'⟩
    ·rw[mW (by rw[R.len];exact l')]at e2;cases e2;exact⟨bP (ne_of_none q.hD ha),bP (ne_of_none q.ha ha),bP (ne_of_none q.hb ha)⟩
    ·rw[gO n']at e2;exact q.un k r c e' e2
   ·rcases gA e1 with⟨_,e',_⟩|⟨n',e'⟩
    ·cases e'
    ·exact q.one k xs' ys' e'
 ·rcases gA e with⟨rfl,e,l⟩|⟨n,e⟩
  ·cases e
  ·obtain⟨v,e1,e2⟩:=R.rd j q e;exact⟨v,by rw[gO n];exact e1,At.mono ((jX s ha).trans (mH yt)) _ _ e2⟩
 ·rcases gA e with⟨rfl,e,l⟩|⟨n,e⟩
  ·cases e
  ·obtain⟨b,e1,e2,e3,e4⟩:=R.od j kvs e;exact⟨b,by rw[gO n];exact e1,je b e2,e3,s _ _ e4⟩
 ·rcases gA e1 with⟨rfl,e,l⟩|⟨n,e⟩
  ·cases e
  ·rcases gA e2 with⟨rfl,e',l'⟩|⟨n',e'⟩
   ·cases e'
   ·rw[gO n]at e3;rw[gO n']at e4;exact R.oi j k q r b e e' e3 e4
theorem BK (cd:∀a,B.Oc a=true->B.H0 a≠none)(h:O a=true)(h0:B.H0 a=none):Iu O B.Oc a=true:=by
 unfold Iu;rw[h];cases e:B.Oc a with
 |false=>rfl
 |true=>exact absurd h0 (cd a e)
theorem Rep.change (R:Rep K G B σ H Z O){p p':PV}{a:Addr}{vs:List V}(e:Z[i]?=some (.ow p))(ea:σ[i]?=some (some (.ref a)))(h:uK K G (mn H O) p' vs):Rep K G B σ (upd H a (.lst vs)) (Z.set i (.ow p')) O:=by
 obtain⟨a',us,e1,e2,e3,e4,e5⟩:=R.ow i p e;rw[ea]at e1;cases e1;have hl:i<Z.length:=(aD.mp e).1;refine⟨λb o z=>?_,R.cd,R.hid,λb z y=>?_,R.vis,λj q ej=>?_,λj q ej=>?_,λj k q r b j1 j2 j3 j4=>?_,by rw[aT];exact R.len,λj xs ys ej=>?_,λj q ej=>?_,λj kvs ej=>?_,λj k q r b j1 j2 j3 j4=>?_⟩
 ·rw[upd_ne (ne_of_none z e3)];exact R.same b o z
 ·by_cases c:b=a
  ·subst c;rw[upd_same]at y;cases y
  ·rw[upd_ne c]at y;exact R.dom b z y
 ·rw[nQ e2];rcases gA ej with⟨_,e',_⟩|⟨_,e'⟩
  ·cases e'
  ·exact R.fr j q e'
 ·rw[nQ e2];rcases gA ej with⟨rfl,e',_⟩|⟨n,e'⟩
  ·cases e';exact⟨a,vs,ea,e2,e3,upd_same,h⟩
  ·obtain⟨b,ws,f1,f2,f3,f4,f5⟩:=R.ow j q e';refine⟨b,ws,f1,f2,f3,?_,f5⟩;rw[upd_ne]
   ·exact f4
   ·intro z;subst z;exact n (R.inj i j p q b e e' ea f1)
 ·have back:∀(m:Nat) q,(Z.set i (.ow p'))[m]?=some (.ow q)->∃q',Z[m]?=some (.ow q'):=λm q z=>by
   rcases gA z with⟨rfl,_,_⟩|⟨_,z⟩
   ·exact⟨p,e⟩
   ·exact⟨q,z⟩
  obtain⟨q',y1⟩:=back j q j1;obtain⟨r',y2⟩:=back k r j2;exact R.inj j k q' r' b y1 y2 j3 j4
 ·rcases gA ej with⟨rfl,e',_⟩|⟨n,e'⟩
  ·cases e'
  ·obtain⟨D,a1,b1,q⟩:=R.o2 j xs ys e';obtain⟨u1,u2,u3⟩:=q.un i p a e ea;refine⟨D,a1,b1,q.at_,q.oD,q.oa,q.ob,q.nD,q.na,q.nb,by rw[upd_ne (bP u1)];exact q.hD,by rw[upd_ne (bP u2)];exact q.ha,by rw[upd_ne (bP u3)];exact q.hb,q.ab,λk r c e1 e2=>?_,λk xs' ys' e1=>?_⟩
   ·rcases gA e1 with⟨rfl,_,_⟩|⟨_,e1⟩
    ·exact q.un i p c e e2
    ·exact q.un k r c e1 e2
   ·rcases gA e1 with⟨_,e',_⟩|⟨n',e'⟩
    ·cases e'
    ·exact q.one k xs' ys' e'
 ·rw[nQ (BK R.cd e2 e3)];rcases gA ej with⟨_,e',_⟩|⟨_,e'⟩
  ·cases e'
  ·exact R.rd j q e'
 ·rcases gA ej with⟨_,e',_⟩|⟨_,e'⟩
  ·cases e'
  ·obtain⟨b,f1,f2,f3,f4⟩:=R.od j kvs e';refine⟨b,f1,f2,f3,?_⟩;rw[upd_ne]
   ·exact f4
   ·intro z;subst z;rw[e4]at f4;cases f4
 ·rcases gA j1 with⟨_,e',_⟩|⟨_,y1⟩
  ·cases e'
  ·rcases gA j2 with⟨_,e',_⟩|⟨_,y2⟩
   ·cases e'
   ·exact R.oi j k q r b y1 y2 j3 j4
def o8 (a:Addr)(O:Addr->Bool):Addr->Bool:=λb=>if b=a then false else O b
theorem mU (h:b≠a):o8 a O b=O b:=by unfold o8;rw[af h]
theorem vm:o8 a O a=false:=by unfold o8;rw[ae rfl]
theorem rA:∀b,o8 a O b=true->O b=true:=λb h=>by
 by_cases c:b=a
 ·subst c;rw[vm]at h;cases h
 ·rw[mU c]at h;exact h
def frz (Z:En)(i:Nat):En:=match Z[i]? with
 |some (.ow p)=>Z.set i (.fr p)
 |_=>Z
theorem Rep.freeze (R:Rep K G B σ H Z O)(i:Nat):∃O',Rep K G B σ H (frz Z i) O':=by
 unfold frz;split
 ·rename_i p e;obtain⟨a,vs,e1,e2,e3,e4,e5⟩:=R.ow i p e;have sub:Same (mn H O) (mn H (o8 a O)):=mH rA;have sees:Rd (mn H (o8 a O)) a (.lst vs):=.inl (by rw[lB vm];exact e4);have hp:At K G (mn H (o8 a O)) p (.ref a):=by
   cases p<;>first
    |exact False.elim e5
    |(have e5:=e5.mono sub;exact⟨a,vs,rfl,sees,e5⟩)
    |(have e5':vs=_:=e5;subst e5';exact⟨a,rfl,sees⟩)
  refine⟨o8 a O,R.same,R.cd,λb z=>?_,λb z=>R.dom b (rA b z),λb z=>R.vis b (rA b z),λj q ej=>?_,λj q ej=>?_,λj k q r b j1 j2 j3 j4=>?_,by rw[aT];exact R.len,λj xs ys ej=>?_,λj q ej=>?_,λj kvs ej=>?_,λj k q r b j1 j2 j3 j4=>?_⟩
  ·rw[mU]
   ·exact R.hid b z
   ·intro y;subst y;exact R.cd b z e3
  ·rcases gA ej with⟨rfl,e',_⟩|⟨n,e'⟩
   ·cases e';exact⟨.ref a,e1,hp⟩
   ·obtain⟨v,f1,f2⟩:=R.fr j q e';exact⟨v,f1,At.mono sub _ _ f2⟩
  ·rcases gA ej with⟨rfl,e',_⟩|⟨n,e'⟩
   ·cases e'
   ·obtain⟨b,ws,f1,f2,f3,f4,f5⟩:=R.ow j q e';refine⟨b,ws,f1,?_,f3,f4,f5.mono sub⟩;rw[mU]
    ·exact f2
    ·intro z;subst z;exact n (R.inj i j p q b e e' e1 f1)
  ·rcases gA j1 with⟨_,e',_⟩|⟨_,y1⟩
   ·cases e'
   ·rcases gA j2 with⟨_,e',_⟩|⟨_,y2⟩
    ·cases e'
    ·exact R.inj j k q r b y1 y2 j3 j4
  ·rcases gA ej with⟨rfl,e',_⟩|⟨n,e'⟩
   ·cases e'
   ·obtain⟨D,a1,b1,q⟩:=R.o2 j xs ys e';obtain⟨u1,u2,u3⟩:=q.un i p a e e1;refine⟨D,a1,b1,q.at_,by rw[mU (bP u1)];exact q.oD,by rw[mU (bP u2)];exact q.oa,by rw[mU (bP u3)];exact q.ob,q.nD,q.na,q.nb,q.hD,q.ha,q.hb,q.ab,λk r c e1 e2=>?_,λk xs' ys' e1=>?_⟩
    ·rcases gA e1 with⟨_,e',_⟩|⟨_,e1⟩
     ·cases e'
     ·exact q.un k r c e1 e2
    ·rcases gA e1 with⟨_,e',_⟩|⟨n',e'⟩
     ·cases e'
     ·exact q.one k xs' ys' e'
  ·rcases gA ej with⟨rfl,e',_⟩|⟨n,e'⟩
   ·cases e'
   ·obtain⟨v,f1,f2⟩:=R.rd j q e';exact⟨v,f1,At.mono (mH (Fe rA)) _ _ f2⟩
  ·rcases gA ej with⟨_,e',_⟩|⟨_,e'⟩
   ·cases e'
   ·obtain⟨b,f1,f2,f3,f4⟩:=R.od j kvs e';refine⟨b,f1,?_,f3,f4⟩;rw[mU]
    ·exact f2
    ·intro z;subst z;rw[e4]at f4;cases f4
  ·rcases gA j1 with⟨_,e',_⟩|⟨_,y1⟩
   ·cases e'
   ·rcases gA j2 with⟨_,e',_⟩|⟨_,y2⟩
    ·cases e'
    ·exact R.oi j k q r b y1 y2 j3 j4
 ·exact⟨O,R⟩
def Bs.at (B:Bs)(H:Hp)(O:Addr->Bool):Bs:=⟨λb=>if (O b && (B.H0 b).isNone)=true then none else H b,B.Oc⟩
theorem Bs.at_of (h:O b=false\/B.H0 b≠none):(B.at H O).H0 b=H b:=by
 show(if (O b && (B.H0 b).isNone)=true then none else H b)=H b;rw[af];rcases h with h|h
 ·rw[h];simp
 ·cases e:B.H0 b with
  |none=>exact absurd e h
  |some o=>simp
theorem Rep.rebase (R:Rep K G B σ H Z O):Rep K G (B.at H O) σ H Z O:=by
 refine⟨λb o z=>?_,λa z=>?_,R.hid,R.dom,λa z=>?_,R.fr,λi p e=>?_,R.inj,R.len,λi xs ys e=>?_,R.rd,λi kvs e=>?_,R.oi⟩
 ·have z:(if (O b && (B.H0 b).isNone)=true then none else H b)=some o:=z;by_cases c:(O b && (B.H0 b).isNone)=true
  ·rw[ae c]at z;cases z
  ·rw[af c]at z;exact .of z
 ·rw[Bs.at_of (.inr (R.cd a z))];exact R.dom a (R.hid a z)
 ·rcases R.vis a z with y|y
  ·exact .inl y
  ·refine .inr ?_;show(if (O a && (B.H0 a).isNone)=true then none else H a)=none;rw[ae (by rw[z,y];rfl)]
 ·obtain⟨a,vs,e1,e2,e3,e4,e5⟩:=R.ow i p e;refine⟨a,vs,e1,e2,?_,e4,e5⟩;show(if (O a && (B.H0 a).isNone)=true then none else H a)=none;rw[ae (by rw[e2,e3];rfl)]
 ·obtain⟨D,a,b,q⟩:=R.o2 i xs ys e;have z:∀c,O c=true->B.H0 c=none->(B.at H O).H0 c=none:=λc h1 h2=>by show(if (O c && (B.H0 c).isNone)=true then none else H c)=none;rw[ae (by rw[h1,h2];rfl)]
  exact⟨D,a,b,q.at_,q.oD,q.oa,q.ob,z D q.oD q.nD,z a q.oa q.na,z b q.ob q.nb,q.hD,q.ha,q.hb,q.ab,q.un,q.one⟩
 ·obtain⟨a,e1,e2,e3,e4⟩:=R.od i kvs e;refine⟨a,e1,e2,?_,e4⟩;show(if (O a && (B.H0 a).isNone)=true then none else H a)=none;rw[ae (by rw[e2,e3];rfl)]
theorem Rep.jk (R:Rep K G B σ H Z O):Same B.H0 (B.at H O).H0:=λb o z=>by rw[Bs.at_of (.inr (by rw[z];exact λy=>by cases y))];exact R.same b o z
theorem Rep.pX (B:Bs)(H:Hp)(O:Addr->Bool):Same (mn H O) (B.at H O).H0:=mR λb o z=>by obtain⟨c,e⟩:=lU z;rw[Bs.at_of (.inl c)];exact e
theorem Rep.zq {σ':L2.St}{Z':En}{O':Addr->Bool}(R:Rep K G B σ H Z O)(R':Rep K G (B.at H O) σ' H' Z' O'):Rep K G B σ' H' Z' O':=by
 refine⟨R.jk.trans R'.same,R.cd,R'.hid,R'.dom,λa z=>(R'.vis a z).imp id λy=>R.jk.free y,R'.fr,λi p e=>?_,R'.inj,R'.len,λi xs ys e=>?_,R'.rd,λi kvs e=>let ⟨a,e1,e2,e3,e4⟩:=R'.od i kvs e;⟨a,e1,e2,R.jk.free e3,e4⟩,R'.oi⟩
 ·obtain⟨a,vs,e1,e2,e3,e4,e5⟩:=R'.ow i p e;exact⟨a,vs,e1,e2,R.jk.free e3,e4,e5⟩
 ·obtain⟨D,a,b,q⟩:=R'.o2 i xs ys e;exact⟨D,a,b,q.at_,q.oD,q.oa,q.ob,R.jk.free q.nD,R.jk.free q.na,R.jk.free q.nb,q.hD,q.ha,q.hb,q.ab,q.un,q.one⟩
theorem Rep.seen (R:Rep K G B σ H Z O)(R':Rep K G (B.at H O) σ' H' Z' O'):Same (mn H O) (mn H' O'):=λb o z=>by
 obtain⟨c,e⟩:=lU z;have z0:(B.at H O).H0 b=some o:=by rw[Bs.at_of (.inl c)];exact e
 rw[lB]
 ·exact R'.same b o z0
 ·cases y:O' b with
  |false=>rfl
  |true=>
   rcases R'.vis b y with y|y
   ·rw[R.hid b y]at c;cases c
   ·rw[z0]at y;cases y
end
def xR (Z:En)(i:Nat):Int:=match Z[i]? with
 |some (.fr (.int n))=>n
 |_=>0
def isI (Z:En)(i:Nat):Prop:=Z[i]?=some (.fr (.int (xR Z i)))
def getL (Z:En)(i:Nat):List Int:=match Z[i]? with
 |some (.fr (.ints ns))=>ns
 |some (.ow (.ints ns))=>ns
 |some (.fr (.scr ns))=>ns
 |_=>[]
def Qo (Z:En)(i:Nat):Prop:=Z[i]?=some (.fr (.ints (getL Z i)))
def Nb (Z:En)(i:Nat):Prop:=Z[i]?=some (.ow (.ints (getL Z i)))
def zj (Z:En)(i:Nat):Prop:=Qo Z i\/Nb Z i\/Z[i]?=some (.fr (.scr (getL Z i)))
def pJ (Z:En)(i:Nat):PV:=match Z[i]? with
 |some (.fr p)=>p
 |some (.ow p)=>p
 |_=>.non
def isF (Z:En)(i:Nat):Prop:=Z[i]?=some (.fr (pJ Z i))
def Ql (Z:En)(i:Nat):Str:=match Z[i]? with
 |some (.fr (.str s))=>s
 |_=>Str.empty
def Rq (Z:En)(i:Nat):Prop:=Z[i]?=some (.fr (.str (Ql Z i)))
section
variable {K:Fg}{G:Gx}{B:Bs}{σ:L2.St}{H H':Hp}{Z:En}{O:Addr->Bool}{i:Nat}
theorem Rep.Et (R:Rep K G B σ H Z O)(h:zj Z i):∃a,σ[i]?=some (some (.ref a))/\SqL K H a ((getL Z i).map V.int):=by
 rcases h with h|h|h
 ·obtain⟨v,e1,a,e2,e3⟩:=R.fr i _ h;subst e2;exact⟨a,e1,.inl (gY iz e3)⟩
 ·obtain⟨a,vs,e1,e2,e3,e4,e5⟩:=R.ow i _ h;subst e5;exact⟨a,e1,.inl (.inl e4)⟩
 ·obtain⟨v,e1,a,e2,e3⟩:=R.fr i _ h;subst e2;exact⟨a,e1,iz.seq e3⟩
end
def tX (K:Fg)(G:Gx)(C:En->Prop)(g:En->PV):TE:=λσ H Q=>∃B Z O,Rep K G B σ H Z O/\C Z/\∀v H',Same H H' -> At K G (mn H' O) (g Z) v->Q v H'
def vA (K:Fg)(G:Gx)(C:En->Prop)(g:En->List Int):TE:=λσ H Q=>∃B Z O,Rep K G B σ H Z O/\C Z/\∀a H',Same H H' -> H a=none->H' a=some (.lst ((g Z).map V.int))->Q (.ref a) H'
def JN (K:Fg)(G:Gx)(C:En->Prop)(g:En->List PV):TE:=λσ H Q=>∃B Z O,Rep K G B σ H Z O/\C Z/\∀a vs H',Same H H' -> H a=none->H' a=some (.lst vs)->jy K G (mn H' (hide a O)) (g Z) vs->Q (.ref a) H'
def yU (K:Fg)(G:Gx)(C:En->Prop)(g:En->List PV):TA:=λσ H Q=>∃B Z O,Rep K G B σ H Z O/\C Z/\∀vs H',Same H H' -> jy K G (mn H' O) (g Z) vs->Q vs H'
def uv (K:Fg)(G:Gx)(C:En->Prop)(p:En->Prop)[∀Z,Decidable (p Z)]:TT:=λσ H Q=>∃B Z O,Rep K G B σ H Z O/\C Z/\∀H',Same H H' -> Q (decide (p Z)) H'
abbrev jj (K:Fg)(G:Gx)(C:En->Prop)(g:En->Int):TE:=tX K G C λZ=>.int (g Z)
abbrev zR (K:Fg)(G:Gx)(C:En->Prop)(g:En->List Int):TE:=tX K G C λZ=>.ints (g Z)
abbrev Ed (K:Fg)(G:Gx)(C:En->Prop)(p:En->Prop)[∀Z,Decidable (p Z)]:TE:=tX K G C λZ=>.bl (decide (p Z))
abbrev Rn (K:Fg)(G:Gx)(C:En->Prop)(g:En->Str):TE:=tX K G C λZ=>.str (g Z)
section
variable {X:Cx}{G:Gx}{a b:Expr}{pos:Pos}{Ca Cb:En->Prop}{ga gb:En->Int}{i:Nat}{x:Str}{e:Expr}{t:TE}{C:En->Prop}{g:En->PV}{gl hl:En->List Int}
theorem mY (h:PE X e t)(k:∀B σ H Z O Q,Rep X.K G B σ H Z O->C Z->(∀v H',Same H H' -> At X.K G (mn H' O) (g Z) v->Q v H')->t σ H Q):PE X e (tX X.K G C g):=
 λpins s σ H Q I ⟨B,Z,O,R,c,q⟩=>h pins s σ H Q I (k B σ H Z O Q R c q)
theorem yc (h:PE X e t)(k:∀B σ H Z O Q,Rep X.K G B σ H Z O->C Z->(∀a H',Same H H' -> H a=none->H' a=some (.lst ((gl Z).map V.int))->Q (.ref a) H')->t σ H Q):PE X e (vA X.K G C gl):=
 λpins s σ H Q I ⟨B,Z,O,R,c,q⟩=>h pins s σ H Q I (k B σ H Z O Q R c q)
theorem jt (h:PE X e (vA X.K G C gl)):PE X e (zR X.K G C gl):=mY h λB σ H Z O Q R c q=>⟨B,Z,O,R,c,λa H' s n e=>q _ H' s ⟨a,rfl,.inl (by
 rw[lB]
 ·exact e
 ·cases z:O a with
  |false=>rfl
  |true=>exact absurd n (R.dom a z))⟩⟩
theorem Qq (h:PE X e (JN X.K G C gp)):PE X e (tX X.K G C λZ=>.lst (gp Z)):=mY h λB σ H Z O Q R c q=>⟨B,Z,O,R,c,λa vs H' s n e al=>q _ H' s ⟨a,vs,rfl,.inl (by
 rw[lB]
 ·exact e
 ·cases z:O a with
  |false=>rfl
  |true=>exact absurd n (R.dom a z)),jy.mono (mH je) _ _ al⟩⟩
theorem gw:PE X (.Constant (.int n) j pos) (jj X.K G (λ_=>True) λ_=>n):=mY pe_int λ_ _ H _ _ _ _ _ q=>q _ H (Same.refl H) rfl
theorem tH:PE X (.Constant (.bool n) j pos) (tX X.K G (λ_=>True) λ_=>.bl n):=mY pe_bl λ_ _ H _ _ _ _ _ q=>q _ H (Same.refl H) rfl
theorem Mt:PE X (.Constant .none j pos) (tX X.K G (λ_=>True) λ_=>.non):=mY pe_non λ_ _ H _ _ _ _ _ q=>q _ H (Same.refl H) rfl
theorem Eg:PE X (.Constant (.str n) j pos) (Rn X.K G (λ_=>True) λ_=>n):=mY pe_str λ_ _ H _ _ _ _ _ q=>q _ H (Same.refl H) rfl
theorem nW (hg:Gl X x)(hm:X.mg x=none)(hv:bootBuiltins x=some (.type u))(hn:x≠"__name__":=by decide)(hd:(x == ("__debug__":Str))=false:=by decide):PE X (.Name x pos) (tX X.K G (λ_=>True) λ_=>.ty u):=
 mY (pe_bltn (v:=.ty u) hg hm hv rfl hn hd) λ_ _ H _ _ _ _ _ q=>q _ H (Same.refl H) rfl
theorem jY (hg:Gl X x)(hm:X.mg x=some (.ref c))(hd:(x == ("__debug__":Str))=false:=by decide):PE X (.Name x pos) (tX X.K G (λ_=>True) λ_=>.cls c):=
 mY (pe_glob (v:=.ref c) hg hm rfl hd) λ_ _ H _ _ _ _ _ q=>q _ H (Same.refl H) rfl
theorem xv (i:Nat)(hN:X.N[i]?=some x:=by rfl)(hv:Vis X.env.scope x:=by walk_at "v")
  (hd:(x == ("__debug__":Str))=false:=by decide) (hcd:(x == ("__classdict__":Str))=false:=by decide):PE X (.Name x pos) (tX X.K G (λZ=>isF Z i) λZ=>pJ Z i):=
 mY (pe_var hN hv hd hcd) λ_ _ H _ _ _ R c q=>let ⟨v,e,h⟩:=R.fr i _ c;⟨v,e,q v H (Same.refl H) h⟩
theorem xn (i:Nat)(hN:X.N[i]?=some x:=by rfl)(hv:Vis X.env.scope x:=by walk_at "v")
  (hd:(x == ("__debug__":Str))=false:=by decide) (hcd:(x == ("__classdict__":Str))=false:=by decide):PE X (.Name x pos) (jj X.K G (λZ=>isI Z i) λZ=>xR Z i):=
 mY (pe_var hN hv hd hcd) λ_ _ H _ _ _ R c q=>let ⟨v,e,h⟩:=R.fr i _ c;⟨v,e,q v H (Same.refl H) h⟩
theorem xl (i:Nat)(hN:X.N[i]?=some x:=by rfl)(hv:Vis X.env.scope x:=by walk_at "v")
  (hd:(x == ("__debug__":Str))=false:=by decide) (hcd:(x == ("__classdict__":Str))=false:=by decide):PE X (.Name x pos) (zR X.K G (λZ=>Qo Z i) λZ=>getL Z i):=
 mY (pe_var hN hv hd hcd) λ_ _ H _ _ _ R c q=>let ⟨v,e,h⟩:=R.fr i _ c;⟨v,e,q v H (Same.refl H) h⟩
theorem xr (i:Nat)(hN:X.N[i]?=some x:=by rfl)(hv:Vis X.env.scope x:=by walk_at "v")
  (hd:(x == ("__debug__":Str))=false:=by decide) (hcd:(x == ("__classdict__":Str))=false:=by decide):PE X (.Name x pos) (tX X.K G (λZ=>Z[i]?=some (.fr (.scr (getL Z i)))) λZ=>.scr (getL Z i)):=
 mY (pe_var hN hv hd hcd) λ_ _ H _ _ _ R c q=>let ⟨v,e,h⟩:=R.fr i _ c;⟨v,e,q v H (Same.refl H) h⟩
theorem two {r:R2}{ga gb:En->PV}{σ:L2.St}{B:Bs}{O:Addr->Bool}(R:Rep X.K G B σ H Z O)(ca:Ca Z)(cb:Cb Z)(q:∀v u H1 H2,Same H H1->Same H1 H2->At X.K G (mn H2 O) (ga Z) v->At X.K G (mn H2 O) (gb Z) u->r v u H2 Q) :
  tOp r (tX X.K G Ca ga) (tX X.K G Cb gb) σ H Q:=
 ⟨B,Z,O,R,ca,λv H1 s1 a1=>⟨B,Z,O,R.grow s1,cb,λu H2 s2 a2=>q v u H1 H2 s1 s2 (At.mono (jn s2) _ _ a1) a2⟩⟩
theorem Dt {op:Operator}{C:Int->Int->Prop}{g:Int->Int->Int}(ho:OpR X (binaryOp op) (rI C λi j=>.int (g i j)))(ha:PE X a (jj X.K G Ca ga))(hb:PE X b (jj X.K G Cb gb)) :
  PE X (.BinOp a op b pos) (jj X.K G (λZ=>Ca Z/\Cb Z/\C (ga Z) (gb Z)) λZ=>g (ga Z) (gb Z)):=
 mY (pe_op ho ha hb) λ_ _ _ _ _ _ R c q=>two R c.1 c.2.1 λ_ _ _ H2 s1 s2 a1 a2=>⟨_,_,a1,a2,c.2.2,q _ H2 (s1.trans s2) rfl⟩
theorem Gn {op:Operator}{g:Int->Int->Int}(ho:OpR X (binaryOp op) (rI0 λi j=>.int (g i j)))(ha:PE X a (jj X.K G Ca ga))(hb:PE X b (jj X.K G Cb gb)) :
  PE X (.BinOp a op b pos) (jj X.K G (λZ=>Ca Z/\Cb Z) λZ=>g (ga Z) (gb Z)):=
 mY (pe_op ho ha hb) λ_ _ _ _ _ _ R c q=>two R c.1 c.2 λ_ _ _ H2 s1 s2 a1 a2=>⟨_,_,a1,a2,q _ H2 (s1.trans s2) rfl⟩
theorem lN (ha:PE X a (jj X.K G Ca ga))(hb:PE X b (jj X.K G Cb gb)):PE X (.BinOp a .Add b pos) (jj X.K G (λZ=>Ca Z/\Cb Z) λZ=>ga Z+gb Z):=Gn op_add ha hb
theorem kO (ha:PE X a (jj X.K G Ca ga))(hb:PE X b (jj X.K G Cb gb)):PE X (.BinOp a .Sub b pos) (jj X.K G (λZ=>Ca Z/\Cb Z) λZ=>ga Z-gb Z):=Gn op_sub ha hb
theorem jF (ha:PE X a (jj X.K G Ca ga))(hb:PE X b (jj X.K G Cb gb)):PE X (.BinOp a .Mult b pos) (jj X.K G (λZ=>Ca Z/\Cb Z/\IntMulOk (ga Z) (gb Z)) λZ=>ga Z*gb Z):=Dt vM ha hb
theorem jx (ha:PE X a (jj X.K G Ca ga))(hb:PE X b (jj X.K G Cb gb)):PE X (.BinOp a .Mod b pos) (jj X.K G (λZ=>Ca Z/\Cb Z/\0<gb Z) λZ=>ga Z % gb Z):=Dt op_mod ha hb
theorem sZ (ha:PE X a (jj X.K G Ca ga))(hb:PE X b (jj X.K G Cb gb)):PE X (.BinOp a .FloorDiv b pos) (jj X.K G (λZ=>Ca Z/\Cb Z/\Bt (ga Z) (gb Z)) λZ=>ga Z / gb Z):=Dt Dz ha hb
theorem zO (ha:PE X a (jj X.K G Ca ga)):PE X (.UnaryOp .USub a pos) (jj X.K G Ca λZ=>-ga Z):=
 mY (pe_un un_neg ha) λB _ _ Z O _ R c q=>⟨B,Z,O,R,c,λ_ H1 s1 a1=>⟨_,a1,q _ H1 s1 rfl⟩⟩
theorem vO {op:CmpOp}{p:Int->Int->Prop}[∀i j,Decidable (p i j)](ho:OpR X (compareOp op) (rI0 λi j=>.bl (decide (p i j))))(hm:behindInMarks op b=false)(ha:PE X a (jj X.K G Ca ga))(hb:PE X b (jj X.K G Cb gb)) :
  PT X (.Compare a [op] [b] pos) (uv X.K G (λZ=>Ca Z/\Cb Z) λZ=>p (ga Z) (gb Z)):=
 λpins s σ H Q I ⟨_,_,_,R,c,q⟩=>pt_cmpR ho ha hb hm pins s σ H Q I (two R c.1 c.2 λ_ _ _ H2 s1 s2 a1 a2=>⟨_,_,a1,a2,_,rfl,q H2 (s1.trans s2)⟩)
theorem zY (ha:PE X a (jj X.K G Ca ga))(hb:PE X b (jj X.K G Cb gb)):PT X (.Compare a [.Gt] [b] pos) (uv X.K G (λZ=>Ca Z/\Cb Z) λZ=>gb Z<ga Z):=vO (p:=λi j=>j<i) op_gt (nomark _) ha hb
theorem OD (ha:PE X a (jj X.K G Ca ga))(hb:PE X b (jj X.K G Cb gb)):PT X (.Compare a [.GtE] [b] pos) (uv X.K G (λZ=>Ca Z/\Cb Z) λZ=>gb Z<=ga Z):=vO (p:=λi j=>j<=i) op_ge (nomark _) ha hb
theorem Kh (ha:PE X a (jj X.K G Ca ga))(hb:PE X b (jj X.K G Cb gb)):PT X (.Compare a [.Eq] [b] pos) (uv X.K G (λZ=>Ca Z/\Cb Z) λZ=>ga Z=gb Z):=vO EY (nomark _) ha hb
theorem Bc (ha:PE X a (jj X.K G Ca ga))(hb:PE X b (jj X.K G Cb gb)):PT X (.Compare a [.NotEq] [b] pos) (uv X.K G (λZ=>Ca Z/\Cb Z) λZ=>¬ga Z=gb Z):=vO (p:=λi j=>¬i=j) K9 (nomark _) ha hb
variable {pa pb:En->Prop}[∀Z,Decidable (pa Z)][∀Z,Decidable (pb Z)]{rest:List Expr}
theorem pD (h:PE X e (Ed X.K G Ca pa))(he:∀whole,isTrue e X.env whole=(do let v <- whole;standAt e.pos;holding [v] (truthy v)):=by intro _;rfl):PT X e (uv X.K G Ca pa):=
 λpins s σ H Q I ⟨B,Z,O,R,c,q⟩=>pt_val h he pins s σ H Q I ⟨B,Z,O,R,c,λ_ H1 s1 a1=>⟨_,a1,q H1 s1⟩⟩
theorem lO (ha:PT X a (uv X.K G Ca pa)):PT X (.UnaryOp .Not a pos) (uv X.K G Ca λZ=>¬pa Z):=
 λpins s σ H Q I ⟨B,Z,O,R,c,q⟩=>L2.pt_not ha pins s σ H Q I ⟨B,Z,O,R,c,λH1 s1=>by have z:=q H1 s1;rw[fy]at z;exact z⟩
theorem vz (ha:PT X a (uv X.K G Ca pa)):PW X (.BoolOp .Or [a] pos) (uv X.K G Ca pa):=pw_or1 ha
theorem qI (ha:PT X a (uv X.K G Ca pa))(hb:PW X (.BoolOp .Or (b::rest) pos) (uv X.K G Cb pb)):PW X (.BoolOp .Or (a::b::rest) pos) (uv X.K G (λZ=>Ca Z/\(¬pa Z->Cb Z)) λZ=>pa Z\/pb Z):=
 λwh pins s σ H Q I ⟨B,Z,O,R,c,q⟩=>pw_or ha hb wh pins s σ H Q I ⟨B,Z,O,R,c.1,λH1 s1=>by
  by_cases d:pa Z
  ·have z:=q H1 s1;rw[aM (Or.inl d:pa Z\/pb Z)]at z;rw[aM d];refine iteT ?_;exact z
  ·rw[aH d];refine iteF ?_;refine⟨B,Z,O,R.grow s1,c.2 d,λH2 s2=>?_⟩;have z:=q H2 (s1.trans s2);have e:decide (pa Z\/pb Z)=decide (pb Z):=by simp[d]
   rw[e]at z;exact z⟩
theorem yJ (ha:PE X a (Ed X.K G Ca pa)):PE X (.UnaryOp .Not a pos) (Ed X.K G Ca λZ=>¬pa Z):=
 mY (pe_not ha) λB _ _ Z O _ R c q=>⟨B,Z,O,R,c,λ_ H1 s1 a1=>⟨_,a1,q _ H1 s1 (by rw[fy];rfl)⟩⟩
theorem rT (ha:PE X a (Ed X.K G Ca pa))(hb:PE X (.BoolOp .And (b::rest) pos) (Ed X.K G Cb pb)):PE X (.BoolOp .And (a::b::rest) pos) (Ed X.K G (λZ=>Ca Z/\(pa Z->Cb Z)) λZ=>pa Z/\pb Z):=
 mY (pe_and ha hb) λB _ _ Z O _ R c q=>⟨B,Z,O,R,c.1,λ_ H1 s1 a1=>⟨_,a1,by
  by_cases d:pa Z
  ·rw[aM d];refine iteT ?_;refine⟨B,Z,O,R.grow s1,c.2 d,λv H2 s2 a2=>q v H2 (s1.trans s2) ?_⟩;have e:decide (pa Z/\pb Z)=decide (pb Z):=by simp[d]
   rw[e];exact a2
  ·have z:=q (.bl false) H1 s1 (by rw[aH (λy=>d y.1:¬(pa Z/\pb Z))];rfl);rw[aH d];refine iteF ?_;exact z⟩⟩
variable {es:List Expr}{gs:En->List PV}
theorem gF:PA X [] (yU X.K G (λ_=>True) λ_=>[]):=λpos pins s σ H Q I ⟨_,_,_,_,_,q⟩=>pa_nil pos pins s σ H Q I (q [] H (Same.refl H) rfl)
theorem gm (ha:PE X e (tX X.K G Ca g))(hr:PA X es (yU X.K G Cb gs))(hs:starEach (e::es) X.env=(false,eval e X.env)::starEach es X.env:=by rfl):PA X (e::es) (yU X.K G (λZ=>Ca Z/\Cb Z) λZ=>g Z::gs Z):=
 λpos pins s σ H Q I ⟨B,Z,O,R,c,q⟩=>pa_cons ha hr hs pos pins s σ H Q I ⟨B,Z,O,R,c.1,λv H1 s1 a1=>⟨B,Z,O,R.grow s1,c.2,λvs H2 s2 a2=>q _ H2 (s1.trans s2) ⟨v,vs,rfl,At.mono (jn s2) _ _ a1,a2⟩⟩⟩
end
structure Ps where
 nx:En->Prop
 rt:PV->Prop
 rl:List Int->Prop:=λ_=>False
 rn:PV->Prop:=λ_=>False
 bk:En->Prop:=λ_=>False
 ct:En->Prop:=λ_=>False
 er:Addr->Prop:=λ_=>False
abbrev Ps.sq (P:Ps)(k:En->Prop):Ps:={ P with nx:=k }
abbrev Ps.lp (P:Ps)(k:En->Prop):Ps:={ P with nx:=k,ct:=k,bk:=P.nx }
abbrev ER:=Addr->Hp->Prop
abbrev PQ:ER:=λ_ _=>False
abbrev FS:=Ps->En->Prop
def qg (K:Fg)(G:Gx)(B:Bs)(σ:L2.St)(H:Hp)(Z:En):Prop:=∃O,Rep K G B σ H Z O
structure PB (K:Fg)(G:Gx)(Er:ER)(B:Bs)(P:Ps)(D:Ends):Prop where
 nx:∀σ H Z,qg K G B σ H Z->P.nx Z->D.nx σ H
 rt:∀v H p,Same B.H0 H->At K G (mn H B.Oc) p v->P.rt p->D.rt v H
 rl:∀a H ns,Same B.H0 H->B.H0 a=none->H a=some (.lst (ns.map V.int))->P.rl ns->D.rt (.ref a) H
 rn:∀v H p,Same B.H0 H->At K G (mn H λa=>(B.H0 a).isSome) p v->P.rn p->D.rt v H
 bk:∀σ H Z,qg K G B σ H Z->P.bk Z->D.bk σ H
 ct:∀σ H Z,qg K G B σ H Z->P.ct Z->D.ct σ H
 er:∀H C,Same B.H0 H->P.er C->Er C H
def ts (K:Fg)(G:Gx)(Er:ER)(f:FS):TS:=λD σ H=>∃B Z P,qg K G B σ H Z/\f P Z/\PB K G Er B P D
section
variable {X:Cx}{G:Gx}{Er:ER}{pos:Pos}{st:Stmt}{sts:List Stmt}{f f1 f2:FS}{C:En->Prop}{e:Expr}{t:TS}
theorem toS (h:PS X st t)(k:∀B σ H Z O P D,Rep X.K G B σ H Z O->f P Z->PB X.K G Er B P D->t D σ H):PS X st (ts X.K G Er f):=
 λpins s σ H D I ⟨B,Z,P,⟨O,R⟩,c,w⟩=>h pins s σ H D I (k B σ H Z O P D R c w)
theorem iT:PSs X [] (ts X.K G Er λP Z=>P.nx Z):=λpins s σ H D I ⟨_,Z,_,R,c,w⟩=>pss_nil pins s σ H D I (w.nx σ H Z R c)
theorem gG (h:PS X st (ts X.K G Er f)):PSs X [st] (ts X.K G Er f):=pss_one h
theorem gq (h1:PS X st (ts X.K G Er f1))(h2:PSs X sts (ts X.K G Er f2)):PSs X (st::sts) (ts X.K G Er λP Z=>f1 (P.sq (f2 P)) Z):=
 λpins s σ H D I ⟨B,Z,P,R,c,w⟩=>pss_cons h1 h2 pins s σ H D I ⟨B,Z,{ P with nx:=f2 P },R,c,⟨λ_ _ Z' R' c'=>⟨B,Z',P,R',c',w⟩,w.rt,w.rl,w.rn,w.bk,w.ct,w.er⟩⟩
theorem GD (h1:PS X st (ts X.K G Er f1))(h2:PSs X sts (ts X.K G Er f2)):PSs X (st::sts) (ts X.K G Er λP Z=>∃J:En->Prop,f1 (P.sq J) Z/\∀Z',J Z' -> f2 P Z'):=
 λpins s σ H D I ⟨B,Z,P,R,⟨J,c,k⟩,w⟩=>pss_cons h1 h2 pins s σ H D I ⟨B,Z,{ P with nx:=J },R,c,⟨λ_ _ Z' R' c'=>⟨B,Z',P,R',k Z' c',w⟩,w.rt,w.rl,w.rn,w.bk,w.ct,w.er⟩⟩
theorem jo (i:Nat)(h:PSs X sts (ts X.K G Er f)):PSs X sts (ts X.K G Er λP Z=>f P (frz Z i)):=
 λpins s σ H D I ⟨B,Z,P,⟨_,R⟩,c,w⟩=>h pins s σ H D I ⟨B,frz Z i,P,R.freeze i,c,w⟩
theorem uL:PS X st (ts X.K G Er λ_ _=>False):=toS ps_never λ_ _ _ _ _ _ _ _ c _=>c
theorem iu (h:PE X e (tX X.K G C g)):PS X (.Return (some e) pos) (ts X.K G Er λP Z=>C Z/\P.rt (g Z)):=
 toS (ps_ret h) λB _ _ Z O _ _ R c w=>⟨B,Z,O,R,c.1,λv H1 s1 a1=>w.rt v H1 _ (R.same.trans s1) (At.mono (mH R.hid) _ _ a1) c.2⟩
theorem pU (h:PE X e (vA X.K G C g)):PS X (.Return (some e) pos) (ts X.K G Er λP Z=>C Z/\P.rl (g Z)):=
 toS (ps_ret h) λB _ _ Z O _ _ R c w=>⟨B,Z,O,R,c.1,λa H1 s1 n1 e1=>w.rl a H1 _ (R.same.trans s1) (R.same.free n1) e1 c.2⟩
theorem yu (i:Nat)(hN:X.N[i]?=some x:=by rfl)(hv:Vis X.env.scope x:=by walk_at "v")
  (hd:(x == ("__debug__":Str))=false:=by decide) (hcd:(x == ("__classdict__":Str))=false:=by decide):PS X (.Return (some (.Name x px)) pos) (ts X.K G Er λP Z=>Nb Z i/\P.rl (getL Z i)):=
 toS (ps_ret (pe_var hN hv hd hcd)) λB _ H Z O _ _ R c w=>by obtain⟨a,vs,e1,e2,e3,e4,e5⟩:=R.ow i _ c.1;subst e5;exact⟨_,e1,w.rl a H _ R.same e3 e4 c.2⟩
theorem wH (hN:X.N.Nodup)(hi:X.N[i]?=some x)(hx:Loc X.env.scope x)(he:PE X e (tX X.K G C g))(hs:swapsWith e (some (.Name x pos')) pos.line X.env=pure false:=by rfl)
  (hf:X.fn x=true\/X.env.scope.names.lookup x=some .local:=by walk_at "w"):PS X (.Assign [.Name x pos'] e pos) (ts X.K G Er λP Z=>C Z/\P.nx (Z.set i (.fr (g Z)))):=
 toS (ps_set hN hi hx he hs hf) λB σ _ Z O _ _ R c w=>⟨B,Z,O,R,c.1,λ_ H1 s1 a1=>w.nx _ H1 _ ⟨O,(R.grow s1).set a1⟩ c.2⟩
theorem nH (hN:X.N.Nodup)(hi:X.N[i]?=some x)(hx:Loc X.env.scope x)(he:PE X e (tX X.K G C g))(hs:swapsWith e (some (.Name x pos')) pos.line X.env=pure false:=by rfl)
  (hf:X.fn x=true\/X.env.scope.names.lookup x=some .local:=by walk_at "w"):PS X (.Assign [.Name x pos'] e pos) (ts X.K G Er λP Z=>C Z/\∀p,p=g Z->P.nx (Z.set i (.fr p))):=
 toS (wH hN hi hx he hs hf) λB σ _ Z O P D R c w=>⟨B,Z,P,⟨O,R⟩,⟨c.1,c.2 _ rfl⟩,w⟩
theorem gP (hN:X.N.Nodup)(hi:X.N[i]?=some x)(hx:Loc X.env.scope x)(he:PE X e (jj X.K G C g))(hs:swapsWith e (some (.Name x pos')) pos.line X.env=pure false:=by rfl)
  (hf:X.fn x=true\/X.env.scope.names.lookup x=some .local:=by walk_at "w"):PS X (.Assign [.Name x pos'] e pos) (ts X.K G Er λP Z=>C Z/\∀n,n=g Z->P.nx (Z.set i (.fr (.int n)))):=
 toS (wH hN hi hx he hs hf) λB σ _ Z O P D R c w=>⟨B,Z,P,⟨O,R⟩,⟨c.1,c.2 _ rfl⟩,w⟩
theorem gU (hN:X.N.Nodup)(hi:X.N[i]?=some x)(hx:Loc X.env.scope x)(he:PE X e (zR X.K G C g))(hs:swapsWith e (some (.Name x pos')) pos.line X.env=pure false:=by rfl)
  (hf:X.fn x=true\/X.env.scope.names.lookup x=some .local:=by walk_at "w"):PS X (.Assign [.Name x pos'] e pos) (ts X.K G Er λP Z=>C Z/\∀ns,ns=g Z->P.nx (Z.set i (.fr (.ints ns)))):=
 toS (wH hN hi hx he hs hf) λB σ _ Z O P D R c w=>⟨B,Z,P,⟨O,R⟩,⟨c.1,c.2 _ rfl⟩,w⟩
theorem pM (hN:X.N.Nodup)(hi:X.N[i]?=some x)(hx:Loc X.env.scope x)(he:PE X e (vA X.K G C g))(hs:swapsWith e (some (.Name x pos')) pos.line X.env=pure false:=by rfl)
  (hf:X.fn x=true\/X.env.scope.names.lookup x=some .local:=by walk_at "w"):PS X (.Assign [.Name x pos'] e pos) (ts X.K G Er λP Z=>C Z/\∀ns,ns=g Z->P.nx (Z.set i (.ow (.ints ns)))):=
 toS (ps_set hN hi hx he hs hf) λB σ _ Z O _ _ R c w=>⟨B,Z,O,R,c.1,λa H1 s1 n1 e1=>w.nx _ H1 _ ⟨hide a O,R.new (p:=.ints (g Z)) s1 n1 e1 rfl⟩ (c.2 _ rfl)⟩
theorem tD (hN:X.N.Nodup)(hi:X.N[i]?=some x)(hx:Loc X.env.scope x)(he:PE X e (JN X.K G C g))(hs:swapsWith e (some (.Name x pos')) pos.line X.env=pure false:=by rfl)
  (hf:X.fn x=true\/X.env.scope.names.lookup x=some .local:=by walk_at "w"):PS X (.Assign [.Name x pos'] e pos) (ts X.K G Er λP Z=>C Z/\∀ns,ns=g Z->P.nx (Z.set i (.ow (.lst ns)))):=
 toS (ps_set hN hi hx he hs hf) λB σ _ Z O _ _ R c w=>⟨B,Z,O,R,c.1,λa vs H1 s1 n1 e1 al=>w.nx _ H1 _ ⟨hide a O,R.new (p:=.lst (g Z)) s1 n1 e1 al⟩ (c.2 _ rfl)⟩
theorem BJ {i:Nat}{op:Operator}{g:En->Int}{Pr:Int->Int->Prop}{h:Int->Int->Int}(hN:X.N.Nodup)(hi:X.N[i]?=some x)(hx:Loc X.env.scope x)(he:PE X e (jj X.K G C g))(ho:OpR X (inplaceOp op) (rI Pr λi j=>.int (h i j)))
  (hf:X.fn x=true\/X.env.scope.names.lookup x=some .local:=by walk_at "w"):PS X (.AugAssign (.Name x pos') op e pos) (ts X.K G Er λP Z=>isI Z i/\C Z/\Pr (xR Z i) (g Z)/\∀n,n=h (xR Z i) (g Z)->P.nx (Z.set i (.fr (.int n)))):=
 toS (ps_aug hN hi hx he ho hf) λB σ H Z O _ _ R c w=>by obtain⟨c0,c1,c2,c3⟩:=c;obtain⟨v,e1,e2⟩:=R.fr i _ c0;subst e2;exact⟨_,e1,B,Z,O,R,c1,λy H1 s1 a1=>⟨_,_,rfl,a1,c2,w.nx _ H1 _ ⟨O,(R.grow s1).set (p:=.int _) rfl⟩ (c3 _ rfl)⟩⟩
theorem jq [∀Z,Decidable (p Z)](hc:PT X c (uv X.K G C p))(ha:PSs X a (ts X.K G Er f1))(hb:PSs X b (ts X.K G Er f2)):PS X (.If c a b pos) (ts X.K G Er λP Z=>C Z/\(p Z->f1 P Z)/\(¬p Z->f2 P Z)):=
 toS (ps_if hc ha hb) λB σ _ Z O P D R c w=>⟨B,Z,O,R,c.1,λH1 s1=>by
  by_cases d:p Z
  ·rw[aM d];refine iteT ?_;exact⟨B,Z,P,⟨O,R.grow s1⟩,c.2.1 d,w⟩
  ·rw[aH d];refine iteF ?_;exact⟨B,Z,P,⟨O,R.grow s1⟩,c.2.2 d,w⟩⟩
theorem j9 {c:Expr}{body:List Stmt}{p:En->Prop}[∀Z,Decidable (p Z)](hp:PassesOwn (model X.prog X.w) X.A X.env X.xe)(hc:PT X c (uv X.K G C p))(hb:PSs X body (ts X.K G Er f)) :
  PS X (.While c body [] pos) (ts X.K G Er λP Z=>∃(W:En->Prop) (μ:En->Nat),W Z/\∀Z,W Z->C Z/\(p Z->f (P.lp λZ'=>W Z'/\μ Z'<μ Z) Z)/\(¬p Z->P.nx Z)):=
 toS (ps_while hp hc hb) λB σ H Z O P D R c w=>by
  obtain⟨W,μ,w0,st⟩:=c;refine⟨λm σ H=>∃Z,qg X.K G B σ H Z/\W Z/\m=μ Z,⟨μ Z,Z,⟨O,R⟩,w0,rfl⟩,?_⟩;rintro m σ H ⟨Z,⟨O,R⟩,hw,rfl⟩;obtain⟨c1,c2,c3⟩:=st Z hw;refine⟨B,Z,O,R,c1,λH1 s1=>?_⟩;by_cases d:p Z
  ·rw[aM d];refine iteT ?_;refine⟨λσ' H'=>∃Z',qg X.K G B σ' H' Z'/\W Z'/\μ Z'<μ Z,λσ' H' ⟨Z',R',h1,h2⟩=>⟨_,h2,Z',R',h1,rfl⟩,B,Z,_,⟨O,R.grow s1⟩,c2 d,⟨λσ' H' Z' R' h=>⟨Z',R',h⟩,w.rt,w.rl,w.rn,w.nx,λσ' H' Z' R' h=>⟨Z',R',h⟩,w.er⟩⟩
  ·rw[aH d];refine iteF ?_;exact w.nx σ H1 Z ⟨O,R.grow s1⟩ (c3 d)
theorem su {k:Nat}{x:Str}{a:Expr}{body:List Stmt}{g:En->Int}{p px pos':Pos}(hp:PassesOwn (model X.prog X.w) X.A X.env X.xe)(hc:X.calm=true)(hg:Gl X "range")(hm:X.mg "range"=none)(ha:PE X a (jj X.K G C g))(hN:X.N.Nodup)(hi:X.N[k]?=some x)(hx:Loc X.env.scope x)
  (hb:PSs X body (ts X.K G Er f)) (hs:starEach [a] X.env=[(false,eval a X.env)]:=by rfl) (hfs:∀x,foldedSetIterable (.Call (.Name "range" p) [a] [] pos') X.env x=pure x:=by intro _;rfl)
  (hf:X.fn x=true\/X.env.scope.names.lookup x=some .local:=by walk_at "w") :
  PS X (.For (.Name x px) (.Call (.Name "range" p) [a] [] pos') body [] pos) (ts X.K G Er λP Z=>C Z/\(-(2^62)<=g Z/\g Z<2^62)/\∃W:Nat->En->Prop,W 0 Z/\(∀i Z',i<(g Z).toNat->W i Z' -> f (P.lp (W (i+1))) (Z'.set k (.fr (.int i))))/\∀Z',W (g Z).toNat Z' -> P.nx Z'):=
 toS (ps_for hp hc (pi_range1 hg hm (pa_cons ha pa_nil hs) hs) (pg_name hN hi hx hf) hb hfs) λB σ H Z O P D R c w=>by
  obtain⟨c1,⟨l1,l2⟩,W,w0,st,nd⟩:=c;refine⟨B,Z,O,R,c1,λv H1 s1 a1=>?_⟩;have a1:v=.int (g Z):=a1;subst a1;refine⟨g Z,rfl,l1,l2,for_range (λi σ H=>∃Z',qg X.K G B σ H Z'/\W i Z') ⟨Z,⟨O,R.grow s1⟩,w0⟩ ?_ ?_⟩
  ·rintro i σ H hi ⟨Z',⟨O',R'⟩,hw⟩;have e:(0:Int)+i=i:=by lia
   rw[e];exact⟨B,_,_,⟨O',R'.set (p:=.int i) rfl⟩,st i Z' hi hw,⟨λσ' H' Z' R' h=>⟨Z',R',h⟩,w.rt,w.rl,w.rn,w.nx,λσ' H' Z' R' h=>⟨Z',R',h⟩,w.er⟩⟩
  ·rintro σ H ⟨Z',R',hw⟩;exact w.nx σ H Z' R' (nd Z' hw)
theorem Ci {k:Nat}{x:Str}{a b:Expr}{body:List Stmt}{Cb:En->Prop}{g h:En->Int}{p px pos':Pos}(hp:PassesOwn (model X.prog X.w) X.A X.env X.xe)(hc:X.calm=true)(hg:Gl X "range")(hm:X.mg "range"=none)(ha:PE X a (jj X.K G C g))(hb':PE X b (jj X.K G Cb h))(hN:X.N.Nodup)(hi:X.N[k]?=some x)(hx:Loc X.env.scope x)
  (hb:PSs X body (ts X.K G Er f)) (hs:starEach [a,b] X.env=[(false,eval a X.env),(false,eval b X.env)]:=by rfl) (hs2:starEach [b] X.env=[(false,eval b X.env)]:=by rfl) (hfs:∀x,foldedSetIterable (.Call (.Name "range" p) [a,b] [] pos') X.env x=pure x:=by intro _;rfl)
  (hf:X.fn x=true\/X.env.scope.names.lookup x=some .local:=by walk_at "w") :
  PS X (.For (.Name x px) (.Call (.Name "range" p) [a,b] [] pos') body [] pos) (ts X.K G Er λP Z=>(C Z/\Cb Z)/\(-(2^62)<=g Z/\g Z<2^62 /\ -(2^62)<=h Z/\h Z<2^62) /\
   ∃W:Nat->En->Prop,W 0 Z/\(∀i Z',i<(h Z-g Z).toNat->W i Z' -> f (P.lp (W (i+1))) (Z'.set k (.fr (.int (g Z+i)))))/\∀Z',W (h Z-g Z).toNat Z' -> P.nx Z'):=
 toS (ps_for hp hc (pi_range2 hg hm (pa_cons ha (pa_cons hb' pa_nil hs2) (by rw[hs,hs2])) hs hs2) (pg_name hN hi hx hf) hb hfs) λB σ H Z O P D R c w=>by
  obtain⟨⟨c1,c2⟩,l,W,w0,st,nd⟩:=c;refine⟨B,Z,O,R,c1,λv H1 s1 a1=>⟨B,Z,O,R.grow s1,c2,λu H2 s2 a2=>?_⟩⟩;have a1:v=.int (g Z):=a1;have a2:u=.int (h Z):=a2;subst a1 a2;refine⟨g Z,h Z,rfl,l,for_range (λi σ H=>∃Z',qg X.K G B σ H Z'/\W i Z') ⟨Z,⟨O,(R.grow s1).grow s2⟩,w0⟩ ?_ ?_⟩
  ·rintro i σ H hi ⟨Z',⟨O',R'⟩,hw⟩;exact⟨B,_,_,⟨O',R'.set (p:=.int _) rfl⟩,st i Z' hi hw,⟨λσ' H' Z' R' h=>⟨Z',R',h⟩,w.rt,w.rl,w.rn,w.nx,λσ' H' Z' R' h=>⟨Z',R',h⟩,w.er⟩⟩
  ·rintro σ H ⟨Z',R',hw⟩;exact w.nx σ H Z' R' (nd Z' hw)
theorem nM {B:Bs}{σ:L2.St}{H:Hp}{Z:En}{O:Addr->Bool}{K:Fg}{P:Ps}{D:Ends}(R:Rep K G B σ H Z O)(w:PB K G Er B P D):PB K G Er (B.at H O) P D:=
 ⟨λσ' H' Z' ⟨O',R'⟩ h=>w.nx σ' H' Z' ⟨O',R.zq R'⟩ h,λv H' p s a h=>w.rt v H' p (R.jk.trans s) a h,λa H' ns s n e h=>w.rl a H' ns (R.jk.trans s) (R.jk.free n) e h,λv H' p s a h=>w.rn v H' p (R.jk.trans s) (At.mono (mH λb z=>by
  obtain⟨o,e⟩:=bQ.mp z;exact bQ.mpr (R.jk _ _ e).some) _ _ a) h,λσ' H' Z' ⟨O',R'⟩ h=>w.bk σ' H' Z' ⟨O',R.zq R'⟩ h,λσ' H' Z' ⟨O',R'⟩ h=>w.ct σ' H' Z' ⟨O',R.zq R'⟩ h,λH' C s h=>w.er H' C (R.jk.trans s) h⟩
theorem wY {k:Nat}{x:Str}{l:Expr}{body:List Stmt}{g:En->List Int}{px:Pos}(hp:PassesOwn (model X.prog X.w) X.A X.env X.xe)(hc:X.calm=true)(hl:PE X l (zR X.K G C g))(hN:X.N.Nodup)(hi:X.N[k]?=some x)(hx:Loc X.env.scope x)
  (hb:PSs X body (ts X.K G Er f)) (hfs:∀x,foldedSetIterable l X.env x=pure x:=by intro _;rfl) (hf:X.fn x=true\/X.env.scope.names.lookup x=some .local:=by walk_at "w") :
  PS X (.For (.Name x px) l body [] pos) (ts X.K G Er λP Z=>C Z/\∃W:Nat->En->Prop,W 0 Z/\(∀i n Z',(g Z)[i]?=some n->W i Z' -> f (P.lp (W (i+1))) (Z'.set k (.fr (.int n))))/\∀Z',W (g Z).length Z' -> P.nx Z'):=
 toS (ps_for hp hc (pi_list hl) (pg_name hN hi hx hf) hb hfs) λB σ H Z O P D R c w=>by
  obtain⟨c1,W,w0,st,nd⟩:=c;refine⟨B,Z,O,R,c1,λv H1 s1 a1=>?_⟩;obtain⟨a,e,hq⟩:=a1;have R1:=R.grow s1;have w1:=nM R1 w;refine⟨a,e,⟨_,.inl (gY iz hq)⟩,for_list (xs:=(g Z).map V.int) (λi σ H=>∃Z',qg X.K G (B.at H1 O) σ H Z'/\W i Z') ⟨Z,⟨O,R1.rebase⟩,w0⟩ ?_ ?_ ?_⟩
  ·rintro i σ H _ ⟨Z',⟨O',R'⟩,_⟩;exact .inl (gY ((Rep.pX B H1 O).trans R'.same) hq)
  ·rintro i y σ H hy ⟨Z',⟨O',R'⟩,hw⟩;rw[au]at hy;cases en:(g Z)[i]? with
   |none=>rw[en]at hy;cases hy
   |some n=>rw[en]at hy;have hy:V.int n=y:=aw hy;subst hy;exact⟨_,_,_,⟨O',R'.set (p:=.int n) rfl⟩,st i n Z' en hw,⟨λσ' H' Z' R' h=>⟨Z',R',h⟩,w1.rt,w1.rl,w1.rn,w1.nx,λσ' H' Z' R' h=>⟨Z',R',h⟩,w1.er⟩⟩
  ·rintro σ H ⟨Z',R',hw⟩;rw[aa]at hw;exact w1.nx σ H Z' R' (nd Z' hw)
theorem Gi {k:Nat}{x:Str}{l:Expr}{body:List Stmt}{g:En->List PV}{px:Pos}(hp:PassesOwn (model X.prog X.w) X.A X.env X.xe)(hc:X.calm=true)(hl:PE X l (tX X.K G C λZ=>.lst (g Z)))(hN:X.N.Nodup)(hi:X.N[k]?=some x)(hx:Loc X.env.scope x)
  (hb:PSs X body (ts X.K G Er f)) (hfs:∀x,foldedSetIterable l X.env x=pure x:=by intro _;rfl) (hf:X.fn x=true\/X.env.scope.names.lookup x=some .local:=by walk_at "w") :
  PS X (.For (.Name x px) l body [] pos) (ts X.K G Er λP Z=>C Z/\∃W:Nat->En->Prop,W 0 Z/\(∀i n Z',(g Z)[i]?=some n->W i Z' -> f (P.lp (W (i+1))) (Z'.set k (.fr n)))/\∀Z',W (g Z).length Z' -> P.nx Z'):=
 toS (ps_for hp hc (pi_list hl) (pg_name hN hi hx hf) hb hfs) λB σ H Z O P D R c w=>by
  obtain⟨c1,W,w0,st,nd⟩:=c;refine⟨B,Z,O,R,c1,λv H1 s1 a1=>?_⟩;obtain⟨a,vs,e,hq,hal⟩:=a1;have R1:=R.grow s1;have w1:=nM R1 w;have el:=hal.length;refine⟨a,e,⟨_,.inl (gY iz hq)⟩,for_list (xs:=vs) (λi σ H=>∃Z',qg X.K G (B.at H1 O) σ H Z'/\W i Z') ⟨Z,⟨O,R1.rebase⟩,w0⟩ ?_ ?_ ?_⟩
  ·rintro i σ H _ ⟨Z',⟨O',R'⟩,_⟩;exact .inl (gY ((Rep.pX B H1 O).trans R'.same) hq)
  ·rintro i y σ H hy ⟨Z',⟨O',R'⟩,hw⟩;obtain⟨n,en,an⟩:=hal.get hy;exact⟨_,_,_,⟨O',R'.set (At.mono (R1.seen R') _ _ an)⟩,st i n Z' en hw,⟨λσ' H' Z' R' h=>⟨Z',R',h⟩,w1.rt,w1.rl,w1.rn,w1.nx,λσ' H' Z' R' h=>⟨Z',R',h⟩,w1.er⟩⟩
  ·rintro σ H ⟨Z',R',hw⟩;rw[<- el]at hw;exact w1.nx σ H Z' R' (nd Z' hw)
theorem Do {k j:Nat}{x y:Str}{l:Expr}{body:List Stmt}{g:En->List Int}{px py p pos' tp:Pos}{kk:Nat}(hp:PassesOwn (model X.prog X.w) X.A X.env X.xe)(hc:X.calm=true)(hg:Gl X "enumerate")(hm:X.mg "enumerate"=none)(hl:PE X l (zR X.K G C g))
  (hgt:PG X (.Tuple [.Name x px,.Name y py] kk tp) (gTup X.K 2 (gCons (gName k) (gCons (gName j) gNil)))) (hb:PSs X body (ts X.K G Er f)) (hs:starEach [l] X.env=[(false,eval l X.env)]:=by rfl)
  (hfs:∀x,foldedSetIterable (.Call (.Name "enumerate" p) [l] [] pos') X.env x=pure x:=by intro _;rfl) :
  PS X (.For (.Tuple [.Name x px,.Name y py] kk tp) (.Call (.Name "enumerate" p) [l] [] pos') body [] pos) (ts X.K G Er λP Z=>C Z/\∃W:Nat->En->Prop,W 0 Z /\
   (∀i n Z',(g Z)[i]?=some n->W i Z' -> f (P.lp (W (i+1))) ((Z'.set k (.fr (.int i))).set j (.fr (.int n))))/\∀Z',W (g Z).length Z' -> P.nx Z'):=
 toS (ps_for hp hc (Bu hg hm (pa_cons hl pa_nil hs) hs) hgt hb hfs) λB σ H Z O P D R c w=>by
  obtain⟨c1,W,w0,st,nd⟩:=c;refine⟨B,Z,O,R,c1,λv H1 s1 a1=>?_⟩;obtain⟨a,e,hq⟩:=a1;subst e;have R1:=R.grow s1;have w1:=nM R1 w;refine⟨a,rfl,⟨_,.inl (gY iz hq)⟩,Gw (xs:=(g Z).map V.int) (λi σ H=>∃Z',qg X.K G (B.at H1 O) σ H Z'/\W i Z') ⟨Z,⟨O,R1.rebase⟩,w0⟩ ?_ ?_ ?_⟩
  ·rintro i σ H _ ⟨Z',⟨O',R'⟩,_⟩;exact .inl (gY ((Rep.pX B H1 O).trans R'.same) hq)
  ·rintro i y σ H T hy ⟨Z',⟨O',R'⟩,hw⟩ hT;obtain⟨n,rfl,en⟩:=int_at hy;refine⟨T,_,rfl,SqT.of upd_same,rfl,_,_,rfl,_,_,rfl,rfl,?_⟩;exact⟨_,_,_,⟨O',((R'.grow (same_new hT _)).set (p:=.int i) rfl).set (p:=.int n) rfl⟩,st i n Z' en hw,⟨λσ' H' Z' R' h=>⟨Z',R',h⟩,w1.rt,w1.rl,w1.rn,w1.nx,λσ' H' Z' R' h=>⟨Z',R',h⟩,w1.er⟩⟩
  ·rintro σ H ⟨Z',R',hw⟩;rw[aa]at hw;exact w1.nx σ H Z' R' (nd Z' hw)
end
theorem getD_at {ns:Li}{i:Int}(h1:-(ns.length:Int)<=i)(h2:i<ns.length):atI (ns.map V.int) i=some (V.int (ns.getD (if 0<=i then i else i+ns.length).toNat 0)):=by
 by_cases c0:0<=i
 ·rw[ae c0];exact rD c0 h2
 ·rw[af c0];have q2:=rD (ns:=ns) (i:=i+ns.length) (by lia) (by lia);unfold atI ixN at q2 ⊢;rw[aa]at q2 ⊢;rw[ae (show 0<=i+(ns.length:Int) by lia),ae (show i+(ns.length:Int)<(ns.length:Int) by lia)]at q2;rw[af c0,ae h1];exact q2
def jP (n:Nat)(i:Int):Nat:=(if 0<=i then i else i+n).toNat
theorem Eh {n:Nat}(h1:-(n:Int)<=i)(h2:i<n):ixN n i=some (jP n i):=by
 unfold ixN jP;by_cases c:0<=i
 ·rw[ae c,ae h2,ae c]
 ·rw[af c,ae h1,af c]
theorem Mi {n:Nat}(h1:-(n:Int)<=i)(h2:i<n):jP n i<n:=by
 unfold jP;by_cases c:0<=i
 ·rw[ae c];lia
 ·rw[af c];lia
section
variable {X:Cx}{G:Gx}{Er:ER}{a b e:Expr}{pos p px:Pos}{C Ca Cb:En->Prop}{ga gb:En->Int}{i:Nat}{es:List Expr}
theorem mV (i:Nat)(hb:PE X b (jj X.K G Cb gb))(hs:PlainIx b)(hN:X.N[i]?=some x:=by rfl)(hv:Vis X.env.scope x:=by walk_at "v")
  (hd:(x == ("__debug__":Str))=false:=by decide) (hcd:(x == ("__classdict__":Str))=false:=by decide) :
  PE X (.Subscript (.Name x px) b pos) (jj X.K G (λZ=>zj Z i/\Cb Z /\ -((getL Z i).length:Int)<=gb Z/\gb Z<((getL Z i).length:Int)) λZ=>(getL Z i).getD (jP (getL Z i).length (gb Z)) 0):=
 mY (pe_ix ix_list (pe_var hN hv hd hcd) hb hs) λB σ H Z O Q R c q=>by obtain⟨a,e1,e2⟩:=R.Et c.1;exact⟨_,e1,B,Z,O,R,c.2.1,λu H1 s1 a1=>⟨a,_,_,_,rfl,a1,s1.seq e2,getD_at c.2.2.1 c.2.2.2,q _ H1 s1 rfl⟩⟩
theorem jT (i:Nat)(hm:X.mg "len"=none)(hN:X.N[i]?=some x:=by rfl)(hg:Gl X "len":=by rfl)(hv:Vis X.env.scope x:=by walk_at "v")
  (hd:(x == ("__debug__":Str))=false:=by decide) (hcd:(x == ("__classdict__":Str))=false:=by decide) (he:starEach [.Name x px] X.env=[(false,eval (.Name x px) X.env)]:=by rfl) :
  PE X (.Call (.Name "len" p) [.Name x px] [] pos) (jj X.K G (λZ=>zj Z i) λZ=>((getL Z i).length:Int)):=
 mY (pe_callB call_len_seq hg hm Gp (pa_cons (pe_var hN hv hd hcd) pa_nil he) (by decide) (by decide) he rfl) λB σ H Z O Q R c q=>by obtain⟨a,e1,e2⟩:=R.Et c;exact⟨_,e1,a,_,rfl,.inl e2,by rw[aa];exact q _ H (Same.refl H) rfl⟩
def Oe:PV->Int
 | .ints ns=>(ns.length:Int)
 | .scr ns=>(ns.length:Int)
 | .lst xs=>(xs.length:Int)
 | .tup xs=>(xs.length:Int)
 |_=>0
def FJ:PV->Prop
 | .ints _=>True
 | .scr _=>True
 | .lst _=>True
 | .tup _=>True
 |_=>False
theorem At.len {K:Fg}{H:Hp}{p:PV}{v:V}(h:At K G H p v)(hl:FJ p):∃a ys,v=.ref a/\(SqL K H a ys\/SqT K H a ys)/\(ys.length:Int)=Oe p:=by
 cases p<;>first|exact hl.elim|skip
 ·obtain⟨a,e,q⟩:=h;exact⟨a,_,e,.inl (.inl q),by rw[aa];rfl⟩
 ·obtain⟨a,e,q⟩:=h;exact⟨a,_,e,.inl q,by rw[aa];rfl⟩
 ·obtain⟨a,vs,e,q,r⟩:=h;exact⟨a,vs,e,.inl (.inl q),by rw[<- r.length];rfl⟩
 ·obtain⟨a,vs,e,q,r⟩:=h;exact⟨a,vs,e,.inr (SqT.of q),by rw[<- r.length];rfl⟩
theorem wG {g:En->PV}(hm:X.mg "len"=none)(ha:PE X a (tX X.K G C g))(hg:Gl X "len":=by rfl)(he:starEach [a] X.env=[(false,eval a X.env)]:=by rfl) :
  PE X (.Call (.Name "len" p) [a] [] pos) (jj X.K G (λZ=>C Z/\FJ (g Z)) λZ=>Oe (g Z)):=
 mY (pe_callB call_len_seq hg hm Gp (pa_cons ha pa_nil he) (by decide) (by decide) he rfl) λB σ H Z O Q R c q=>⟨B,Z,O,R,c.1,λv H1 s1 a1=>by
  obtain⟨a,ys,e,s,l⟩:=a1.len c.2;exact⟨a,ys,by rw[e],s.imp (λz=>iz.seq z) (λz=>Du iz z),by rw[l];exact q _ H1 s1 rfl⟩⟩
def Af:PV->Int->PV
 | .lst xs,k=>xs.getD (jP xs.length k) .non
 | .tup xs,k=>xs.getD (jP xs.length k) .non
 | .ints ns,k=>.int (ns.getD (jP ns.length k) 0)
 |_,_=>.non
def sr:PV->Int->Prop
 | .lst xs,k=>-(xs.length:Int)<=k/\k<xs.length
 | .tup xs,k=>-(xs.length:Int)<=k/\k<xs.length
 | .ints xs,k=>-(xs.length:Int)<=k/\k<xs.length
 |_,_=>False
theorem jy.item {K:Fg}{H:Hp}{ps:List PV}{vs:List V}{k:Int}(h:jy K G H ps vs)(h1:-(ps.length:Int)<=k)(h2:k<ps.length):∃v,atI vs k=some v/\At K G H (ps.getD (jP ps.length k) .non) v:=by
 have l:=Mi h1 h2;have e:ps[jP ps.length k]?=some (ps.getD (jP ps.length k) .non):=by rw[gQ,aB l];rfl
 obtain⟨v,ev,av⟩:=h.at e;refine⟨v,?_,av⟩;unfold atI;rw[<- h.length,Eh h1 h2];exact ev
theorem jL {g:En->PV}(ha:PE X a (tX X.K G Ca g))(hb:PE X b (jj X.K G Cb gb))(hs:PlainIx b):PE X (.Subscript a b pos) (tX X.K G (λZ=>Ca Z/\Cb Z/\sr (g Z) (gb Z)) λZ=>Af (g Z) (gb Z)):=
 mY (pe_ix ix_seq ha hb hs) λB σ H Z O Q R c q=>two R c.1 c.2.1 λv u H1 H2 s1 s2 a1 a2=>by
  have h:=c.2.2;revert a1 h q;generalize g Z=pg;intro q a1 h;cases pg<;>first|exact h.elim|skip
  ·obtain⟨p,e,r⟩:=a1;exact .inl ⟨p,_,_,_,e,a2,.inl (gY iz r),getD_at h.1 h.2,q _ H2 (s1.trans s2) rfl⟩
  ·obtain⟨p,vs,e,r,t⟩:=a1;obtain⟨v',e',a'⟩:=t.item h.1 h.2;exact .inl ⟨p,vs,_,v',e,a2,.inl (gY iz r),e',q _ H2 (s1.trans s2) a'⟩
  ·obtain⟨p,vs,e,r,t⟩:=a1;obtain⟨v',e',a'⟩:=t.item h.1 h.2;exact .inr (.inl ⟨p,vs,_,v',e,a2,SqT.of (iz _ _ r),e',q _ H2 (s1.trans s2) a'⟩)
theorem pW (i:Nat)(hN:X.N[i]?=some x:=by rfl)(hv:Vis X.env.scope x:=by walk_at "v")
  (hd:(x == ("__debug__":Str))=false:=by decide) (hcd:(x == ("__classdict__":Str))=false:=by decide):PT X (.Name x pos) (uv X.K G (λZ=>zj Z i) λZ=>¬getL Z i=[]):=
 λpins s σ H Q I ⟨B,Z,O,R,c,q⟩=>pt_truth (pe_var hN hv hd hcd) (λ_=>rfl) pins s σ H Q I (by
  obtain⟨a,e1,e2⟩:=R.Et c;refine⟨_,e1,_,.inl ⟨_,e2,rfl⟩,?_⟩;have z:=q H (Same.refl H);have e:(!((getL Z i).map V.int).isEmpty)=decide (¬getL Z i=[]):=by cases getL Z i<;>simp
  rw[e];exact z)
def lE:List PV->List Int
 | .int n::r=>n::lE r
 |_=>[]
def wB:List PV->Prop
 |[]=>True
 | .int _::r=>wB r
 |_=>False
theorem jy.ints {K:Fg}{H:Hp}:∀{ps:List PV} {vs:List V},jy K G H ps vs->wB ps->vs=(lE ps).map V.int
 |[],_,h,_=>h
 |p::ps,_,h,c=>by
  cases p<;>first|exact c.elim|skip
  obtain⟨v,r,rfl,e,t⟩:=h;rw[e,jy.ints t c];rfl
theorem mO {gs:En->List PV}(h:PA X es (yU X.K G C gs))(hz:∀Z,(gs Z).length<=1000:=by intro _;exact dB rfl):PE X (.List es pos) (vA X.K G (λZ=>C Z/\wB (gs Z)) λZ=>lE (gs Z)):=
 yc (pe_lst h) λB σ H Z O Q R c q=>⟨B,Z,O,R,c.1,λvs H1 s1 a1=>⟨by rw[<- a1.length];exact bM (small1000 (hz Z)),λa ha=>by
  have e:=a1.ints c.2;refine q a _ (s1.trans (same_new ha _)) (s1.free ha) ?_;rw[upd_same,e]⟩⟩
theorem yK (h:PA X es (yU X.K G C gs))(hz:∀Z,(gs Z).length<=1000:=by intro _;exact dB rfl):PE X (.List es pos) (JN X.K G C gs):=
 λpins s σ H Q I ⟨B,Z,O,R,c,q⟩=>pe_lst h pins s σ H Q I ⟨B,Z,O,R,c,λvs H1 s1 a1=>⟨by rw[<- a1.length];exact bM (small1000 (hz Z)),λa ha=>
  q a vs _ (s1.trans (same_new ha _)) (s1.free ha) upd_same (jy.mono (jX (same_new ha _) ha) _ _ a1)⟩⟩
theorem rW (h:PA X es (yU X.K G C gs))(hz:∀Z,(gs Z).length<=1000:=by intro _;exact dB rfl):PE X (.Tuple es x1 pos) (tX X.K G C λZ=>.tup (gs Z)):=
 mY (pe_tup h) λB σ H Z O Q R c q=>⟨B,Z,O,R,c,λvs H1 s1 a1=>⟨by rw[<- a1.length];exact bM (small1000 (hz Z)),λa ha=>by
  have o:O a=false:=by
   cases z:O a with
   |false=>rfl
   |true=>exact absurd (s1.free ha) (R.dom a z)
  refine q (.ref a) _ (s1.trans (same_new ha _)) ⟨a,vs,rfl,by rw[lB o];exact upd_same,jy.mono (jn (same_new ha _)) _ _ a1⟩⟩⟩
theorem Bh (hm:X.mg "list"=none)(ha:PE X a (tX X.K G C g))(hn:∀Z,g Z=.ints (ns Z)\/g Z=.scr (ns Z))(hg:Gl X "list":=by rfl)(he:starEach [a] X.env=[(false,eval a X.env)]:=by rfl) :
  PE X (.Call (.Name "list" p) [a] [] pos) (vA X.K G C ns):=
 yc (pe_callTy call_list_of hg hm vU (pa_cons ha pa_nil he) (by decide) (by decide) he rfl) λB σ H Z O Q R c q=>⟨B,Z,O,R,c,λv H1 s1 a1=>by
  have key:∃p,v=.ref p/\SqL X.K H1 p ((ns Z).map V.int):=by
   rcases hn Z with z|z
   ·rw[z]at a1;obtain⟨p,e,r⟩:=a1;exact⟨p,e,.inl (gY iz r)⟩
   ·rw[z]at a1;obtain⟨p,e,r⟩:=a1;exact⟨p,e,iz.seq r⟩
  obtain⟨p,rfl,r⟩:=key;exact⟨p,_,rfl,.inl r,λl hl=>q l _ (s1.trans (same_new hl _)) (s1.free hl) upd_same⟩⟩
def j7 (xs:List Int)(lo hi:Option Int):List Int:=(xs.drop (HT.sIx xs.length 0 lo)).take (HT.sIx xs.length xs.length hi-HT.sIx xs.length 0 lo)
theorem Fp (xs:Li)(lo hi:Option Int):cutV (xs.map V.int) lo hi=(j7 xs lo hi).map V.int:=by unfold cutV j7;rw[aa,<- List.map_drop,<- List.map_take]
def K3 (K:Fg)(G:Gx)(C:En->Prop)(g:En->Option Int):TO:=λσ H Q=>∃B Z O,Rep K G B σ H Z O/\C Z/\∀H',Same H H' -> Q (g Z) H'
theorem mJ:PO X none (K3 X.K G (λ_=>True) λ_=>none):=λpins s σ H Q I ⟨_,_,_,_,_,q⟩=>po_none pins s σ H Q I (q H (Same.refl H))
theorem nZ (h:PE X e (jj X.K G C ga)):PO X (some e) (K3 X.K G C λZ=>some (ga Z)):=λpins s σ H Q I ⟨B,Z,O,R,c,q⟩=>po_some h pins s σ H Q I ⟨B,Z,O,R,c,λ_ H1 s1 a1=>⟨_,a1,q H1 s1⟩⟩
theorem m9 {lo hi:Option Expr}{g:En->PV}{ns:En->List Int}{Cl Ch:En->Prop}{gl gh:En->Option Int}(ha:PE X a (tX X.K G C g))(hl:PO X lo (K3 X.K G Cl gl))(hh:PO X hi (K3 X.K G Ch gh))(hn:∀Z,C Z->g Z=.ints (ns Z)\/g Z=.scr (ns Z)) :
  PE X (.Subscript a (.Slice lo hi none p2) pos) (vA X.K G (λZ=>C Z/\Cl Z/\Ch Z) λZ=>j7 (ns Z) (gl Z) (gh Z)):=
 yc (pe_slice sl_list ha hl hh) λB σ H Z O Q R c q=>⟨B,Z,O,R,c.1,λv H1 s1 a1=>⟨B,Z,O,R.grow s1,c.2.1,λH2 s2=>⟨B,Z,O,(R.grow s1).grow s2,c.2.2,λH3 s3=>by
  have key:∃p,v=.ref p/\SqL X.K H1 p ((ns Z).map V.int):=by
   rcases hn Z c.1 with z|z
   ·rw[z]at a1;obtain⟨p,e,r⟩:=a1;exact⟨p,e,.inl (gY iz r)⟩
   ·rw[z]at a1;obtain⟨p,e,r⟩:=a1;exact⟨p,e,iz.seq r⟩
  obtain⟨p,rfl,r⟩:=key;refine⟨p,_,rfl,(s2.trans s3).seq r,λl hl=>q l _ (((s1.trans s2).trans s3).trans (same_new hl _)) (((s1.trans s2).trans s3).free hl) ?_⟩;rw[upd_same,Fp]⟩⟩⟩
theorem Inv.ul {X:Cx}{pins:List (Addr×Obj)}{σ:L2.St}{H:Hp}{s:Shared}{l:Addr}{xs:List V}(I:Inv X pins σ H s)(hH:Rd H l (.lst xs)):xs.length<=sizeLine/\∃(its:Lv) (n:Nat),Vals xs its/\xs.length=its.length/\s.heap.get? l=some { cls:=.type "list",data:=.seq its.toArray n }:=by obtain⟨z,its,n,r,e⟩:=hH.ok I.hok;exact⟨z,its,n,r,r.length,e⟩
def Nm:R2:=λx y H Q=>∃l b xs zs,x=.ref l/\y=.ref b/\Rd H l (.lst xs)/\Rd H b (.lst zs)/\xs.length+zs.length<=sizeLine/\∀p,H p=none->Q (.ref p) (upd H p (.lst (xs++zs)))
theorem Ja:OpR X (binaryOp .Add) Nm:=by
 intro pins s σ H x y v u Q I rx ry h;obtain⟨l,b,xs,zs,rfl,rfl,hH,hB,hz,q⟩:=h;cases rx;cases ry;obtain⟨z,its,n,r,hl,e⟩:=Inv.ul I hH;obtain⟨z2,its2,n2,r2,hl2,e2⟩:=Inv.ul I hB;refine PySem.P.add_list e e2 ?_ (by rw[ao,ao];lia);have ea:its.toArray++its2.toArray=(its++its2).toArray:=by simp
 rw[ea];exact⟨.ref _,_,I.lnew (t':=s.toks) (r.append r2) (by rw[aN];lia),rfl,q _ I.fresh⟩
theorem G5 (ha:PE X a (zR X.K G Ca gl))(hb:PE X b (zR X.K G Cb hl)):PE X (.BinOp a .Add b pos) (vA X.K G (λZ=>Ca Z/\Cb Z/\(gl Z).length+(hl Z).length<=sizeLine) λZ=>gl Z++hl Z):=
 yc (pe_op Ja ha hb) λB σ H Z O Q R c q=>two R c.1 c.2.1 λv u H1 H2 s1 s2 a1 a2=>by obtain⟨l,rfl,r1⟩:=a1;obtain⟨b,rfl,r2⟩:=a2;refine⟨l,b,_,_,rfl,rfl,gY iz r1,gY iz r2,by rw[aa,aa];exact c.2.2,λp hp=>q p _ ((s1.trans s2).trans (same_new hp _)) ((s1.trans s2).free hp) ?_⟩;rw[upd_same,bF]
theorem xq {α:Type}(x:α):∀k:Nat,(List.replicate k [x]).flatten=List.replicate k x
 |0=>rfl
 |k+1=>by rw[b7,cT,xq x k];rfl
theorem MF {gl:En->List Int}{n:En->Int}(ha:PE X a (vA X.K G Ca gl))(hb:PE X b (jj X.K G Cb gb))(hn:∀Z,gl Z=[n Z]):PE X (.BinOp a .Mult b pos) (vA X.K G (λZ=>Ca Z/\Cb Z /\ -(2^63)<=gb Z/\(gb Z).toNat<=1000) λZ=>List.replicate (gb Z).toNat (n Z)):=
 yc (pe_op op_rep ha hb) λB σ H Z O Q R c q=>⟨B,Z,O,R,c.1,λl H1 s1 n1 e1=>⟨B,Z,O,R.grow s1,c.2.1,λu H2 s2 a2=>by
  rw[hn Z]at e1;refine⟨l,_,_,rfl,a2,s2 _ _ e1,c.2.2.1,by have:=c.2.2.2;lia,?_,λp hp=>q p _ ((s1.trans s2).trans (same_new hp _)) ((s1.trans s2).free hp) ?_⟩
  ·rw[aA,d5,bp,Nat.one_mul];exact bM (small1000 c.2.2.2)
  ·rw[upd_same,aA,d5,xq,List.map_replicate]⟩⟩
end
def HJ (K:Fg)(G:Gx)(pre:List PV->Prop)(F:List PV->PV):Sp:=λvs H Q _=>∃as O,(∀a,O a=true->H a≠none)/\jy K G (mn H O) as vs/\pre as/\∀v H',Same H H' -> At K G (mn H' O) (F as) v->Q v H'
def Ks (K:Fg)(G:Gx)(pre:List PV->Prop)(F:List PV->List Int):Sp:=λvs H Q _=>∃as O,(∀a,O a=true->H a≠none)/\jy K G (mn H O) as vs/\pre as/\∀a H',Same H H' -> H a=none->H' a=some (.lst ((F as).map V.int))->Q (.ref a) H'
section
variable {X:Cx}{G:Gx}{Er:ER}{e:Expr}{es:List Expr}{pos p:Pos}{j k:Nat}{x:Str}{ps:List Str}{pre:List PV->Prop}{C:En->Prop}{gs:En->List PV}
theorem xc (o:Ok X.prog X.w X.K X.mg X.base j x ps (HJ X.K G pre F))(hr:Room k X.A)(ha:PA X (e::es) (yU X.K G C gs))(hj:j<=k:=by decide)(hg:Gl X x:=by rfl)(hdb:(x == ("__debug__":Str))=false:=by decide)
  (he:starEach (e::es) X.env=(false,eval e X.env)::starEach es X.env:=by rfl) (hpl:(backTo pos (starEach es X.env)).any (·.1)=false:=by rfl) :
  PE X (.Call (.Name x p) (e::es) [] pos) (tX X.K G (λZ=>C Z/\pre (gs Z)) λZ=>F (gs Z)):=
 mY (nj o hr ha hj hg hdb he hpl) λB σ H Z O Q R c q=>⟨B,Z,O,R,c.1,λvs H1 s1 a1=>by
  dsimp only;rw[aZ];exact⟨gs Z,O,(R.grow s1).dom,a1,c.2,λv H2 s2 a2=>q v H2 (s1.trans s2) a2⟩⟩
theorem xf (o:Ok X.prog X.w X.K X.mg X.base j x ps (Ks X.K G pre F))(hr:Room k X.A)(ha:PA X (e::es) (yU X.K G C gs))(hj:j<=k:=by decide)(hg:Gl X x:=by rfl)(hdb:(x == ("__debug__":Str))=false:=by decide)
  (he:starEach (e::es) X.env=(false,eval e X.env)::starEach es X.env:=by rfl) (hpl:(backTo pos (starEach es X.env)).any (·.1)=false:=by rfl) :
  PE X (.Call (.Name x p) (e::es) [] pos) (vA X.K G (λZ=>C Z/\pre (gs Z)) λZ=>F (gs Z)):=
 yc (nj o hr ha hj hg hdb he hpl) λB σ H Z O Q R c q=>⟨B,Z,O,R,c.1,λvs H1 s1 a1=>by
  dsimp only;rw[aZ];exact⟨gs Z,O,(R.grow s1).dom,a1,c.2,λa H2 s2 n2 e2=>q a H2 (s1.trans s2) (s1.free n2) e2⟩⟩
end
def iZ (N:List Str)(as:List PV):En:=as.map Sl.fr++List.replicate (N.length-as.length) .un
theorem qD {i:Nat}{x:Sl}(e:(iZ N as)[i]?=some x):(∃p,x=.fr p)\/x=.un:=by
 unfold iZ at e;by_cases c:i<as.length
 ·rw[aS (by rw[aa];exact c),au]at e;cases e':as[i]? with
  |none=>rw[e']at e;cases e
  |some p'=>rw[e']at e;cases e;exact .inl ⟨_,rfl⟩
 ·rw[aX (by rw[aa];lia),bf]at e;split at e
  ·cases e;exact .inr rfl
  ·cases e
theorem mD {K:Fg}{G:Gx}{H:Hp}{O:Addr->Bool}{as:List PV}{vs:List V}{N:Ls}(hd:∀a,O a=true->H a≠none)(h:jy K G (mn H O) as vs):Rep K G ⟨H,O⟩ (L2.start N vs) H (iZ N as) O:=by
 have hl:=h.length;refine⟨Same.refl H,hd,λ_ z=>z,hd,λ_ z=>.inl z,λi p e=>?_,λi p e=>?_,λi j p q a e=>?_,by unfold L2.start iZ;simp[hl],λi xs ys e=>?_,(λi p e=>by rcases qD e with⟨_,z⟩|z<;>cases z),(λi p e=>by rcases qD e with⟨_,z⟩|z<;>cases z),(λi j p q a e=>by rcases qD e with⟨_,z⟩|z<;>cases z)⟩
 ·unfold iZ at e;by_cases c:i<as.length
  ·rw[aS (by rw[aa];exact c),au]at e;cases e':as[i]? with
   |none=>rw[e']at e;cases e
   |some p'=>rw[e']at e;cases e;obtain⟨v,ev,av⟩:=h.at e';refine⟨v,?_,av⟩;unfold L2.start;rw[aS (by rw[aa,<- hl];exact c),au,ev];rfl
  ·rw[aX (by rw[aa];lia),bf]at e;split at e<;>cases e
 ·exfalso;unfold iZ at e;by_cases c:i<as.length
  ·rw[aS (by rw[aa];exact c),au]at e;cases e':as[i]? <;> rw[e']at e<;>cases e
  ·rw[aX (by rw[aa];lia),bf]at e;split at e<;>cases e
 ·exfalso;unfold iZ at e;by_cases c:i<as.length
  ·rw[aS (by rw[aa];exact c),au]at e;cases e':as[i]? <;> rw[e']at e<;>cases e
  ·rw[aX (by rw[aa];lia),bf]at e;split at e<;>cases e
 ·exfalso;unfold iZ at e;by_cases c:i<as.length
  ·rw[aS (by rw[aa];exact c),au]at e;cases e':as[i]? <;> rw[e']at e<;>cases e
  ·rw[aX (by rw[aa];lia),bf]at e;split at e<;>cases e
section
variable {P:Program}{w:World}{K:Fg}{mg:Mg}{base:Heap}{G:Gx}
theorem HQ {x:Str}{st:Stmt}{N ps:Ls}{k:Nat}{pre:List PV->Prop}{F:List PV->PV}(d:mL K mg x st ps)(S:FnScope N ps (defScope st))(len:∀as,pre as->as.length=ps.length)
  (hbody:∀(f:Addr) (cdv:Value) (A:Around) (outer:List Env) (s:Shared) (H:Hp) (E:XK),Room k (A.deeper (envOfC x (defScope st) s.heap.objs.size f cdv)) ->
   ∃fs,PSs (cxOf CX0 P w K mg base N x (defScope st) f cdv A outer s H E).nox (defBody st) (ts K G PQ fs)/\∀as,pre as->fs { nx:=λ_=>F as=.non,rt:=λp=>p=F as,rl:=λns=>F as=.ints ns } (iZ N as)):Ok P w K mg base (k+1) x ps (HJ K G pre F):=by
 refine mL.ok d S (λvs H Q E h=>?_) λf cdv A outer s H vs Q E hr h=>?_
 ·obtain⟨as,O,_,al,hp,_⟩:=h;rw[<- al.length];exact len as hp
 obtain⟨as,O,hd,al,hp,q⟩:=h;obtain⟨fs,b,c⟩:=hbody f cdv A outer s H E hr;refine⟨_,b,⟨H,O⟩,iZ N as,_,⟨O,mD hd al⟩,c as hp,⟨λσ' H' Z' R' h=>?_,λv H' p s' a' h=>?_,λa H' ns s' n e h=>?_,λ_ _ _ _ _ h=>h.elim,λ_ _ _ _ h=>h,λ_ _ _ _ h=>h,λ_ _ _ h=>h⟩⟩
 ·obtain⟨O',R'⟩:=R';exact q .non H' R'.same (by rw[show F as=.non from h];rfl)
 ·subst h;exact q v H' s' a'
 ·refine q _ H' s' ?_;rw[h];exact⟨a,rfl,.inl (by
   rw[lB]
   ·exact e
   ·cases z:O a with
    |false=>rfl
    |true=>exact absurd n (hd a z))⟩
theorem Ng {x:Str}{st:Stmt}{N ps:Ls}{k:Nat}{pre:List PV->Prop}{F:List PV->List Int}(d:mL K mg x st ps)(S:FnScope N ps (defScope st))(len:∀as,pre as->as.length=ps.length)
  (hbody:∀(f:Addr) (cdv:Value) (A:Around) (outer:List Env) (s:Shared) (H:Hp) (E:XK),Room k (A.deeper (envOfC x (defScope st) s.heap.objs.size f cdv)) ->
   ∃fs,PSs (cxOf CX0 P w K mg base N x (defScope st) f cdv A outer s H E).nox (defBody st) (ts K G PQ fs)/\∀as,pre as->fs { nx:=λ_=>False,rt:=λ_=>False,rl:=λns=>ns=F as } (iZ N as)):Ok P w K mg base (k+1) x ps (Ks K G pre F):=by
 refine mL.ok d S (λvs H Q E h=>?_) λf cdv A outer s H vs Q E hr h=>?_
 ·obtain⟨as,O,_,al,hp,_⟩:=h;rw[<- al.length];exact len as hp
 obtain⟨as,O,hd,al,hp,q⟩:=h;obtain⟨fs,b,c⟩:=hbody f cdv A outer s H E hr;refine⟨_,b,⟨H,O⟩,iZ N as,_,⟨O,mD hd al⟩,c as hp,⟨λ_ _ _ _ h=>h.elim,λ_ _ _ _ _ h=>h.elim,λa H' ns s' n e h=>?_,λ_ _ _ _ _ h=>h.elim,λ_ _ _ _ h=>h,λ_ _ _ _ h=>h,λ_ _ _ h=>h⟩⟩;subst h;exact q a H' s' n e
end
def Q0 (pre:List Int->Prop)(F:List Int->List Int):Sp:=λvs H Q _=>∃a ns,vs=[.ref a]/\H a=some (.lst (ns.map V.int))/\pre ns/\∀H',(∀b o,b≠a->H b=some o->H' b=some o)->H' a=some (.lst ((F ns).map V.int))->Q .non H'
theorem Ln (h:∀b o,b≠a->H b=some o->H' b=some o)(e:H' a=some o):Same (upd H a o) H':=mR λb u z=>by
 by_cases c:b=a
 ·subst c;rw[upd_same]at z;cases z;exact e
 ·rw[upd_ne c]at z;exact h b u c z
section
variable {X:Cx}{G:Gx}{Er:ER}{e b:Expr}{pos px pa pc:Pos}{i j k:Nat}{x y:Str}{C Cb:En->Prop}{g gb:En->Int}
theorem zc (i:Nat)(he:PE X e (jj X.K G C g))(hN:X.N[i]?=some x:=by rfl)(hv:Vis X.env.scope x:=by walk_at "v")
  (hd:(x == ("__debug__":Str))=false:=by decide) (hcd:(x == ("__classdict__":Str))=false:=by decide)
  (hbase:attributeBase (.Name x px) "append" X.env (eval (.Name x px) X.env)=eval (.Name x px) X.env:=by rfl)
  (hfew:((backTo pc (starEach (e::[]) X.env)).all (λx=>!x.1) && (backToKw pc (keywordEach [] X.env)).all (λx=>x.1.isSome)
   && decide ((e::[]).length+([]:List Keyword).length+(if ([]:List Keyword).isEmpty then 0 else 1)<30))=true:=by rfl)
  (hline:(pa.endLine == pc.line)=true:=by rfl) (hs:starEach (e::[]) X.env=(false,eval e X.env)::starEach [] X.env:=by rfl) (hplain:(backTo pc (starEach [] X.env)).any (·.1)=false:=by rfl)
  (hsw:swapsWith (.Call (.Attribute (.Name x px) "append" pa) [e] [] pc) none pos.line X.env=pure false:=by rfl) :
  PS X (.Expr (.Call (.Attribute (.Name x px) "append" pa) [e] [] pc) pos) (ts X.K G Er λP Z=>Nb Z i/\C Z/\(getL Z i).length<sizeLine/\P.nx (Z.set i (.ow (.ints (getL Z i++[g Z]))))):=
 toS (ps_expr (pe_bm df ei eu mt_append (pe_var hN hv hd hcd) (pa_cons he pa_nil hs) hbase hfew hline hs hplain) hsw) λB σ H Z O P D R c w=>by obtain⟨c0,c1,c2,c3⟩:=c;obtain⟨a,vs,e1,e2,e3,e4,e5⟩:=R.ow i _ c0;subst e5;refine⟨_,e1,.inl ⟨rfl,_,SqL.of e4⟩,B,Z,O,R,c1,λv H1 s1 a1=>?_⟩;subst a1;refine⟨a,_,_,rfl,rfl,s1 _ _ e4,by rw[aa];exact c2,w.nx σ _ _ ⟨O,(R.grow s1).change c0 e1 (p':=.ints (getL Z i++[g Z])) ?_⟩ c3⟩;show _=(getL Z i++[g Z]).map V.int;rw[bF];rfl
theorem qx (i:Nat)(hk:PE X b (jj X.K G Cb gb))(he:PE X e (jj X.K G C g))(hN:X.N[i]?=some x:=by rfl)(hv:Vis X.env.scope x:=by walk_at "v")
  (hd:(x == ("__debug__":Str))=false:=by decide) (hcd:(x == ("__classdict__":Str))=false:=by decide)
  (ha:∀v,assign (.Subscript (.Name x px) b ps) X.env v=(do
   let ov <- holding [v] (eval (.Name x px) X.env)
   let iv <- holding [v,ov] (eval b X.env)
   standAt ps
   holding [v,ov,iv] (setItem ov iv v)
   release [v,ov,iv] []):=by intro _;rfl)
  (hs:swapsWithSole [.Subscript (.Name x px) b ps] e pos.line X.env=pure false:=by rfl) (hw:swappedStores [.Subscript (.Name x px) b ps] e X.env=pure none:=by rfl)
  (h1:(assignEach [.Subscript (.Name x px) b ps] X.env).map (·.2)=[assign (.Subscript (.Name x px) b ps) X.env]:=by rfl) :
  PS X (.Assign [.Subscript (.Name x px) b ps] e pos) (ts X.K G Er λP Z=>C Z/\Nb Z i/\Cb Z/\(-((getL Z i).length:Int)<=gb Z/\gb Z<((getL Z i).length:Int))/\P.nx (Z.set i (.ow (.ints ((getL Z i).set (jP (getL Z i).length (gb Z)) (g Z)))))):=
 toS (ps_asg he (pg_sub (pe_var hN hv hd hcd) hk set_list ha) hs hw h1) λB σ H Z O P D R c w=>by obtain⟨c1,c0,c2,cb,c3⟩:=c;refine⟨B,Z,O,R,c1,λv H1 s1 a1=>?_⟩;subst a1;have R1:=R.grow s1;obtain⟨a,vs,e1,e2,e3,e4,e5⟩:=R1.ow i _ c0;subst e5;refine⟨_,e1,B,Z,O,R1,c2,λu H2 s2 a2=>?_⟩;subst a2;refine⟨a,_,_,_,rfl,rfl,s2 _ _ e4,by rw[aa];exact Eh cb.1 cb.2,w.nx σ _ _ ⟨O,(R1.grow s2).change c0 e1 (p':=.ints _) ?_⟩ c3⟩;show _=((getL Z i).set _ _).map V.int;rw[List.map_set]
theorem Ab (i:Nat)(o:Ok X.prog X.w X.K X.mg X.base j y ps (Q0 pre F))(hr:Room k X.A)(hj:j<=k:=by decide)(hg:Gl X y:=by rfl)
  (hN:X.N[i]?=some x:=by rfl) (hv:Vis X.env.scope x:=by walk_at "v") (hd:(x == ("__debug__":Str))=false:=by decide) (hcd:(x == ("__classdict__":Str))=false:=by decide)
  (hdb:(y == ("__debug__":Str))=false:=by decide) (he:starEach (.Name x px::[]) X.env=(false,eval (.Name x px) X.env)::starEach [] X.env:=by rfl) (hpl:(backTo pc (starEach [] X.env)).any (·.1)=false:=by rfl)
  (hsw:swapsWith (.Call (.Name y pa) [.Name x px] [] pc) none pos.line X.env=pure false:=by rfl) :
  PS X (.Expr (.Call (.Name y pa) [.Name x px] [] pc) pos) (ts X.K G Er λP Z=>Nb Z i/\pre (getL Z i)/\P.nx (Z.set i (.ow (.ints (F (getL Z i)))))):=
 toS (ps_expr (nj o hr (pa_cons (pe_var hN hv hd hcd) pa_nil he) hj hg hdb he hpl) hsw) λB σ H Z O P D R c w=>by obtain⟨c0,c1,c3⟩:=c;obtain⟨a,vs,e1,e2,e3,e4,e5⟩:=R.ow i _ c0;subst e5;exact⟨_,e1,a,_,rfl,e4,c1,λH' k1 k2=>w.nx σ H' _ ⟨O,(R.change c0 e1 (p':=.ints _) rfl).grow (Ln k1 k2)⟩ c3⟩
end
def ji (cap:List (Option Nat))(Z:En):En:=cap.map λo=>match o with
 |some i=>(match Z[i]? with
  |some (.fr p)=>.fr p
  |_=>.un)
 |none=>.un
section
variable {K:Fg}{G:Gx}{B:Bs}{σ:L2.St}{H H1:Hp}{Z:En}{O:Addr->Bool}{D:Addr}{cap:List (Option Nat)}
theorem vy {j:Nat}{x:Sl}(e:(ji cap Z)[j]?=some x):(∃p,x=.fr p)\/x=.un:=by
 unfold ji at e;rw[au]at e;cases ec:cap[j]? with
 |none=>rw[ec]at e;cases e
 |some o=>
  rw[ec]at e;cases o with
  |none=>cases e;exact .inr rfl
  |some i=>
   have e:=aw e;dsimp only at e;split at e
   ·exact .inl ⟨_,e.symm⟩
   ·exact .inr e.symm
theorem uJ (R:Rep K G B σ H1 Z O)(hD:H1 D=none)(s:Same H1 H)(hn:H D≠none):Rep K G ⟨H1,O⟩ (mj cap σ) H (ji cap Z) (hide D O):=by
 refine⟨s,R.dom,je,λa z y=>?_,λa z=>?_,λj p e=>?_,λj p e=>?_,λi j p q a e=>?_,by unfold mj ji;rw[aa,aa],λj xs ys e=>?_,(λj p e=>by rcases vy e with⟨_,z⟩|z<;>cases z),(λj p e=>by rcases vy e with⟨_,z⟩|z<;>cases z),(λi j p q a e=>by rcases vy e with⟨_,z⟩|z<;>cases z)⟩
 ·by_cases c:a=D
  ·subst c;exact hn y
  ·rw[hide_ne c]at z;exact R.dom a z (s.free y)
 ·by_cases c:a=D
  ·subst c;exact .inr hD
  ·rw[hide_ne c]at z;exact .inl z
 ·unfold ji at e;rw[au]at e;cases ec:cap[j]? with
  |none=>rw[ec]at e;cases e
  |some o=>
   rw[ec]at e;cases o with
   |none=>cases e
   |some i=>
    have e:=aw e;dsimp only at e;split at e
    ·rename_i p' er;cases e;obtain⟨v,e1,e2⟩:=R.fr i p er;refine⟨v,?_,At.mono (jX s hD) _ _ e2⟩;unfold mj;rw[au,ec];show some ((σ[i]?).join)=some (some v);rw[e1];rfl
    ·cases e
 ·exfalso;unfold ji at e;rw[au]at e;cases ec:cap[j]? with
  |none=>rw[ec]at e;cases e
  |some o=>
   rw[ec]at e;cases o with
   |none=>cases e
   |some i=>have e:=aw e;dsimp only at e;split at e<;>cases e
 ·exfalso;unfold ji at e;rw[au]at e;cases ec:cap[i]? with
  |none=>rw[ec]at e;cases e
  |some o=>
   rw[ec]at e;cases o with
   |none=>cases e
   |some i=>have e:=aw e;dsimp only at e;split at e<;>cases e
 ·exfalso;unfold ji at e;rw[au]at e;cases ec:cap[j]? with
  |none=>rw[ec]at e;cases e
  |some o=>
   rw[ec]at e;cases o with
   |none=>cases e
   |some i=>have e:=aw e;dsimp only at e;split at e<;>cases e
theorem nG:∀σ:L2.St,um σ σ
 |[]=>tT
 |none::r=>nG r
 |some _::r=>⟨rfl,nG r⟩
variable {α:Type}{J:It}{g:TG}{C:En->Prop}{gb:En->PV}{Q:VK}
theorem zW (items:List α)(setσ:α->V->L2.St)(setr:α->En)(val:α->V)(R:Rep K G B σ H1 Z O)(hD:H1 D=none)(hlen:items.length<=1000)(hgo:∀i H,i<items.length->Same H1 H->J.go i H)
  (hyld:∀i it x H H',items[i]?=some it->Same H1 H->J.yld i H x H' -> Same H H'/\∀k:L2.St->Hp->Prop,k (setσ it (val it)) H' -> g x (mj cap σ) H' k) (hstop:∀H,Same H1 H->J.stop items.length H)
  (hset:∀it H,it∈items->Same H1 H->Rep K G ⟨H1,O⟩ (mj cap σ) H (ji cap Z) (hide D O)->Rep K G ⟨H1,O⟩ (setσ it (val it)) H (setr it) (hide D O)) (hext:∀it,um (mj cap σ) (setσ it (val it))) (hC:∀it∈items,C (setr it))
  (hQ:∀H' ys,Same H1 H' -> H' D=some (.lst ys)->jy K G (mn H' (hide D O)) (items.map λit=>gb (setr it)) ys->Q (.ref D) H') :
  ∃W:Nat->Nat->List V->Hp->Prop,(∃m,W 0 m [] (upd H1 D (.lst [])))/\P0 D J (mj cap σ) g yL (tX K G C gb) Q W:=by
 refine⟨λi m ys H=>m=items.length-i/\i<=items.length/\Same H1 H/\H D=some (.lst ys)/\jy K G (mn H (hide D O)) ((items.take i).map λit=>gb (setr it)) ys,⟨items.length,by simp,be _,same_new hD _,upd_same,rfl⟩,?_⟩;rintro i m ys H ⟨rfl,hi,hs,hd,al⟩;have hl:ys.length=i:=by rw[<- al.length,aa,bS];lia
 refine⟨hd,small1000 (by lia),?_⟩;by_cases hlt:i<items.length
 ·refine .inr ⟨hgo i H hlt hs,?_⟩;intro x H' hy;have en:items[i]?=some items[i]:=aB hlt;obtain⟨s1,kk⟩:=hyld i _ x H H' en hs hy;refine kk _ ⟨hext _,?_⟩;refine iteT ?_;have hd':=s1 _ _ hd;have R2:=hset items[i] H' (cB hlt) (hs.trans s1) (uJ R hD (hs.trans s1) (by rw[hd'];exact λz=>by cases z));refine⟨_,_,_,R2,hC _ (cB hlt),λv H2 s2 a2=>⟨s2 _ _ hd',items.length-(i+1),by lia,rfl,hlt,?_,upd_same,?_⟩⟩
  ·intro b o z;rw[upd_ne (ne_of_none z hD)];exact((hs.trans s1).trans s2) b o z
  ·rw[nQ hide_self,rC en,bF];exact jy.snoc (jy.mono (jn (s1.trans s2)) _ _ al) a2
 ·have e:i=items.length:=by lia
  subst e;refine .inl ⟨hstop H hs,hQ H ys hs hd ?_⟩;rw[cC]at al;exact al
theorem rZ:∀{l:List α} {ys:List V},jy K G H (l.map λx=>.int (gi x)) ys->ys=(l.map gi).map V.int
 |[],_,h=>h
 |x::r,_,h=>by obtain⟨v,t,rfl,e,q⟩:=h;rw[e,rZ q];rfl
end
section
variable {K:Fg}{G:Gx}{σ:L2.St}{H:Hp}{Q:VK}{Cs Cb:En->Prop}{gs:En->List Int}{gi:En->Int}{gp:En->PV}{cap:List (Option Nat)}
theorem Oz (h:JN K G (λZ=>Cs Z/\(gs Z).length<=1000/\∀n∈gs Z,Cb ((ji (none::cap) Z).set 0 (.fr (.int n)))) (λZ=>(gs Z).map λn=>gp ((ji (none::cap) Z).set 0 (.fr (.int n)))) σ H Q) :
  Ot (none::cap) (iList K (zR K G Cs gs)) (gName 0) yL (tX K G Cb gp) σ H Q:=by
 obtain⟨B,Z,O,R,⟨c1,c2,c3⟩,q⟩:=h;refine⟨B,Z,O,R,c1,λv H1 s1 a1=>?_⟩;obtain⟨a,rfl,hq⟩:=a1;have hq1:SqL K H1 a ((gs Z).map V.int):=.inl (gY iz hq);refine⟨a,rfl,⟨_,hq1⟩,λD hD=>?_⟩;refine zW (gs Z) (λ_ v=>(mj (none::cap) σ).set 0 (some v)) (λn=>(ji (none::cap) Z).set 0 (.fr (.int n))) V.int (R.grow s1) hD c2 (λi H hi s=>⟨_,.int (gs Z)[i],s.seq hq1,by simp[hi]⟩) ?_ (λH s=>⟨_,s.seq hq1,by simp⟩) (λn H _ s R'=>R'.set (p:=.int n) rfl) ?_ c3 ?_
 ·rintro i n x H H' en s ⟨rfl,hx⟩;obtain⟨n',rfl,hn⟩:=int_at (hx _ (s.seq hq1));rw[hn]at en;cases en;exact⟨Same.refl _,λk hk=>hk⟩
 ·intro n;exact nG _
 ·intro H' ys s hd al;exact q D ys H' (s1.trans s) (s1.free hD) hd al
theorem QF (h:JN K G (λZ=>Cs Z/\(gs Z).length<=1000/\∀k:Nat,∀n,(gs Z)[k]?=some n->Cb (((ji (none::none::cap) Z).set 0 (.fr (.int k))).set 1 (.fr (.int n)))) (λZ=>(gs Z).mapIdx λk n=>gp (((ji (none::none::cap) Z).set 0 (.fr (.int k))).set 1 (.fr (.int n)))) σ H Q) :
  Ot (none::none::cap) (Kw K (tCons (zR K G Cs gs) tNil)) (gTup K 2 (gCons (gName 0) (gCons (gName 1) gNil))) yL (tX K G Cb gp) σ H Q:=by
 obtain⟨B,Z,O,R,⟨c1,c2,c3⟩,q⟩:=h;refine⟨B,Z,O,R,c1,λv H1 s1 a1=>?_⟩;obtain⟨a,rfl,hq⟩:=a1;have hq1:SqL K H1 a ((gs Z).map V.int):=.inl (gY iz hq);refine⟨a,rfl,⟨_,hq1⟩,λD hD=>?_⟩;have hz:((gs Z).zipIdx).length=(gs Z).length:=List.length_zipIdx;refine zW ((gs Z).zipIdx) (λp _=>((mj (none::none::cap) σ).set 0 (some (.int p.2))).set 1 (some (.int p.1))) (λp=>((ji (none::none::cap) Z).set 0 (.fr (.int p.2))).set 1 (.fr (.int p.1))) (λp=>.int p.1) (R.grow s1) hD (by rw[hz];exact c2)
  (λi H hi s=>⟨_,.int ((gs Z)[i]'(by rw[hz]at hi;exact hi)),s.seq hq1,by rw[hz]at hi;simp[hi]⟩) ?_ (λH s=>⟨_,s.seq hq1,by simp⟩) (λp H _ s R'=>(R'.set (p:=.int p.2) rfl).set (p:=.int p.1) rfl) ?_ ?_ ?_
 ·rintro i ⟨n,k⟩ x H H' en s ⟨T,y,rfl,hT,rfl,hx⟩;obtain⟨n',rfl,hn⟩:=int_at (hx _ (s.seq hq1));rw[List.getElem?_zipIdx,hn]at en;have en:(n',0+i)=(n,k):=aw en;cases en;refine⟨same_new hT _,λkk hk=>⟨T,_,rfl,SqT.of upd_same,rfl,_,_,rfl,_,_,rfl,rfl,?_⟩⟩;rw[d6]at hk;exact hk
 ·rintro⟨n,k⟩;exact nG _
 ·rintro⟨n,k⟩ hm;have:=List.mem_zipIdx_iff_getElem?.mp hm;exact c3 k n this
 ·intro H' ys s hd al;refine q D ys H' (s1.trans s) (s1.free hD) hd ?_;have e:((gs Z).mapIdx λk n=>gp (((ji (none::none::cap) Z).set 0 (.fr (.int k))).set 1 (.fr (.int n))))=(gs Z).zipIdx.map λp=>gp (((ji (none::none::cap) Z).set 0 (.fr (.int p.2))).set 1 (.fr (.int p.1))):=by rw[cZ]
  dsimp only;rw[e];exact al
theorem zF {C:En->Prop}{α:Type}{src:En->List α}{gi:En->α->Int}(h:vA K G C (λZ=>(src Z).map (gi Z)) σ H Q):JN K G C (λZ=>(src Z).map λx=>.int (gi Z x)) σ H Q:=by obtain⟨B,Z,O,R,c,q⟩:=h;refine⟨B,Z,O,R,c,λa vs H' s n e al=>q a H' s n ?_⟩;rw[e,rZ al]
theorem Im {C:En->Prop}{src:En->List Int}{gi:En->Nat->Int->Int}(h:vA K G C (λZ=>(src Z).mapIdx (gi Z)) σ H Q):JN K G C (λZ=>(src Z).mapIdx λk x=>.int (gi Z k x)) σ H Q:=by obtain⟨B,Z,O,R,c,q⟩:=h;refine⟨B,Z,O,R,c,λa vs H' s n e al=>q a H' s n ?_⟩;dsimp only at al ⊢;rw[cZ]at al;rw[e,rZ (gi:=λp:Int×Nat=>gi Z p.2 p.1) al,cZ]
end
section
variable {X:Cx}{G:Gx}{Er:ER}{N':List Str}{sc:Scope}{cl:List (Str×Addr)}{cap:List (Option Nat)}{el tg src:Expr}{at' spos px:Pos}{Cs Cb:En->Prop}{gs:En->List Int}{gn gi:En->Int}{gp:En->PV}{i:Nat}{x:Str}
theorem K1 (L:wV X N' sc cl (none::cap))(hc:X.calm=true)(hi:PE X src (zR X.K G Cs gs))(hg:∀s H fp,PG (ie X N' sc cl s H fp) tg (gName 0))(he:∀s H fp,PE (ie X N' sc cl s H fp) el (jj X.K G Cb gi))(hs:∀x,foldedSetIterable src X.env x=pure x:=by intro _;rfl) :
  PE X (.ListComp el [⟨tg,src,[],0⟩] sc at') (vA X.K G (λZ=>Cs Z/\(gs Z).length<=1000/\∀n∈gs Z,Cb ((ji (none::cap) Z).set 0 (.fr (.int n)))) λZ=>(gs Z).map λn=>gi ((ji (none::cap) Z).set 0 (.fr (.int n)))):=
 λpins s σ H Q I h=>FZ L hc (pi_list hi) hg (λ_ _ _=>vN) he hs pins s σ H Q I (Oz (zF h))
theorem Lx (L:wV X N' sc cl (none::none::cap))(hc:X.calm=true)(hgl:Gl X "enumerate")(hm:X.mg "enumerate"=none)(hi:PE X src (zR X.K G Cs gs))
  (hg:∀s H fp,PG (ie X N' sc cl s H fp) (.Tuple els kk tp) (gTup X.K 2 (gCons (gName 0) (gCons (gName 1) gNil)))) (he:∀s H fp,PE (ie X N' sc cl s H fp) el (jj X.K G Cb gi)) (hst:starEach [src] X.env=[(false,eval src X.env)]:=by rfl)
  (hs:∀x,foldedSetIterable (.Call (.Name "enumerate" p) [src] [] pos') X.env x=pure x:=by intro _;rfl) :
  PE X (.ListComp el [⟨.Tuple els kk tp,.Call (.Name "enumerate" p) [src] [] pos',[],0⟩] sc at') (vA X.K G (λZ=>Cs Z/\(gs Z).length<=1000/\∀k:Nat,∀n,(gs Z)[k]?=some n->Cb (((ji (none::none::cap) Z).set 0 (.fr (.int k))).set 1 (.fr (.int n))))
   λZ=>(gs Z).mapIdx λk n=>gi (((ji (none::none::cap) Z).set 0 (.fr (.int k))).set 1 (.fr (.int n)))):=
 λpins s σ H Q I h=>FZ L hc (Bu hgl hm (pa_cons hi pa_nil hst) hst) hg (λ_ _ _=>vN) he hs pins s σ H Q I (QF (Im h))
theorem Ma {t:TE}{st:Stmt}{C:En->Prop}{g:En->List Int}(h:PS X st (tAsg t (gName i)))(k:∀σ H Q,vA X.K G C g σ H Q->t σ H Q):PS X st (ts X.K G Er λP Z=>C Z/\∀ns,ns=g Z->P.nx (Z.set i (.ow (.ints ns)))):=
 toS h λB σ H Z O P D R c w=>k σ H _ ⟨B,Z,O,R,c.1,λa H1 s1 n1 e1=>w.nx _ H1 _ ⟨hide a O,R.new (p:=.ints (g Z)) s1 n1 e1 rfl⟩ (c.2 _ rfl)⟩
theorem Jc (hN:X.N.Nodup)(hi':X.N[i]?=some x)(hx:X.env.scope.names.lookup x=some .local)(L:wV X N' sc cl (none::cap))(hc:X.calm=true)(hi:PE X src (zR X.K G Cs gs))(hg:∀s H fp,PG (ie X N' sc cl s H fp) tg (gName 0))(he:∀s H fp,PE (ie X N' sc cl s H fp) el (jj X.K G Cb gi))
  (hsw:swapsWith (.ListComp el [⟨tg,src,[],0⟩] sc at') (some (.Name x px)) spos.line X.env=pure true) (hs:∀x,foldedSetIterable src X.env x=pure x:=by intro _;rfl) :
  PS X (.Assign [.Name x px] (.ListComp el [⟨tg,src,[],0⟩] sc at') spos) (ts X.K G Er λP Z=>(Cs Z/\(gs Z).length<=1000/\∀n∈gs Z,Cb ((ji (none::cap) Z).set 0 (.fr (.int n))))/\∀ns,ns=((gs Z).map λn=>gi ((ji (none::cap) Z).set 0 (.fr (.int n))))->P.nx (Z.set i (.ow (.ints ns)))):=
 Ma (Np hN hi' hx L hc (pi_list hi) hg (λ_ _ _=>vN) he hsw hs) λσ H Q h=>Oz (zF h)
end
theorem iR {k:En->Prop}(h:Z=Z')(q:k Z'):k Z:=by rw[h];exact q
def tyP:PV->Option Value
 | .int _=>some (.type "int")
 | .bl _=>some (.type "bool")
 | .non=>some (.type "NoneType")
 | .str _=>some (.type "str")
 | .ints _=>some (.type "list")
 | .lst _=>some (.type "list")
 | .tup _=>some (.type "tuple")
 |_=>none
def yf:PV->Option Value
 | .ty n=>some (.type n)
 | .cls a=>some (.ref a)
 |_=>none
theorem At.ty {K:Fg}{G:Gx}{H:Hp}{p:PV}{v:V}{t:Value}(h:At K G H p v)(e:tyP p=some t):TyOf K H v t:=by
 cases p<;>first|cases e|skip
 ·cases (show v=_ from h);exact .int _
 ·cases (show v=_ from h);exact .bl _
 ·cases (show v=_ from h);exact .non
 ·cases (show v=_ from h);exact .str _
 ·obtain⟨a,rfl,r|⟨o,r⟩⟩:=h
  ·exact .lst r
  ·exact .frz r
 ·obtain⟨a,vs,rfl,r|⟨o,r⟩,_⟩:=h
  ·exact .lst r
  ·exact .frz r
 ·obtain⟨a,vs,rfl,r,_⟩:=h;exact .tup r
theorem At.cls {K:Fg}{G:Gx}{H:Hp}{p:PV}{v:V}{t:Value}(h:At K G H p v)(e:yf p=some t):Hl v=some t:=by
 cases p<;>first|cases e|skip
 ·cases (show v=_ from h);rfl
 ·cases (show v=_ from h);rfl
def jN (K:Fg)(p c:PV):Bool:=match tyP p,yf c with
 |some t,some cv=>W.kitOne K t cv == some true
 |_,_=>false
def Fz (K:Fg)(p c:PV):Prop:=∃t cv b,tyP p=some t/\yf c=some cv/\W.kitOne K t cv=some b
theorem kJ {K:Fg}{p c:PV}{t cv:Value}{b:Bool}(h1:tyP p=some t)(h2:yf c=some cv)(h:W.kitOne K t cv=some b):jN K p c=b:=by unfold jN;rw[h1,h2];show(W.kitOne K t cv == some true)=b;rw[h];cases b<;>rfl
theorem TyOf.up {K:Fg}{H H':Hp}{v:V}{t:Value}(s:Same H H')(h:TyOf K H v t):TyOf K H' v t:=by
 cases h with
 |non=>exact .non
 |bl x=>exact .bl x
 |int x=>exact .int x
 |str x=>exact .str x
 |flt x=>exact .flt x
 |lst e=>exact .lst (s _ _ e)
 |frz e=>exact .frz (s _ _ e)
 |tup e=>exact .tup (s _ _ e)
 |dK e=>exact .dK (s _ _ e)
 |dT e=>exact .dT (s _ _ e)
 |ins e a b c d f=>exact .ins (s _ _ e) a b c d f
section
variable {X:Cx}{G:Gx}{a b c e:Expr}{es:List Expr}{pos p px apos:Pos}{C Ca Cb Cc:En->Prop}{ga gc:En->PV}{gi gj:En->Int}{i j k n:Nat}{x m:Str}
theorem mF (hm:X.mg "isinstance"=none)(ha:PE X a (tX X.K G Ca ga))(hc:PE X c (tX X.K G Cc gc))(hg:Gl X "isinstance":=by rfl)(he:starEach [a,c] X.env=(false,eval a X.env)::starEach [c] X.env:=by rfl)(he2:starEach [c] X.env=[(false,eval c X.env)]:=by rfl)(hpl:(backTo pos (starEach [c] X.env)).any (·.1)=false:=by rfl) :
  PE X (.Call (.Name "isinstance" p) [a,c] [] pos) (Ed X.K G (λZ=>Ca Z/\Cc Z/\Fz X.K (ga Z) (gc Z)) λZ=>jN X.K (ga Z) (gc Z)=true):=
 mY (pe_callB qM hg hm oO (pa_cons ha (pa_cons hc pa_nil he2) he) (by decide) (by decide) he hpl) λB σ H Z O Q R cc q=>⟨B,Z,O,R,cc.1,λv H1 s1 a1=>⟨B,Z,O,R.grow s1,cc.2.1,λu H2 s2 a2=>by
  obtain⟨t,cv,b,e1,e2,e3⟩:=cc.2.2;refine⟨v,u,t,cv,b,rfl,a2.cls e2,TyOf.up (iz.trans s2) (a1.ty e1),e3,q _ H2 (s1.trans s2) ?_⟩;have z:jN X.K (ga Z) (gc Z)=b:=kJ e1 e2 e3;show V.bl b=V.bl (decide (jN X.K (ga Z) (gc Z)=true));rw[z,b8]⟩⟩
theorem Lh (hcm:X.calm=true)(hm:X.mg "max"=none)(ha:PE X a (jj X.K G Ca gi))(hb:PE X b (jj X.K G Cb gj))(hg:Gl X "max":=by rfl)(he:starEach [a,b] X.env=(false,eval a X.env)::starEach [b] X.env:=by rfl)(he2:starEach [b] X.env=[(false,eval b X.env)]:=by rfl)(hpl:(backTo pos (starEach [b] X.env)).any (·.1)=false:=by rfl) :
  PE X (.Call (.Name "max" p) [a,b] [] pos) (jj X.K G (λZ=>Ca Z/\Cb Z) λZ=>if gj Z > gi Z then gj Z else gi Z):=
 mY (pe_callB (call_max2 hcm) hg hm Mp (pa_cons ha (pa_cons hb pa_nil he2) he) (by decide) (by decide) he hpl) λB σ H Z O Q R c q=>⟨B,Z,O,R,c.1,λv H1 s1 a1=>⟨B,Z,O,R.grow s1,c.2,λu H2 s2 a2=>by
  subst a1 a2;exact⟨_,_,rfl,q _ H2 (s1.trans s2) rfl⟩⟩⟩
abbrev DK (K:Fg)(G:Gx)(pre:List PV->Prop)(F:List PV->Int):Sp:=HJ K G pre λas=>.int (F as)
abbrev zz (K:Fg)(G:Gx)(pre:List PV->Prop)(F:List PV->Bool):Sp:=HJ K G pre λas=>.bl (F as)
variable {ps:List Str}{pre:List PV->Prop}{gs:En->List PV}
theorem JL (o:Ok X.prog X.w X.K X.mg X.base j x ps (DK X.K G pre F))(hr:Room k X.A)(ha:PA X (e::es) (yU X.K G C gs))(hj:j<=k:=by decide)(hg:Gl X x:=by rfl)(hdb:(x == ("__debug__":Str))=false:=by decide)
  (he:starEach (e::es) X.env=(false,eval e X.env)::starEach es X.env:=by rfl) (hpl:(backTo pos (starEach es X.env)).any (·.1)=false:=by rfl) :
  PE X (.Call (.Name x p) (e::es) [] pos) (jj X.K G (λZ=>C Z/\pre (gs Z)) λZ=>F (gs Z)):=xc o hr ha hj hg hdb he hpl
theorem Le (o:Ok X.prog X.w X.K X.mg X.base j x ps (zz X.K G pre F))(hr:Room k X.A)(ha:PA X (e::es) (yU X.K G C gs))(hj:j<=k:=by decide)(hg:Gl X x:=by rfl)(hdb:(x == ("__debug__":Str))=false:=by decide)
  (he:starEach (e::es) X.env=(false,eval e X.env)::starEach es X.env:=by rfl) (hpl:(backTo pos (starEach es X.env)).any (·.1)=false:=by rfl) :
  PE X (.Call (.Name x p) (e::es) [] pos) (Ed X.K G (λZ=>C Z/\pre (gs Z)) λZ=>F (gs Z)=true):=
 mY (xc o hr ha hj hg hdb he hpl) λB σ H Z O Q R c q=>⟨B,Z,O,R,c,λv H' s a=>q v H' s (by dsimp only;rw[b8];exact a)⟩
def zy (Z:En)(i:Nat):Int:=match Z[i]? with
 |some (.fr (.ob 0 z))=>z
 |_=>0
def Qi (Z:En)(i:Nat):Prop:=Z[i]?=some (.fr (.ob 0 (zy Z i)))
theorem xF {KA:Hp->Addr->Int->Prop}{preK:Int->List Int->Prop}{F:Int->List Int->Int}{pl:Sem Bool}(i:Nat)(M:KM X.prog X.w X.K X.mg X.base j KA m n preK F)(hr:Room k X.A)(ha:PA X (e::es) (yU X.K G C gs))(hn:∀Z,(gs Z).length=n:=by intro _;rfl)(hG:∀H a z,G.ob 0 H a z->KA H a z:=by first|exact λ_ _ _ h=>h.2|exact λ_ _ _ h=>h.elim (λz=>z.2) λz=>absurd z.1 (by decide))(hGm:∀{H H':Hp} {a:Addr} {z:Int},KA H a z->Same H H' -> KA H' a z:=by first|exact λh s=>Q9.same h s|exact λh s=>h.same s)(hj:j<=k:=by decide)
  (hN:X.N[i]?=some x:=by rfl) (hv:Vis X.env.scope x:=by walk_at "v") (hd:(x == ("__debug__":Str))=false:=by decide) (hcd:(x == ("__classdict__":Str))=false:=by decide)
  (hst:starEach (e::es) X.env=(false,eval e X.env)::starEach es X.env:=by rfl) (hpl:(backTo pos (starEach es X.env)).any (·.1)=false:=by rfl)
  (ht:eval (.Call (.Attribute (.Name x px) m apos) (e::es) [] pos) X.env=(do
   let ov <- eval (.Name x px) X.env
   standAt apos.atName
   let (f,first) <- holding [ov] (getMethod ov m pl)
   callWith pos f first (backTo pos (starEach (e::es) X.env)) (backToKw pos (keywordEach [] X.env))):=by rfl) :
  PE X (.Call (.Attribute (.Name x px) m apos) (e::es) [] pos) (jj X.K G (λZ=>Qi Z i/\C Z/\wB (gs Z)/\preK (zy Z i) (lE (gs Z))) λZ=>F (zy Z i) (lE (gs Z))):=by
 intro pins s σ H Q I h;obtain⟨B,Z,O,R,⟨c0,c1,c2,c3⟩,q⟩:=h;obtain⟨v,e1,a,rfl,ka⟩:=R.fr i _ c0;have ka1:KA H a (zy Z i):=hGm (hG _ _ _ ka) iz;obtain⟨Cl,dx,fs,ps,f1,f2,M'⟩:=M.ex H a _ ka1;obtain⟨f,fd,FF,bb,mm,cc⟩:=M'.ex;refine pe_meth (pe_var hN hv hd hcd) cc mm (FF.mono hj) hr bb .nil pass0 ha hst hpl ht pins s σ H Q I ⟨_,e1,a,dx,fs,rfl,f1,f2,B,Z,O,R,c1,λvs H1 s1 a1=>?_⟩;have ev:=a1.ints c2;have el:(lE (gs Z)).length=n:=by rw[<- hn Z,a1.length,ev,aa]
 exact⟨lE (gs Z),el,by rw[aZ,ev],hGm ka1 s1,c3,q _ H1 s1 rfl⟩
end
theorem sY:∀{as:List PV},wB as->(lE as).length=as.length
 |[],_=>rfl
 |p::r,h=>by
  cases p<;>first|exact h.elim|skip
  show(lE r).length+1=r.length+1;rw[sY (as:=r) h]
section
variable {P:Program}{w:World}{K:Fg}{mg:Mg}{base:Heap}{G:Gx}{k n:Nat}{x:Str}{ps:List Str}
theorem N7 (o:Ok P w K mg base k x ps (PP n pre F)):Ok P w K mg base k x ps (zz K G (λas=>wB as/\as.length=n/\pre (lE as)) λas=>F (lE as)):=
 o.imp λvs H Q E ⟨as,O,_,al,⟨h1,h2,h3⟩,q⟩=>⟨lE as,by rw[sY h1,h2],al.ints h1,h3,q _ H (Same.refl H) rfl⟩
def O2:List PV->List Int
 | .scr ns::_=>ns
 |_=>[]
def Pk (n:Nat)(pre:List Int->List Int->Prop):List PV->Prop
 | .scr ns::r=>wB r/\r.length=n/\pre ns (lE r)
 |_=>False
theorem Ol (o:Ok P w K mg base k x ps (spS K n pre F)):Ok P w K mg base k x ps (DK K G (Pk n pre) λas=>F (O2 as) (lE as.tail)):=
 o.imp λvs H Q E ⟨as,O,_,al,hp,q⟩=>by
  match as,hp,al,q with
  | .scr ns::r,⟨h1,h2,h3⟩,al,q=>obtain⟨v,t,rfl,⟨a,rfl,hs⟩,al2⟩:=al;exact⟨a,ns,lE r,by rw[sY h1,h2],by rw[al2.ints h1],iz.seq hs,h3,q _ H (Same.refl H) rfl⟩
end
end L3
namespace L3
open PySem PyProof.Rows L2 FM
theorem sG (xs:Li)(lo hi:Option Int):(j7 xs lo hi).length<=xs.length:=by unfold j7;rw[bS,dE];lia
theorem Di (xs:Li)(a:Nat):j7 xs (some (a:Int)) none=xs.drop a:=by
 unfold j7;rw[HT.sIx_nat,HT.sIx_none];by_cases h:a<=xs.length
 ·rw[Nat.min_eq_left h,b9 (by rw[dE];lia)]
 ·rw[Nat.min_eq_right (by lia),eX (aj _),eX (by lia),List.take_nil]
theorem vW (xs:Li)(b:Nat):j7 xs none (some (b:Int))=xs.take b:=by
 unfold j7;rw[HT.sIx_nat,HT.sIx_none,List.drop_zero,fY];by_cases h:b<=xs.length
 ·rw[Nat.min_eq_left h]
 ·rw[Nat.min_eq_right (by lia),b9 (aj _),b9 (by lia)]
end L3
namespace L2
open PySem PySem.Spec PyProof.Rows
def lM {α:Type}(xs:List α)(lo hi st:Option Int):List α:=(sliceRange (sliceBounds lo hi st xs.length).1 (sliceBounds lo hi st xs.length).2.1 (sliceBounds lo hi st xs.length).2.2).filterMap λk=>xs[k]?
theorem qF (r:Vals xs its):∀l:List Nat,Vals (l.filterMap λk=>xs[k]?) (l.filterMap λk=>its[k]?)
 |[]=>.nil
 |k::l=>by
  rw[aJ,aJ];cases e:xs[k]? with
  |none=>rw[r.none_of e];exact qF r l
  |some x=>obtain⟨u,e',ru⟩:=r.get e;rw[e'];exact .cons ru (qF r l)
theorem Ek (xs:List α)(lo hi st:Option Int):(lM xs lo hi st).length<=xs.length:=by
 unfold lM;have h:=slicePick_size_le (xs.map λ_=>Value.none).toArray lo hi st;unfold slicePick at h;rw[ao,ao,aa]at h;refine aG (fX ?_) h;generalize sliceRange _ _ _=l
 induction l with
 |nil=>rfl
 |cons k l ih=>
  rw[aJ,aJ,ft,au];cases xs[k]? with
  |none=>exact ih
  |some x=>simp only[fg,bh,ih]
theorem Hm (f:α->β)(xs:List α)(lo hi st:Option Int):lM (xs.map f) lo hi st=(lM xs lo hi st).map f:=by
 unfold lM;rw[aa];generalize sliceRange _ _ _=l
 induction l with
 |nil=>rfl
 |cons k l ih=>
  rw[aJ,aJ,au];cases xs[k]? with
  |none=>exact ih
  |some x=>simp only[fg,aA,ih]
section
variable {X:Cx}{e st:Expr}{te:TE}{lo hi:Option Expr}{tl th tt:TO}{pos p2:Pos}
def Qg (K:Fg)(te:TE)(tl th tt:TO):TE:=λσ H Q=>te σ H λx H1=>tl σ H1 λl H2=>th σ H2 λu H3=>tt σ H3 λk H4=>∃a xs,x=.ref a/\SqL K H4 a xs/\k≠some 0/\∀p,H4 p=none->Q (.ref p) (upd H4 p (.lst (lM xs l u k)))
theorem Cg (he:PE X e te)(hl:PO X lo tl)(hu:PO X hi th)(ht:PO X (some st) tt):PE X (.Subscript e (.Slice lo hi (some st) p2) pos) (Qg X.K te tl th tt):=by
 intro pins s σ H Q I h;refine Subscript_ (thn (he pins s σ H _ I h) λv s1 ⟨x,H1,I1,r1,q1⟩=>?_);refine wpAny_Slice (thn (hl pins s1 σ H1 _ I1 q1) λvl s2 ⟨l,H2,I2,pl,q2⟩=>thn (hu pins s2 σ H2 _ I2 q2) λvu s3 ⟨u,H3,I3,pu,q3⟩=>thn (ht pins s3 σ H3 _ I3 q3) λvs s4 ⟨k,H4,I4,pk,q4⟩=>?_);obtain⟨a,xs,rfl,hx,h0,q⟩:=q4;cases r1;have I5:Inv X pins σ H4 { s4 with heap:=s4.heap.push { cls:=.type "slice",data:=.fields #[vl,vu,vs] } }:=I4.kept (t':=s4.toks) λb ob q=>ah _ q;obtain⟨its,r,ht',hz⟩:=I5.list hx;have hlen:=r.length;refine tail_any (ops:=[.ref a,.ref s4.heap.objs.size]) ht'.isList.typeIs slot_list_getitem.lookup ?_ (by with_unfolding_all rfl);refine wpAny_getItem_list_slice ht'.isList (Heap.IsSliceOf.new ..) pl pu pk h0 ?_ (by rw[ao]<;>lia);have ep:slicePick its.toArray l u k=(lM its l u k).toArray:=by unfold slicePick lM;rw[ao];congr 1;congr 1;funext j;exact ft
 rw[ep];refine⟨.ref _,_,I5.laid (t':=s4.toks) (o:=.lst (lM xs l u k)) (λb ob q=>ah _ q) (aj _) ?_,rfl,q _ (I5.hok.fresh (aj _))⟩;refine⟨aG (Ek xs l u k) hz,_,0,?_,aP _ rfl⟩;unfold lM;rw[<- hlen];exact qF r _
end
end L2
namespace L3
open PySem PySem.Spec PyProof.Rows L2
section
variable {X:Cx}{G:Gx}{a:Expr}{pos p2:Pos}{C:En->Prop}
theorem CP {st:Expr}{lo hi:Option Expr}{g:En->PV}{ns:En->List Int}{Cl Ch Cs:En->Prop}{gl gh gk:En->Option Int}(ha:PE X a (tX X.K G C g))(hl:PO X lo (K3 X.K G Cl gl))(hh:PO X hi (K3 X.K G Ch gh))(hs:PO X (some st) (K3 X.K G Cs gk))(hn:∀Z,C Z->g Z=.ints (ns Z)\/g Z=.scr (ns Z)) :
  PE X (.Subscript a (.Slice lo hi (some st) p2) pos) (vA X.K G (λZ=>C Z/\Cl Z/\Ch Z/\Cs Z/\gk Z≠some 0) λZ=>lM (ns Z) (gl Z) (gh Z) (gk Z)):=
 yc (Cg ha hl hh hs) λB σ H Z O Q R c q=>⟨B,Z,O,R,c.1,λv H1 s1 a1=>⟨B,Z,O,R.grow s1,c.2.1,λH2 s2=>⟨B,Z,O,(R.grow s1).grow s2,c.2.2.1,λH3 s3=>⟨B,Z,O,((R.grow s1).grow s2).grow s3,c.2.2.2.1,λH4 s4=>by
  have key:∃p,v=.ref p/\SqL X.K H1 p ((ns Z).map V.int):=by
   rcases hn Z c.1 with z|z
   ·rw[z]at a1;obtain⟨p,e,r⟩:=a1;exact⟨p,e,.inl (gY iz r)⟩
   ·rw[z]at a1;obtain⟨p,e,r⟩:=a1;exact⟨p,e,iz.seq r⟩
  obtain⟨p,rfl,r⟩:=key;refine⟨p,_,rfl,((s2.trans s3).trans s4).seq r,c.2.2.2.2,λl hl=>q l _ ((((s1.trans s2).trans s3).trans s4).trans (same_new hl _)) ((((s1.trans s2).trans s3).trans s4).free hl) ?_⟩;rw[upd_same,Hm]⟩⟩⟩⟩
end
end L3
namespace FM
open L2
theorem gD {xs:Li}{n:Nat}(h:xs.length<=n):xs.getD n 0=0:=by rw[gQ,cL h];rfl
theorem gW {xs:Li}{n:Nat}(h:n<xs.length):xs.getD n 0=xs[n]:=by rw[gQ,aB h];rfl
theorem getD_at' {xs:Li}{n:Nat}{x:Int}(h:xs[n]?=some x):xs.getD n 0=x:=by rw[gQ,h];rfl
theorem getD_mem {xs:Li}{n:Nat}(h:n<xs.length):xs.getD n 0∈xs:=by rw[gW h];exact cB h
theorem kZ (f:Int->Int)(h0:f 0=0)(xs:Li)(n:Nat):(xs.map f).getD n 0=f (xs.getD n 0):=by
 by_cases h:n<xs.length
 ·rw[gW (by rw[aa];exact h),bO,gW h]
 ·rw[gD (by rw[aa];lia),gD (by lia),h0]
theorem jO (z:Int):pl z 0=0:=by
 unfold pl;split
 ·rfl
 ·exact Int.zero_emod z
theorem yj (xs:Li)(x:Int)(n:Nat):(xs++[x]).getD n 0=if n=xs.length then x else xs.getD n 0:=by
 by_cases h:n<xs.length
 ·rw[gW (by rw[aN];lia),List.getElem_append_left h,af (by lia),gW h]
 ·by_cases h2:n=xs.length
  ·subst h2;rw[ae rfl,gW (by rw[aN,bp];lia),List.getElem_append_right (aj _)];simp
  ·rw[af h2,gD (by rw[aN,bp];lia),gD (by lia)]
theorem Bp (xs:Li):xs=[]\/∃ys x,xs=ys++[x]:=by
 by_cases h:xs=[]
 ·exact .inl h
 ·exact .inr ⟨_,_,(cG h).symm⟩
theorem uX:∀(k:Nat) (xs:Li),xs.length=k->∀n,(ik xs).getD n 0=xs.getD n 0
 |0,xs,h,n=>by have:xs=[]:=eG.mp h;subst this;rfl
 |k+1,xs,h,n=>by
  rcases Bp xs with rfl|⟨ys,x,rfl⟩
  ·rfl
  ·by_cases hx:x=0
   ·subst hx;have hl:ys.length=k:=by rw[aN,bp]at h;lia
    rw[oV,uX k ys hl n,yj];by_cases h2:n=ys.length
    ·rw[ae h2,gD (by lia)]
    ·rw[af h2]
   ·rw[t8 _ hx]
theorem pN (xs:Li)(n:Nat):(ik xs).getD n 0=xs.getD n 0:=uX _ xs rfl n
def gZ (xs:List Int):Prop:=xs≠[]->xs.getD (xs.length-1) 0≠0
theorem rQ:∀(k:Nat) (xs:Li),xs.length=k->gZ (ik xs)
 |0,xs,h=>by have:xs=[]:=eG.mp h;subst this;intro h;exact absurd rfl h
 |k+1,xs,h=>by
  rcases Bp xs with rfl|⟨ys,x,rfl⟩
  ·intro h;exact absurd rfl h
  ·by_cases hx:x=0
   ·subst hx;rw[oV];exact rQ k ys (by rw[aN,bp]at h;lia)
   ·rw[t8 _ hx];intro _;rw[yj,ae (by rw[aN,bp];lia)];exact hx
theorem lY (xs:Li):gZ (ik xs):=rQ _ xs rfl
theorem jA {a b:Li}(ha:gZ a)(hb:gZ b)(h:∀n,a.getD n 0=b.getD n 0):a=b:=by
 have le:∀{a b:List Int},gZ a->(∀n,a.getD n 0=b.getD n 0)->a.length<=b.length:=λ{a b} ha h=>by
  by_cases c:a.length<=b.length
  ·exact c
  ·have hne:a≠[]:=λz=>by subst z;exact c (be _)
   exact absurd (by rw[h,gD (by lia)]) (ha hne)
 have hl:a.length=b.length:=Nat.le_antisymm (le ha h) (le hb λn=>(h n).symm);refine dG hl λi h1 h2=>?_;have:=h i;rw[gW h1,gW h2]at this;exact this
theorem xV (h:∀n,a.getD n 0=b.getD n 0):ik a=ik b:=
 jA (lY a) (lY b) λn=>by rw[pN,pN,h]
theorem HR {z:Int}{a b:Li}(h:∀n,pl z (a.getD n 0)=pl z (b.getD n 0)):ik (a.map (pl z))=ik (b.map (pl z)):=
 xV λn=>by rw[kZ _ (jO z),kZ _ (jO z),h]
def Tz (z:Int)(f:List Int):List Int:=ik (f.map (pl z))
theorem iJ (z:Int)(f:Li)(n:Nat):(Tz z f).getD n 0=pl z (f.getD n 0):=by unfold Tz;rw[pN,kZ _ (jO z)]
theorem oX (z:Int)(f:Li):(Tz z f).length<=f.length:=by unfold Tz;refine aG (uU _) ?_;rw[aa];exact aj _
theorem mem_getD {xs:Li}{m:Int}(h:m∈xs):∃n,n<xs.length/\xs.getD n 0=m:=by obtain⟨n,h1,h2⟩:=List.getElem_of_mem h;exact⟨n,h1,by rw[gW h1,h2]⟩
def sm:Nat->(Nat->Int)->Int
 |0,_=>0
 |n+1,f=>sm n f+f n
theorem ig:∀{n:Nat},(∀i,i<n->f i=g i)->sm n f=sm n g
 |0,_=>rfl
 |n+1,h=>by show sm n f+f n=sm n g+g n;rw[ig λi hi=>h i (by lia),h n (by lia)]
theorem pL:∀{n:Nat},(∀i,i<n->f i=0)->sm n f=0
 |0,_=>rfl
 |n+1,h=>by show sm n f+f n=0;rw[pL λi hi=>h i (by lia),h n (by lia)];rfl
theorem zT:∀{m:Nat},n<=m->(∀i,n<=i->i<m->f i=0)->sm m f=sm n f
 |0,h,_=>by
  have:n=0:=by lia
  subst this;rfl
 |m+1,h,z=>by
  by_cases c:n=m+1
  ·subst c;rfl
  ·show sm m f+f m=sm n f;rw[z m (by lia) (by lia),bq];exact zT (by lia) λi h1 h2=>z i h1 (by lia)
theorem j6 (f:Nat->Int):∀n,sm (n+1) f=f 0+sm n λi=>f (i+1)
 |0=>by show 0+f 0=f 0+0;lia
 |n+1=>by show sm (n+1) f+f (n+1)=f 0+(sm n (λi=>f (i+1))+f (n+1));rw[j6 f n];lia
theorem Hq (f:Nat->Int):∀n,sm (n+1) f=sm (n+1) λi=>f (n-i)
 |0=>rfl
 |n+1=>by
  rw[j6 (λi=>f (n+1-i)) (n+1)];show sm (n+1) f+f (n+1)=f (n+1-0)+sm (n+1) λi=>f (n+1-(i+1));rw[Hq f n,fY];have:sm (n+1) (λi=>f (n-i))=sm (n+1) λi=>f (n+1-(i+1)):=ig λi _=>by rw[Nat.add_sub_add_right]
  lia
def cm (f g:List Int)(n:Nat):Int:=sm (n+1) λi=>f.getD i 0*g.getD (n-i) 0
theorem gK (f g:Li)(n:Nat):cm f g n=cm g f n:=by unfold cm;rw[Hq];refine ig λi hi=>?_;rw[bV,show n-(n-i)=i by lia]
theorem GZ {n:Nat}(h:f.length+g.length<=n+1):cm f g n=0:=by
 unfold cm;refine pL λi hi=>?_;by_cases c:i<f.length
 ·rw[gD (show g.length<=n-i by lia),bd]
 ·rw[gD (show f.length<=i by lia),bv]
def gC (f g:List Int):List Int:=(List.range (f.length+g.length)).map (cm f g)
theorem gr (f g:Li)(n:Nat):(gC f g).getD n 0=cm f g n:=by
 unfold gC;by_cases h:n<f.length+g.length
 ·rw[gW (by rw[aa,aE];exact h),bO,bG]
 ·rw[gD (by rw[aa,aE];lia),GZ (by lia)]
theorem n6 (row:Li)(j:Nat)(x:Int)(n:Nat)(h:j<row.length):(row.set j x).getD n 0=if n=j then x else row.getD n 0:=by
 by_cases c:n=j
 ·subst c;rw[ae rfl,gW (by rw[aT];exact h),List.getElem_set_self]
 ·rw[af c,gQ,dH (by lia),<- gQ]
end FM
section
open PySem PySem.Spec PyProof.Rows
namespace L3
open L2
theorem Od (H:Hp):mn H (λ_=>false)=H:=by funext b;exact lB rfl
def BW (K:Fg)(G:Gx)(C:En->Prop)(g:En->PV):TE:=λσ H Q=>∃B Z O,Rep K G B σ H Z O/\C Z/\∀v H',Same H H' -> At K G H' (g Z) v->Q v H'
section
variable {X:Cx}{G:Gx}{Er:ER}{a b c e:Expr}{es:List Expr}{pos p px ps pa pc:Pos}{C Ca Cb:En->Prop}{g:En->PV}{gs:En->List PV}{gi:En->Int}{i j k:Nat}{x:Str}{pl:List Str}{pre:List PV->Prop}
theorem Mv (h:PE X e (tX X.K G C g)):PE X e (BW X.K G C g):=λpins s σ H Q I ⟨B,Z,O,R,c,q⟩=>h pins s σ H Q I ⟨B,Z,O,R,c,λv H' s a=>q v H' s (At.mono iz _ _ a)⟩
end
end L3
namespace L2
theorem lq:∀{ns:Li} {its:Lv},Vals (ns.map V.int) its->IntsAre its ns
 |[],_,h=>by cases h;exact .nil
 |n::r,_,h=>by
  cases h with
  |cons a b=>obtain⟨t,rfl⟩:=a;exact .cons n t (lq b)
def Pg (g:List Int->List Int->Bool):R2:=λx y H Q=>∃a b ns ms,x=.ref a/\y=.ref b/\Rd H a (.lst (ns.map V.int))/\Rd H b (.lst (ms.map V.int))/\Q (.bl (g ns ms)) H
section
variable {X:Cx}
theorem Jv (hu:X.A.units+64<cLine):OpR X (compareOp .Eq) (Pg λns ms=>decide (ns=ms)):=by intro pins s σ H x y v u Q I rx ry h;obtain⟨a,b,ns,ms,rfl,rfl,ha,hb,q⟩:=h;cases rx;cases ry;obtain⟨_,its,n,r,_,e⟩:=L3.Inv.ul I ha;obtain⟨_,its2,n2,r2,_,e2⟩:=L3.Inv.ul I hb;exact W.ke_eq_ints ⟨_,e,rfl,_,rfl⟩ ⟨_,e2,rfl,_,rfl⟩ (lq r) (lq r2) hu ⟨.bl _,H,I,rfl,q⟩
theorem Js (hu:X.A.units+64<cLine):OpR X (compareOp .NotEq) (Pg λns ms=>decide (¬ns=ms)):=by intro pins s σ H x y v u Q I rx ry h;obtain⟨a,b,ns,ms,rfl,rfl,ha,hb,q⟩:=h;cases rx;cases ry;obtain⟨_,its,n,r,_,e⟩:=L3.Inv.ul I ha;obtain⟨_,its2,n2,r2,_,e2⟩:=L3.Inv.ul I hb;have q:Q (.bl (decide (¬ns=ms))) H:=q;rw[fy]at q;exact W.ke_ne_ints ⟨_,e,rfl,_,rfl⟩ ⟨_,e2,rfl,_,rfl⟩ (lq r) (lq r2) hu ⟨.bl _,H,I,rfl,q⟩
theorem Mm:bootBuiltins "sum"=some (.builtin "sum"):=by decide +kernel
theorem Cw (hc:X.calm=true):CallR X (.builtin "sum") (λxs H Q=>∃(a:Addr) (ns:Li),xs=[.ref a]/\Rd H a (.lst (ns.map V.int))/\Q (.int ns.sum) H):=by
 intro pins s σ H xs us Q I rv h;obtain⟨a,ns,rfl,ha,q⟩:=h;obtain⟨u,rfl,ru⟩:=vals1 rv;cases ru;obtain⟨_,its,n,r,_,e⟩:=L3.Inv.ul I ha;have hi:=lq r;obtain⟨xs,ex⟩:=hi.allInts.items;have es:(numsOf its.toArray.toList).sum=ns.sum:=by rw[show its.toArray.toList=its from rfl,hi.numsOf]
 rw[ex,nums_intItems]at es;refine sum_intListG (xs:=xs) (I.ok.hd hc) ⟨_,e,rfl,_,by rw[ex]⟩ λh' tk t' hk=>?_;refine⟨.int ns.sum,H,I.kept (t':=tk) hk,⟨t',?_⟩,q⟩;rw[preSum_eq,b9 (by simp),es]
end
end L2
namespace L3
open L2
section
variable {X:Cx}{G:Gx}{Er:ER}{a b e:Expr}{pos p px apos:Pos}{C Ca Cb:En->Prop}{gl hl:En->List Int}{i j k:Nat}{x:Str}
theorem Kv (R:Rep X.K G B σ H Z O)(ca:Ca Z)(cb:Cb Z)(q:∀l m H1 H2,Same H H1->Same H1 H2->Rd H2 l (.lst ((gl Z).map V.int))->Rd H2 m (.lst ((hl Z).map V.int))->r (.ref l) (.ref m) H2 Q) :
  tOp r (BW X.K G Ca λZ=>.ints (gl Z)) (BW X.K G Cb λZ=>.ints (hl Z)) σ H Q:=
 ⟨B,Z,O,R,ca,λv H1 s1 a1=>⟨B,Z,O,R.grow s1,cb,λu H2 s2 a2=>by
  obtain⟨l,rfl,r1⟩:=a1;obtain⟨m,rfl,r2⟩:=a2;exact q l m H1 H2 s1 s2 (gY s2 r1) r2⟩⟩
theorem Mj (hu:X.A.units+64<cLine)(ha:PE X a (BW X.K G Ca λZ=>.ints (gl Z)))(hb:PE X b (BW X.K G Cb λZ=>.ints (hl Z))):PE X (.Compare a [.Eq] [b] pos) (Ed X.K G (λZ=>Ca Z/\Cb Z) λZ=>gl Z=hl Z):=
 mY (pe_cmpR (Jv hu) ha hb (nomark _)) λ_ _ _ _ _ _ R c q=>Kv R c.1 c.2 λl m _ H2 s1 s2 r1 r2=>⟨l,m,_,_,rfl,rfl,r1,r2,q _ H2 (s1.trans s2) rfl⟩
theorem M6 (hu:X.A.units+64<cLine)(ha:PE X a (BW X.K G Ca λZ=>.ints (gl Z)))(hb:PE X b (BW X.K G Cb λZ=>.ints (hl Z))):PT X (.Compare a [.NotEq] [b] pos) (uv X.K G (λZ=>Ca Z/\Cb Z) λZ=>¬gl Z=hl Z):=
 λpins s σ H Q I ⟨_,_,_,R,c,q⟩=>pt_cmpR (Js hu) ha hb (nomark _) pins s σ H Q I (Kv R c.1 c.2 λl m _ H2 s1 s2 r1 r2=>⟨l,m,_,_,rfl,rfl,r1,r2,_,rfl,q H2 (s1.trans s2)⟩)
theorem K8 (hcm:X.calm=true)(hm:X.mg "sum"=none)(ha:PE X a (zR X.K G Ca gl))(hg:Gl X "sum":=by rfl)(he:starEach [a] X.env=[(false,eval a X.env)]:=by rfl):PE X (.Call (.Name "sum" p) [a] [] pos) (jj X.K G Ca λZ=>(gl Z).sum):=
 mY (pe_callB (Cw hcm) hg hm Mm (pa_cons ha pa_nil he) (by decide) (by decide) he rfl) λB σ H Z O Q R c q=>⟨B,Z,O,R,c,λv H1 s1 a1=>by
  obtain⟨l,rfl,r1⟩:=a1;exact⟨l,_,rfl,gY iz r1,q _ H1 s1 rfl⟩⟩
def Nf:PV->Int
 | .int n=>n
 |_=>0
def HN:PV->List Int
 | .ints ns=>ns
 |_=>[]
theorem BL (h:PE X e (tX X.K G C g)):PE X e (jj X.K G (λZ=>C Z/\g Z=.int (Nf (g Z))) λZ=>Nf (g Z)):=
 mY h λB σ H Z O Q R c q=>⟨B,Z,O,R,c.1,λv H' s a=>q v H' s (by rw[<- c.2];exact a)⟩
theorem xl_of (h:PE X e (tX X.K G C g)):PE X e (zR X.K G (λZ=>C Z/\g Z=.ints (HN (g Z))) λZ=>HN (g Z)):=
 mY h λB σ H Z O Q R c q=>⟨B,Z,O,R,c.1,λv H' s a=>q v H' s (by rw[<- c.2];exact a)⟩
def Dj:PV->List PV
 | .lst xs=>xs
 |_=>[]
theorem Km (h:PE X e (tX X.K G C g)):PE X e (tX X.K G (λZ=>C Z/\g Z=.lst (Dj (g Z))) λZ=>.lst (Dj (g Z))):=
 mY h λB σ H Z O Q R c q=>⟨B,Z,O,R,c.1,λv H' s a=>q v H' s (by rw[<- c.2];exact a)⟩
end
theorem Jt {H:Hp}{O:Addr->Bool}{x:Addr}(hd:∀a,O a=true->H a≠none)(hx:H x=none){H':Hp}:mn H' O x=H' x:=lB (by
 cases z:O x with
 |false=>rfl
 |true=>exact absurd hx (hd x z))
theorem HY (hx:H x=none)(hd:H dx=none):Same H (upd (upd (upd H dx (.own x)) x (.ins C dx [])) x (.ins C dx fs)):=mR λb o e=>by rw[upd_ne (ne_of_none e hx),upd_ne (ne_of_none e hx),upd_ne (ne_of_none e hd)];exact e
def KW (cW:Addr)(H:Hp)(a:Addr)(z:Int):Prop:=z=0/\∃dx fs,H a=some (.ins cW dx fs)/\fs.lookup ("size":Str)=some (.int 0)/\∀m∈rO,fs.lookup m=none
section
variable {K:Fg}{G:Gx}{B:Bs}{σ:L2.St}{H H1:Hp}{Z:En}{O:Addr->Bool}{D:Addr}{cap:List (Option Nat)}
variable {α:Type}{J:It}{g:TG}{C Ct:En->Prop}{pt:En->Prop}[∀Z,Decidable (pt Z)]{gb:En->PV}{Q:VK}
theorem Hx (items:List α)(setσ:α->V->L2.St)(setr:α->En)(val:α->V)(R:Rep K G B σ H1 Z O)(hD:H1 D=none)(hlen:items.length<=10000)(hgo:∀i H,i<items.length->Same H1 H->J.go i H)
  (hyld:∀i it x H H',items[i]?=some it->Same H1 H->J.yld i H x H' -> Same H H'/\∀k:L2.St->Hp->Prop,k (setσ it (val it)) H' -> g x (mj cap σ) H' k) (hstop:∀H,Same H1 H->J.stop items.length H)
  (hset:∀it H,it∈items->Same H1 H->Rep K G ⟨H1,O⟩ (mj cap σ) H (ji cap Z) (hide D O)->Rep K G ⟨H1,O⟩ (setσ it (val it)) H (setr it) (hide D O)) (hext:∀it,um (mj cap σ) (setσ it (val it))) (hCt:∀it∈items,Ct (setr it)) (hC:∀it∈items,pt (setr it)->C (setr it))
  (hQ:∀H' ys,Same H1 H' -> H' D=some (.lst ys)->jy K G (mn H' (hide D O)) ((items.filter λit=>decide (pt (setr it))).map λit=>gb (setr it)) ys->Q (.ref D) H') :
  ∃W:Nat->Nat->List V->Hp->Prop,(∃m,W 0 m [] (upd H1 D (.lst [])))/\P0 D J (mj cap σ) g (uv K G Ct pt) (tX K G C gb) Q W:=by
 refine⟨λi m ys H=>m=items.length-i/\i<=items.length/\Same H1 H/\H D=some (.lst ys)/\jy K G (mn H (hide D O)) (((items.take i).filter λit=>decide (pt (setr it))).map λit=>gb (setr it)) ys,⟨items.length,by simp,be _,same_new hD _,upd_same,rfl⟩,?_⟩;rintro i m ys H ⟨rfl,hi,hs,hd,al⟩;have hl:ys.length<=i:=by rw[<- al.length,aa];refine aG (cM _ _) ?_;rw[bS];lia
 refine⟨hd,bc (show ys.length<=10000 by lia) (by decide),?_⟩;by_cases hlt:i<items.length
 ·refine .inr ⟨hgo i H hlt hs,?_⟩;intro x H' hy;have en:items[i]?=some items[i]:=aB hlt;obtain⟨s1,kk⟩:=hyld i _ x H H' en hs hy;refine kk _ ⟨hext _,?_⟩;have hd':=s1 _ _ hd;have R2:=hset items[i] H' (cB hlt) (hs.trans s1) (uJ R hD (hs.trans s1) (by rw[hd'];exact λz=>by cases z));refine⟨_,_,_,R2,hCt _ (cB hlt),λH3 s3=>?_⟩;by_cases d:pt (setr items[i])
  ·rw[aM d];refine iteT ?_;refine⟨_,_,_,R2.grow s3,hC _ (cB hlt) d,λv H2 s2 a2=>⟨s2 _ _ (s3 _ _ hd'),items.length-(i+1),by lia,rfl,hlt,?_,upd_same,?_⟩⟩
   ·intro b o z;rw[upd_ne (ne_of_none z hD)];exact(((hs.trans s1).trans s3).trans s2) b o z
   ·rw[nQ hide_self,rC en,dh,List.filter_cons_of_pos (by exact aM d),bF];exact jy.snoc (jy.mono (jn ((s1.trans s3).trans s2)) _ _ al) a2
  ·rw[aH d];refine iteF ?_;refine⟨items.length-(i+1),by lia,rfl,hlt,hs.trans (s1.trans s3),s3 _ _ hd',?_⟩;rw[rC en,dh,List.filter_cons_of_neg (by simpa using d),List.filter_nil,aZ];exact jy.mono (jn (s1.trans s3)) _ _ al
 ·have e:i=items.length:=by lia
  subst e;refine .inl ⟨hstop H hs,hQ H ys hs hd ?_⟩;rw[cC]at al;exact al
end
section
variable {K:Fg}{G:Gx}{σ:L2.St}{H:Hp}{Q:VK}{Cs Ct Cb:En->Prop}{pt:En->Prop}[∀Z,Decidable (pt Z)]{gs hs:En->List Int}{gi:En->Int}{gp:En->PV}{cap:List (Option Nat)}
theorem NT (h:JN K G (λZ=>Cs Z/\(gs Z).length<=1000/\∀n∈gs Z,Ct ((ji (none::cap) Z).set 0 (.fr (.int n)))/\(pt ((ji (none::cap) Z).set 0 (.fr (.int n)))->Cb ((ji (none::cap) Z).set 0 (.fr (.int n)))))
   (λZ=>((gs Z).filter λn=>decide (pt ((ji (none::cap) Z).set 0 (.fr (.int n))))).map λn=>gp ((ji (none::cap) Z).set 0 (.fr (.int n)))) σ H Q) :
  Ot (none::cap) (iList K (BW K G Cs λZ=>.ints (gs Z))) (gName 0) (uv K G Ct pt) (tX K G Cb gp) σ H Q:=by
 obtain⟨B,Z,O,R,⟨c1,c2,c3⟩,q⟩:=h;refine⟨B,Z,O,R,c1,λv H1 s1 a1=>?_⟩;obtain⟨a,rfl,hq⟩:=a1;have hq1:SqL K H1 a ((gs Z).map V.int):=.inl hq;refine⟨a,rfl,⟨_,hq1⟩,λD hD=>?_⟩;refine Hx (gs Z) (λ_ v=>(mj (none::cap) σ).set 0 (some v)) (λn=>(ji (none::cap) Z).set 0 (.fr (.int n))) V.int (R.grow s1) hD (aG c2 (by decide)) (λi H hi s=>⟨_,.int (gs Z)[i],s.seq hq1,by simp[hi]⟩) ?_ (λH s=>⟨_,s.seq hq1,by simp⟩) (λn H _ s R'=>R'.set (p:=.int n) rfl) ?_ (λn hn=>(c3 n hn).1) (λn hn=>(c3 n hn).2) ?_
 ·rintro i n x H H' en s ⟨rfl,hx⟩;obtain⟨n',rfl,hn⟩:=int_at (hx _ (s.seq hq1));rw[hn]at en;cases en;exact⟨Same.refl _,λk hk=>hk⟩
 ·intro n;exact nG _
 ·intro H' ys s hd al;exact q D ys H' (s1.trans s) (s1.free hD) hd al
end
section
variable {X:Cx}{G:Gx}{Er:ER}{N':List Str}{sc:Scope}{cl:List (Str×Addr)}{cap:List (Option Nat)}{el tg src tst l l2:Expr}{at' spos px p pos':Pos}{Cs Cs' Ct Cb:En->Prop}{pt:En->Prop}[∀Z,Decidable (pt Z)]{gs hs:En->List Int}{gi:En->Int}{gp:En->PV}{i:Nat}{x:Str}
theorem Ia (L:wV X N' sc cl (none::cap))(hc:X.calm=true)(hi:PE X src (BW X.K G Cs λZ=>.ints (gs Z)))(hg:∀s H fp,PG (ie X N' sc cl s H fp) tg (gName 0))(ht:∀s H fp,PT (ie X N' sc cl s H fp) tst (uv X.K G Ct pt))(he:∀s H fp,PE (ie X N' sc cl s H fp) el (jj X.K G Cb gi))(hs:∀x,foldedSetIterable src X.env x=pure x:=by intro _;rfl) :
  PE X (.ListComp el [⟨tg,src,[tst],0⟩] sc at') (vA X.K G (λZ=>Cs Z/\(gs Z).length<=1000/\∀n∈gs Z,Ct ((ji (none::cap) Z).set 0 (.fr (.int n)))/\(pt ((ji (none::cap) Z).set 0 (.fr (.int n)))->Cb ((ji (none::cap) Z).set 0 (.fr (.int n)))))
   λZ=>((gs Z).filter λn=>decide (pt ((ji (none::cap) Z).set 0 (.fr (.int n))))).map λn=>gi ((ji (none::cap) Z).set 0 (.fr (.int n)))):=
 λpins s σ H Q I h=>FZ L hc (pi_list hi) hg (λs H fp=>Jh (ht s H fp)) he hs pins s σ H Q I (NT (zF h))
end
end L3
end
namespace L2
open PySem PySem.Spec PyProof.Rows PySem.W PySem.Calls
theorem Gy:∀(ns:Li),∀n∈ns,WData.weight (.int n)<=WData.weightAll (ns.map WData.int)
 |[],n,h=>by cases h
 |m::r,n,h=>by
  rw[aA];simp only[WData.weightAll];rcases az.mp h with rfl|h
  ·lia
  ·have:=Gy r n h;lia
theorem I9 {ns:Li}(h:WData.layableAll [WData.list (ns.map WData.int)]=true){n:Int}(hn:n∈ns):Builtin.Int.intBits n<=2^20:=by have h1:WData.layable (WData.list (ns.map WData.int))=true:=cA.mp h _ ag;unfold WData.layable at h1;rw[dF]at h1;have h2:=cU h1.2;have h3:=Gy ns n hn;simp only[WData.weight]at h2 h3;exact aG h3 h2
theorem Gb {l:W.OpenLaw}{n k:Nat}{XP:(Str->Option Value)->Heap->Prop}{YP:World->Heap->Prop}{d:DefRec}{K:Params->Fg}{CX:World->CXT}{sp:World->Sp}
  (hn:l.most=some n) (hn2:n<=sizeLine) (hdf:d.params.defaults=[]) (hr:Room k callerA) (hY:∀(w:World) (h:Heap),YP w h->(K w.params).In h)
  (F:∀(w:World) (mg:Mg) (fa:Addr) (h:Heap),(K w.params).In h->h.Ns mainGlobals mg->mg d.name=some (.ref fa) ->
   ∃fd:FuncData,(∀(s:Shared) (u:Value),BindsTo s fd ⟨[u],[]⟩ [(x,u)])/\∀base:Heap,(K w.params).In base->base.Ns mainGlobals mg->FnOk l.prog w (K w.params) mg base (CX w) k fa fd [x] (sp w))
  (LO:∀(w:World) (h:Heap),YP w h->yC (K w.params) h)
  (hsp:∀(w:World) (H:Hp) (a:Addr) (ns:List Int),ns.length<=n->(∀m∈ns,Builtin.Int.intBits m<=2^20)->SqL (K w.params) H a (ns.map V.int)->sp w [.ref a] H (λv _=>v=.bl true) λ_ _ _=>False)
  (hCX:∀(w:World) (H:Hp) (s:Shared) (e:Value) (s':Shared),CX w [] H s (λ_ _ _=>False) e s' -> False):W.WalkO q loose XP YP l.row.toRowW d [] (λf vs=>PySem.call f vs):=by
 intro w s₀ s₁ mg mb G Y fa o pm cd doc dV kV ho hd hcd hD hmg hg args vals as hpre hlay hrd hwl hlo;obtain rfl:dV=.none:=Dflts.none hD hdf;obtain rfl:kV=.none:=Dflts.noKw hD;obtain⟨a,vs,ns,rfl,rfl,hobj,hints,hlen⟩:=Att.script_of hn hpre hwl;have KX:=hY w _ Y;obtain⟨fd,hb,hF⟩:=F w mg fa _ KX G.T.g hmg;refine enter_call (fh (law_call KX G.T.g G.T.b G.T.builtins G.T.nolimit hg hobj hints (aG hlen hn2) hr (LO w _ Y) G.T.bmain hF hb (λH hS=>hsp w H a ns hlen (λm hm=>I9 hlay hm) hS) λH e s'=>hCX w H s₁ e s') λr s' hq=>?_);obtain⟨rfl,h2,h3,h4⟩:=hq;exact⟨.inl ⟨.bool true,.bool true,[],rfl,λ_=>rfl,.bool true,Att.post_true l _,λ_=>⟨List.Pairwise.nil,λ_ hm=>(nomatch hm)⟩⟩,h2,h3,h4⟩
def qi (K:Fg):Sp:=λvs H Q _=>∃(a:Addr) (ns:List Int),vs=[.ref a]/\SqL K H a (ns.map V.int)/\ns.length<=63/\(∀m∈ns,Builtin.Int.intBits m<=2^20)/\∀H',Q (.bl true) H'
end L2
namespace L3
open PySem PySem.Spec PyProof.Rows L2
theorem N6 {P:Program}{w:World}{K:Fg}{mg:Mg}{base:Heap}{G:Gx}{k:Nat}{x:Str}{st:Stmt}{N:Ls}{f:Addr}{fd:FuncData}{y:Str}(F:Fun K x x st f fd)(S:FnScope N [y] (defScope st))
  (hbody:∀(cdv:Value) (A:Around) (outer:List Env) (s:Shared) (H:Hp) (E:XK),Room k (A.deeper (envOfC x (defScope st) s.heap.objs.size f cdv)) ->
   ∃fs,PSs (cxOf CX0 P w K mg base N x (defScope st) f cdv A outer s H E).nox (defBody st) (ts K G PQ fs)/\∀ns:List Int,ns.length<=63->(∀m∈ns,Builtin.Int.intBits m<=2^20)->fs { nx:=λ_=>False,rt:=λp=>p=.bl true } (iZ N [.scr ns])):FnOk P w K mg base CX0 (k+1) f fd [y] (qi K):=by
 refine F.ok S (λvs H Q E h=>?_) λcdv A outer s H vs Q E hr h=>?_
 ·obtain⟨a,ns,rfl,_⟩:=h;rfl
 obtain⟨a,ns,rfl,hS,hl,hb,q⟩:=h;obtain⟨fs,b,c⟩:=hbody cdv A outer s H E hr;have al:jy K G (mn H λ_=>false) [.scr ns] [.ref a]:=⟨_,_,rfl,⟨a,rfl,by rw[Od];exact hS⟩,rfl⟩;refine⟨_,b,⟨H,λ_=>false⟩,iZ N [.scr ns],_,⟨_,mD (λ_ z=>by cases z) al⟩,c ns hl hb,⟨λ_ _ _ _ h=>h.elim,λv H' p s' a' h=>?_,λ_ _ _ _ _ _ h=>h.elim,λ_ _ _ _ _ h=>h.elim,λ_ _ _ _ h=>h,λ_ _ _ _ h=>h,λ_ _ _ h=>h⟩⟩;subst h;subst a';exact q H'
end L3
namespace FM
open L2
structure Eu (n z b r sb s:Int):Prop where
 r0:0<=r
 rb:r<b
 bz:b<=z
 db:z ∣ b-sb*n
 dr:z ∣ r-s*n
 gc:Int.gcd b r=Int.gcd n z
 sg:(sb<=0/\0<=s)\/(0<=sb/\s<=0)
 id:(s.natAbs:Int)*b+(sb.natAbs:Int)*r=z
theorem Az (n z:Int):Int.gcd z (n % z)=Int.gcd n z:=by rw[fZ,Int.gcd_sub_mul_left_right,Int.gcd_comm]
theorem Eu.start (hz:2<=z):Eu n z z (n % z) 0 1:=by
 refine⟨bx _ (by lia),bj _ (by lia),Int.le_refl _,?_,?_,Az n z,.inl ⟨by lia,by lia⟩,?_⟩
 ·rw[bv,aW];exact c7 z
 ·rw[bt,fZ];exact⟨-(n / z),by rw[f8];lia⟩
 ·show(1:Int)*z+((0:Int).natAbs:Int)*(n % z)=z;rw[bt];show z+(0:Int)*(n % z)=z;rw[bv];lia
theorem Eu.rest {b r:Int}(h:0<r):b-b / r*r=b % r:=by rw[fZ,bV]
theorem Eu.step {n z b r sb s:Int}(h:Eu n z b r sb s)(hr:r≠0):Eu n z r (b-b / r*r) s (sb-b / r*s):=by
 have r0:0<r:=by have:=h.r0;lia
 have q0:0<=b / r:=Int.ediv_nonneg (by have:=h.rb;lia) (by lia);have er:=Eu.rest (b:=b) r0;have abs:((sb-b / r*s).natAbs:Int)=(sb.natAbs:Int)+b / r*(s.natAbs:Int):=by
  rcases h.sg with⟨h1,h2⟩|⟨h1,h2⟩
  ·have e1:0<=b / r*s:=fG q0 h2;have e2:(s.natAbs:Int)=s:=by lia
   rw[e2];lia
  ·have e1:b / r*s<=0:=bi q0 h2;have e2:(s.natAbs:Int) = -s:=by lia
   rw[e2,f8];lia
 refine⟨?_,?_,by have:=h.rb;have:=h.bz;lia,h.dr,?_,?_,?_,?_⟩
 ·rw[er];exact bx _ (by lia)
 ·rw[er];exact bj _ r0
 ·obtain⟨u,hu⟩:=h.db;obtain⟨v,hv⟩:=h.dr;refine⟨u-b / r*v,?_⟩;have e:b-b / r*r-(sb-b / r*s)*n=(b-sb*n)-b / r*(r-s*n):=by rw[fM,cx,bH];lia
  rw[e,hu,hv,cx,eA]
 ·rw[er,<- h.gc,Az]
 ·rcases h.sg with⟨h1,h2⟩|⟨h1,h2⟩
  ·exact .inr ⟨h2,by have:=fG q0 h2;lia⟩
  ·exact .inl ⟨h2,by have:=bi q0 h2;lia⟩
 ·rw[abs,<- h.id,dw,cx,bH,bV (b / r) ((s.natAbs:Int)*r),bH,bV r (b / r)];lia
theorem Eu.end (h:Eu n z b 0 sb s):b=(Int.gcd n z:Int):=by have:=h.gc;rw[Int.gcd_zero_right]at this;have:=h.rb;lia
theorem Eu.one (hz:2<=z)(h:Eu n z b 0 sb s)(h1:b=1):(sb % z*n) % z=1:=by
 have hd:=h.db;rw[h1]at hd;have e:(sb % z*n) % z=(sb*n) % z:=by rw[dA,cr _ (c7 z),<- dA]
 rw[e];have e2:(1-sb*n) % z=0:=bU hd;have e3:=(cY (m:=1) (n:=z) (k:=sb*n)).mpr e2;rw[<- e3];exact bB (by lia) (by lia)
theorem iG.Rg (hp:iG p)(h0:0<d)(h:d ∣ p):d=1\/d=p:=by
 obtain⟨k,hk⟩:=h;have hp2:=hp.1;have k0:0<k:=by
  rcases Int.lt_or_le 0 k with c|c
  ·exact c
  ·have:=bi (f6 h0) c;lia
 by_cases c1:d=1
 ·exact .inl c1
 ·by_cases c2:k=1
  ·right;rw[hk,c2,bR]
  ·exfalso;rcases Int.le_total d k with c|c
   ·refine hp.2.2 d (by lia) ?_ (bU ⟨k,hk⟩);rw[hk];exact aR c (by lia)
   ·refine hp.2.2 k (by lia) ?_ (bU ⟨d,by rw[hk,bV]⟩);rw[hk,bV d k];exact aR c (by lia)
theorem iG.Bk (hp:iG p)(h:¬b % p=0):Int.gcd b p=1:=by
 have h1:((Int.gcd b p:Nat):Int) ∣ p:=Int.gcd_dvd_right b p;have h2:((Int.gcd b p:Nat):Int) ∣ b:=Int.gcd_dvd_left b p;have h3:0<Int.gcd b p:=Int.gcd_pos_of_ne_zero_right _ (by have:=hp.1;lia);rcases hp.Rg (by lia) h1 with c|c
 ·lia
 ·rw[c]at h2;exact absurd (bU h2) h
end FM
section
open PySem PySem.Spec PyProof.Rows
namespace L2
section
variable {X:Cx}{pins:List (Addr×Obj)}{σ:St}{H:Hp}{s:Shared}{h':Heap}{ch:List Addr}
theorem Inv.noted (I:Inv X pins σ H s)(hl:X.env.locals∈frs X.stack)
  (hch:∀b∈ch,X.s₀.heap.get? b=none/\H b=none/\b∉frs X.stack/\(∀x c,X.env.cells.lookup x=some c->c≠b)/\∀p∈X.pn++pins,p.1≠b)
  (keep:∀b o,b∉ch->b∉frs X.stack->s.heap.get? b=some o->h'.get? b=some o) (slot:∀b o,b∈frs X.stack->s.heap.get? b=some o->∃sl,h'.get? b=some { o with slots:=sl }):Inv X pins σ H { s with heap:=h',toks:=t' }:=by
 have any:∀b o,b∉ch->s.heap.get? b=some o->∃sl,h'.get? b=some { o with slots:=sl }:=λb o hb e=>by
  by_cases c:b∈frs X.stack
  ·exact slot b o c e
  ·exact⟨o.slots,keep b o hb c e⟩
 have noC:∀b o,X.s₀.heap.get? b=some o->b∉ch:=λb o e z=>by rw[(hch b z).1]at e;cases e
 have neL:∀b o,X.s₀.heap.get? b=some o->b≠X.env.locals:=λb o e=>aO (ay (ai e) I.ok.above);have cellK:∀x c,X.env.cells.lookup x=some c->∀v,s.heap.IsCell c v->h'.IsCell c v:=λx c e v ⟨o,ho,hd⟩=>by obtain⟨sl,q⟩:=any c o (λz=>(hch c z).2.2.2.1 x c e rfl) ho;exact⟨_,q,hd⟩
 refine⟨I.ok,I.os,I.bare,⟨λb o e n hbf hx=>?_,λb o e n hbf hx=>?_,I.base.free,λb o e hx=>?_,I.base.tups,I.base.frzs,I.base.tbls⟩,?_,λx c e=>?_,I.free,I.freeC,λp hp=>?_,λb o e=>?_,I.len⟩
 ·refine keep b o (noC b o e) (λz=>?_) (I.base.keep b o e n hbf hx);rcases az.mp (I.stkSub b z) with q|q
  ·exact neL b o e q
  ·exact hbf q
 ·obtain⟨sl,e1⟩:=I.base.slot b o e n hbf hx;obtain⟨sl2,e2⟩:=any b _ (noC b o e) e1;exact⟨sl2,e2⟩
 ·obtain⟨o',e1⟩:=I.base.there b o e hx;obtain⟨sl2,e2⟩:=any b o' (noC b o e) e1;exact⟨_,e2⟩
 ·obtain⟨m,⟨o,es,ep,ho,r⟩,hloc⟩:=I.loc;obtain⟨sl,e⟩:=slot _ o hl ho;refine⟨m,⟨_,es,ep,e,r⟩,λi x v h1 h2 h3=>?_⟩;obtain⟨u,ru,l⟩:=hloc i x v h1 h2 h3;refine⟨u,ru,?_⟩;rcases l with l|⟨k,c,hc,ic⟩
  ·exact .inl l
  ·exact .inr ⟨k,c,hc,cellK x c hc _ ic⟩
 ·obtain⟨v,ic⟩:=I.cell x c e;exact⟨v,cellK x c e v ic⟩
 ·obtain⟨a1,a2,a3,a4,a5⟩:=I.pin p hp;refine⟨keep p.1 p.2 (λz=>(hch _ z).2.2.2.2 p hp rfl) (λz=>?_) a1,a2,a3,a4,a5⟩;rcases az.mp (I.stkSub _ z) with q|q
  ·exact a3 q
  ·exact a4 q
 ·refine(I.hok b o e).stay (λc u hc q=>keep c u (λz=>?_) (λz=>?_) q) (λ_ q=>q) λ_ _ q=>q
  ·have hn:=(hch c z).2.1;rcases hc with rfl|hc
   ·rw[hn]at e;cases e
   ·rw[hn]at hc;cases hc
  ·have hn:=I.stkFree c z;rcases hc with rfl|hc
   ·rw[hn]at e;cases e
   ·rw[hn]at hc;cases hc
theorem Inv.Hk (I:Inv X pins σ H s)(hex:X.ex=[])(hb:s.heap.get? b=none):X.s₀.heap.get? b=none/\b∉frs X.stack/\(∀x c,X.env.cells.lookup x=some c->c≠b)/\∀p∈X.pn++pins,p.1≠b:=by
 refine⟨?_,λz=>?_,λx c e z=>?_,λp hp z=>?_⟩
 ·cases q:X.s₀.heap.get? b with
  |none=>rfl
  |some o=>obtain⟨o',e⟩:=I.base.there b o q (by rw[hex];simp);rw[hb]at e;cases e
 ·obtain⟨_,o,e,_⟩:=I.stack.mem z;rw[hb]at e;cases e
 ·obtain⟨v,o,e',_⟩:=I.cell x c e;rw[z,hb]at e';cases e'
 ·have e:=(I.pin p hp).1;rw[z,hb]at e;cases e
end
section
variable {X:Cx}{pins:List (Addr×Obj)}{σ:St}{H1 H':Hp}{s1 s':Shared}{a:Addr}{cls:Value}
theorem Hb {M:Model}{Q:Shared->Prop}{E':Value->Shared->Prop}(I:Inv X pins σ H1 s1)(hst:X.stack=X.env::X.outer)(hfr:X.env.frame=some X.env.locals)(hex:X.ex=[])(ho:s'.os=s1.os)(hb:AllBare s'.gens)
  (u:Un (frs X.stack) [] H1 H' s1.heap s'.heap) (hok:HOk X.prog X.w H' s'.heap) (F:M9 s1.heap H' s'.heap a cls)
  (hQ:∀h',Inv X pins σ H' { s' with heap:=h' }->M9 s1.heap H' h' a cls->Q { s' with heap:=h' }) :
  wpAny M X.A (noteFrame (.ref a) X.env) (λ_ s2=>wpAny M X.A (setFlight (.ref a) none) (λ_ s3=>Q s3) E' s2) E' s':=by
 have J:Inv X pins σ H' s':=I.call' (ch:=[]) ho u hok hb (λb z=>absurd z (by simp));obtain⟨oe,vs,T,oT,ts,he,hcls,hdi,hd,h1,hTe,hT,hdT,h3,hHT,hsT⟩:=F.ex;subst hcls;have hA:X.A.frames=some (X.env::X.outer):=by rw[<- hst];exact I.ok.frames
 have FF:=J.stack;have na:=I.Hk hex F.new;have nT:=I.Hk hex hsT;have hl:X.env.locals∈frs X.stack:=by rw[hst];unfold frs;rw[aJ,hfr];exact ag
 refine uM (as:=a::T::frs X.stack) (Q:=λ_ s3=>Q s3) hA (by rw[<- hst];exact FF) hfr he hdi hd h1 hTe hT hdT h3 ag (ac _ ag) (λb z=>ac _ (ac _ (by rw[hst];exact z))) λh3' L=>?_;rw[<- hst]at L;obtain⟨oe',vs',T',oT',ts',he',hc',hdi',hd',h1',hnT',hTe',hT',hdT',h3''⟩:=L.ex;have J3:Inv X pins σ H' { s' with heap:=h3' }:=J.noted (t':=s'.toks) (ch:=[a,T]) hl (λb z=>by
   rcases az.mp z with rfl|z
   ·exact⟨na.1,F.un,na.2.1,na.2.2.1,na.2.2.2⟩
   ·have e:b=T:=by simpa using z
    subst e;exact⟨nT.1,hHT,nT.2.1,nT.2.2.1,nT.2.2.2⟩)
  (λb o hb hf e=>L.keep b o e (by
   intro z;rcases az.mp z with q|z
   ·exact hb (by simp[q])
   ·rcases az.mp z with q|z
    ·exact hb (by simp[q])
    ·exact hf z)) L.slot
 have tn:H' T'=none/\s1.heap.get? T'=none:=by
  refine⟨J.untracked hnT',?_⟩;cases q:s1.heap.get? T' with
  |none=>rfl
  |some o=>obtain⟨o',e'⟩:=u.there T' o q (by simp);rw[hnT']at e';cases e'
 exact hQ h3' J3 ⟨⟨oe',vs',T',oT',ts',he',hc',hdi',hd',h1',hTe',hT',hdT',h3'',tn.1,tn.2⟩,F.un,F.new⟩
end
section
variable {X:Cx}{pins:List (Addr×Obj)}{σ:St}{H H':Hp}{s:Shared}{h0:Heap}{a:Addr}{cls:Value}
theorem yI (J:Inv X pins σ H' s)(hst:X.stack=X.env::X.outer)(hfr:X.env.frame=some X.env.locals)(F:M9 h0 H' s.heap a cls)
  (nw:∀b,h0.get? b=none->X.s₀.heap.get? b=none/\b∉frs X.stack/\(∀x c,X.env.cells.lookup x=some c->c≠b)/\∀p∈X.pn++pins,p.1≠b)
  (hQ:∀h',Inv X pins σ H' { s with heap:=h' }->M9 h0 H' h' a cls->Q () { s with heap:=h' }):wpAny M A (setFlight (.ref a) none) Q E' s:=by
 obtain⟨oe,vs,T,oT,ts,he,hcls,hdi,hd,h1,hTe,hT,hdT,h3,hHT,hsT⟩:=F.ex;have FF:=J.stack;have hsz3:3<ts.size:=(ce.mp h3).1;have other:∀b,b≠T->(s.heap.update T (Obj.mapFields (·.setIfInBounds 3 .none))).get? b=s.heap.get? b:=λb hb=>aU _ _ (bP hb);have nT:=nw T hsT;have hl:X.env.locals∈frs X.stack:=by rw[hst];unfold frs;rw[aJ,hfr];exact ag
 refine wpAny_setFlight_none he hd h1 hT hdT hsz3 (hQ _ ?_ ?_)
 ·exact J.noted (t':=s.toks) (ch:=[T]) hl (λb z=>by
   have e:b=T:=by simpa using z
   subst e;exact⟨nT.1,hHT,nT.2.1,nT.2.2.1,nT.2.2.2⟩) (λb o hb hf e=>(other b (λz=>hb (by simp[z]))).trans e)
   (λb o z e=>⟨o.slots,(other b (λq=>nT.2.1 (by rw[<- q];exact z))).trans e⟩)
 ·refine⟨⟨oe,vs,T,_,_,(other a (bP hTe)).trans he,hcls,hdi,hd,h1,hTe,cf _ hT (cJ (cg hdT _)),cg hdT _,by simp[hsz3],hHT,hsT⟩,F.un,F.new⟩
theorem Inv.gone (I:Inv X pins σ H s)(hN:X.N.Nodup)(hj:X.N[j]?=some y)(hny:y≠n)(hl:∀(i:Nat) (x:Str) (v:V),X.N[i]?=some x->σ[i]?=some (some v)->Vis X.env.scope x->∃u,RelV v u/\Look X.env s.heap m x u)
  (hn:h'.Ns X.env.locals (λx=>if x=n then v else m x)) (hs:Heap.SameBut X.env.locals s.heap h') (hw:σ[j]?=some (some w)):Inv X pins ((List.replicate X.N.length none).set j (some w)) H { s with heap:=h',toks:=t' }:=by
 have neL:∀b o,X.s₀.heap.get? b=some o->b≠X.env.locals:=λb o e=>aO (ay (ai e) I.ok.above);refine⟨I.ok,I.os,I.bare,⟨λb o e q hb hx=>(hs.2 b (neL b o e)).trans (I.base.keep b o e q hb hx),λb o e q hb hx=>?_,I.base.free,λb o e hx=>?_,I.base.tups,I.base.frzs,I.base.tbls⟩,⟨_,hn,λk x u e1 e2 e3=>?_⟩,λx c e=>?_,I.free,I.freeC,λp hp=>?_,λb o e=>?_,by rw[aT,bA]⟩
 ·obtain⟨sl,e1⟩:=I.base.slot b o e q hb hx;exact⟨sl,(hs.2 b (neL b o e)).trans e1⟩
 ·obtain⟨o',e1⟩:=I.base.there b o e hx;exact⟨o',(hs.2 b (neL b o e)).trans e1⟩
 ·have kj:k=j/\u=w:=by
   rw[bX]at e2;split at e2
   ·rename_i z;split at e2
    ·cases e2;exact⟨z.symm,rfl⟩
    ·cases e2
   ·rw[bf]at e2;split at e2<;>cases e2
  obtain⟨rfl,rfl⟩:=kj;rw[hj]at e1;cases e1;obtain⟨u',r',q⟩:=hl k y u hj hw e3;refine⟨u',r',?_⟩;rcases q with⟨kk,e⟩|⟨kk,c,e,z⟩
  ·exact .inl ⟨kk,by dsimp only;rw[af hny];exact e⟩
  ·exact .inr ⟨kk,c,e,z.sameBut hs (I.cne y c e)⟩
 ·obtain⟨w',z⟩:=I.cell x c e;exact⟨w',z.sameBut hs (I.cne x c e)⟩
 ·obtain⟨e,q,ne,nf,d⟩:=I.pin p hp;exact⟨(hs.2 p.1 ne).trans e,q,ne,nf,d⟩
 ·refine(I.hok b o e).stay (λc u hc q=>(hs.2 c (λz=>?_)).trans q) (λ_ q=>q) λ_ _ q=>q;subst z;rcases hc with rfl|hc
  ·rw[I.free]at e;cases e
  ·rw[I.free]at hc;cases hc
def uw (a:Addr)(cls:Value):HO:=.ext λh=>∃o vs,h.get? a=some o/\o.cls=cls/\o.dict=none/\o.data=.fields vs
theorem Inv.Lr (I:Inv X pins σ H s)(f0:H T=none)(f1:T≠X.env.locals)(f3:X.s₀.heap.get? T=none)(f4:∀x c,X.env.cells.lookup x=some c->c≠T)(f5:∀p∈X.pn++pins,p.1≠T)
  (new:ObjOk X.prog X.w (upd H T o) s.heap T o):Inv X pins σ (upd H T o) s:=by
 have ne:∀{b:Addr} {u:HO},H b=some u->b≠T:=λe=>ne_of_none e f0;refine⟨I.ok,I.os,I.bare,⟨I.base.keep,I.base.slot,λb ob e n x=>?_,I.base.there,λb xs e=>?_,λb ob u e=>?_,λb ps e=>?_⟩,I.loc,I.cell,by rw[upd_ne (bP f1)];exact I.free,λx c e=>?_,λp hp=>?_,λb u e=>?_,I.len⟩
 ·have hb:b≠T:=λz=>by rw[z,f3]at e;cases e
  rw[upd_ne hb];exact I.base.free b ob e n x
 ·have q:=I.base.tups b xs e;rw[upd_ne (ne q)];exact q
 ·have q:=I.base.frzs b ob u e;rw[upd_ne (ne q)];exact q
 ·obtain⟨m,q⟩:=I.base.tbls b ps e;exact⟨m,by rw[upd_ne (ne q)];exact q⟩
 ·rw[upd_ne (f4 x c e)];exact I.freeC x c e
 ·obtain⟨a1,a2,a3⟩:=I.pin p hp;exact⟨a1,by rw[upd_ne (f5 p hp)];exact a2,a3⟩
 ·by_cases c:b=T
  ·subst c;rw[upd_same]at e;cases e;exact new
  ·rw[upd_ne c]at e;exact(I.hok b u e).stay (λ_ _ _ q=>q) (λd q=>by rw[upd_ne (ne q)];exact q) (λd xs q=>by rw[upd_ne (ne q)];exact q) λd _ _ q=>by rw[upd_ne (ne q)];exact q
theorem Inv.Qd (I:Inv X pins σ H s)(E:Value->Shared->Prop):Inv { X with pn:=X.pn++pins,xe:=E } [] σ H s:=
 ⟨⟨I.ok.mod,I.ok.kind,I.ok.glob,I.ok.blt,I.ok.above,I.ok.inj,I.ok.has,I.ok.cab,I.ok.hd,I.ok.frames,I.ok.stk,I.ok.exf,I.ok.bs,I.ok.bsz,I.ok.noex,I.ok.exfs,I.ok.funs,I.ok.frf⟩,I.os,I.bare,I.base,I.loc,I.cell,I.free,I.freeC,λp hp=>I.pin p (by simpa using hp),I.hok,I.len⟩
theorem Inv.NB (I:Inv { X with pn:=X.pn++pins,xe:=E } ps σ H s):Inv X pins σ H s:=
 ⟨⟨I.ok.mod,I.ok.kind,I.ok.glob,I.ok.blt,I.ok.above,I.ok.inj,I.ok.has,I.ok.cab,I.ok.hd,I.ok.frames,I.ok.stk,I.ok.exf,I.ok.bs,I.ok.bsz,I.ok.noex,I.ok.exfs,I.ok.funs,I.ok.frf⟩,I.os,I.bare,I.base,I.loc,I.cell,I.free,I.freeC,λp hp=>I.pin p (bT _ hp),I.hok,I.len⟩
theorem Inv.mark (I:Inv X pins σ H s)(v:Value)(E:Value->Shared->Prop):Inv { X with A:=X.A.mark (some v),calm:=false,xe:=E } pins σ H s:=
 ⟨⟨I.ok.mod,I.ok.kind,I.ok.glob,I.ok.blt,I.ok.above,I.ok.inj,I.ok.has,I.ok.cab,(λz=>by cases z),I.ok.frames,I.ok.stk,I.ok.exf,I.ok.bs,I.ok.bsz,I.ok.noex,I.ok.exfs,I.ok.funs,I.ok.frf⟩,I.os,I.bare,I.base,I.loc,I.cell,I.free,I.freeC,I.pin,I.hok,I.len⟩
theorem Inv.unmark (hd:X.calm=true->X.A.handled=none)(I:Inv { X with A:=X.A.mark (some v),calm:=false,xe:=E } pins σ H s):Inv X pins σ H s:=
 ⟨⟨I.ok.mod,I.ok.kind,I.ok.glob,I.ok.blt,I.ok.above,I.ok.inj,I.ok.has,I.ok.cab,hd,I.ok.frames,I.ok.stk,I.ok.exf,I.ok.bs,I.ok.bsz,I.ok.noex,I.ok.exfs,I.ok.funs,I.ok.frf⟩,I.os,I.bare,I.base,I.loc,I.cell,I.free,I.freeC,I.pin,I.hok,I.len⟩
end
def QJ (K:Fg)(N:Nat)(C:Addr)(j:Nat)(te:XK->TE):TS:=λD σ H=>
 te (λcls _ H'=>W.exmOne K cls (.ref C)=some true/\∀a,H' a=none->D.nx ((List.replicate N none).set j (some (.ref a))) (upd H' a (uw a cls))) σ H λ_ H1=>D.nx σ H1
section
variable {X:Cx}{call:Expr}{te:XK->TE}{x n y:Str}{C:Addr}{i j:Nat}{px py pn hp p1 p2 pos:Pos}
theorem M7 (hc:X.calm=true)(hst:X.stack=X.env::X.outer)(hfr:X.env.frame=some X.env.locals)(hex:X.ex=[])(hg:Gl X x)(hm:X.mg x=some (.ref C))(hN:X.N.Nodup)(hi:X.N[i]?=some n)(hj:X.N[j]?=some y)(hln:X.env.scope.names.lookup n=some .local)(hly:X.env.scope.names.lookup y=some .local)
  (hkn:X.env.kindOf n=some .local) (hny:y≠n) (hij:i≠j)
  (he:∀(pn:List (Addr×Obj)) (E':Value->Shared->Prop) (Ec:XK),Passes (xx X.prog X.w) { X with pn:=pn,xe:=E' } Ec->PE { X with pn:=pn,xe:=E' } call (te Ec))
  (hs:swapsWith call none p1.line X.env=pure false:=by rfl) (hs2:swapsWith (.Name n pn) (some (.Name y py)) p2.line X.env=pure false:=by rfl) (hdx:(x == ("__debug__":Str))=false:=by decide) (hdn:(n == ("__debug__":Str))=false:=by decide) (hdc:(n == ("__classdict__":Str))=false:=by decide) :
  PS X (.Try [.Expr call p1] [.ExceptHandler (some (.Name x px)) (some n) [.Assign [.Name y py] (.Name n pn) p2] hp] [] [] pos) (QJ X.K X.N.length C j te):=by
 intro pins s σ H D I h;have hx:Passes (xx X.prog X.w) { X with pn:=X.pn++pins,xe:=λe s'=>∃σ1 H1 s1,Inv X pins σ1 H1 s1/\xx X.prog X.w X.stack H1 s1 (λcls _ H'=>W.exmOne X.K cls (.ref C)=some true/\∀a,H' a=none->D.nx ((List.replicate X.N.length none).set j (some (.ref a))) (upd H' a (uw a cls))) e s' } (λcls _ H'=>W.exmOne X.K cls (.ref C)=some true/\∀a,H' a=none->D.nx ((List.replicate X.N.length none).set j (some (.ref a))) (upd H' a (uw a cls))):=
  λ_ σ1 H1 s1 e s' I1 q=>⟨σ1,H1,s1,I1.NB,q⟩
 have body:=pss_one (ps_expr (pos:=p1) (he _ _ _ hx) hs) [] s σ H { nx:=D.nx,rt:=λ_ _=>False } (I.Qd _) h;refine wpAny_Try_except (dq body (λf s1 q=>?_) λe s' q=>?_)
 ·cases f with
  |next=>obtain⟨σ',H',I',q⟩:=q;exact da ⟨σ',H',I'.NB,q⟩
  |ret v=>obtain⟨_,_,_,_,_,q⟩:=q;exact q.elim
  |brk=>obtain⟨_,_,_,q⟩:=q;exact q.elim
  |cont=>obtain⟨_,_,_,q⟩:=q;exact q.elim
 ·obtain⟨σ1,H1,s1,I1,a,cls,H',rfl,ho,hb,u,hok,F,hx1,hE⟩:=q;have nw:=λb (hb:s1.heap.get? b=none)=>I1.Hk hex hb;refine Hb I1 hst hfr hex ho hb u hok F λh3 J F3=>?_;refine wpAny_handleBy_cons (codeAny_handlers_test ?_) (by intro q;cases q);have J2:=J.mark (.ref a) X.xe;refine ld_glob (X:={ X with A:=X.A.mark (some (.ref a)),calm:=false,xe:=X.xe }) J2 hg hm ?_ hdx;obtain⟨oe,vs,T,oT,ts,hae,hcls,hrest⟩:=F3.ex;have LT:W.Looks (model X.prog X.w) h3 (typeOf (.ref a)) cls:=by rw[<- hcls];exact(W.Looks.ld hae).andThen .now
  have KI:X.K.In h3:=J.kIn;refine(W.exm_one KI LT hx1).here (s:={ s' with heap:=h3 }) ?_;refine codeAny_handlers_suite_as ?_;refine yI J hst hfr F3 nw λh4 J4 F4=>?_;obtain⟨oe4,vs4,T4,oT4,ts4,hae4,hcls4,hdi4,hd4,_⟩:=F4.ex;have na:=nw a F.new;have hl:X.env.locals∈frs X.stack:=by rw[hst];unfold frs;rw[aJ,hfr];exact ag
  have aL:a≠X.env.locals:=λz=>na.2.1 (by rw[z];exact hl);have aF:a∉X.fs:=λz=>na.2.1 (by rw[hst];unfold frs;rw[aJ,hfr];exact ac _ z);have Jp:Inv X (pins++[(a,oe4)]) σ1 H' { s' with heap:=h4 }:=J4.pins_of λp hp=>by
   rcases cI.mp hp with z|z
   ·exact J4.pin p (aC _ z)
   ·have e:p=(a,oe4):=by simpa using z
    subst e;exact⟨hae4,F.un,aL,aF,λv z=>by rw[hd4]at z;cases z⟩
  have J5:=Jp.mark (.ref a) X.xe;refine store_ok (X:={ X with A:=X.A.mark (some (.ref a)),calm:=false,xe:=X.xe }) J5 hN hi (.inl hln) (v:=.ref a) rfl (λs5 J6=>?_) (.inr hln);have il:i<σ1.length:=by rw[J4.len];exact(aD.mp hi).1
  have jl:j<σ1.length:=by rw[J4.len];exact(aD.mp hj).1
  have suite:∀Err:Value->Shared->Prop,PSs { X with A:=X.A.mark (some (.ref a)),calm:=false,xe:=Err } [.Assign [.Name y py] (.Name n pn) p2] (tAsg (tVar i) (gName j)):=λErr=>
   pss_one (ps_set (X:={ X with A:=X.A.mark (some (.ref a)),calm:=false,xe:=Err }) (i:=j) hN hj (.inl hly) (pe_var (X:={ X with A:=X.A.mark (some (.ref a)),calm:=false,xe:=Err }) hi (.inl hln) hdn hdc) hs2 (.inr hly))
  have J6':∀Err:Value->Shared->Prop,Inv { X with A:=X.A.mark (some (.ref a)),calm:=false,xe:=Err } (pins++[(a,oe4)]) (σ1.set i (some (.ref a))) H' s5:=λErr=>(J6.unmark I.ok.hd).mark _ Err;refine dq (suite _ _ s5 _ H' { nx:=λσ2 H2=>σ2[j]?=some (some (.ref a))/\H2=H',rt:=λ_ _=>False } (J6' _) ⟨_,by rw[bX,ae rfl,ae il],by
   exact⟨by rw[bX,ae rfl,ae (by rw[aT];exact jl)],rfl⟩⟩) (λf s6 q=>?_) λ_ _ q=>q
  cases f with
  |ret v=>obtain⟨_,_,_,_,_,q⟩:=q;exact q.elim
  |brk=>obtain⟨_,_,_,q⟩:=q;exact q.elim
  |cont=>obtain⟨_,_,_,q⟩:=q;exact q.elim
  |next=>obtain⟨σ2,H2,J7,hw,rfl⟩:=q;have J7:=J7.unmark I.ok.hd;obtain⟨m,hm',hloc⟩:=J7.loc;refine wpAny_nameGoes_keeps hkn hm' (by rw[I.ok.kind];rfl) λh7 v hn7 hs7=>?_;have J8:=J7.gone (t':=s6.toks+1) hN hj hny hloc hn7 hs7 hw;have e8:=(J8.pin (a,oe4) (aC _ (aC _ (by simp)))).1;have J9:Inv X pins ((List.replicate X.N.length none).set j (some (.ref a))) H2 { s6 with heap:=h7,toks:=s6.toks+1 }:=J8.pins_of λp hp=>J8.pin p (aC _ (bT _ hp));refine⟨_,_,J9.Lr (o:=uw a cls) F.un aL na.1 na.2.2.1 na.2.2.2 ?_,hE a F.un⟩;exact⟨⟨oe4,vs4,e8,hcls4,hdi4,hd4⟩,⟨oe4,e8⟩,λg1 g2 ⟨o,vs,q1,q2⟩ k=>⟨o,vs,k o q1,q2⟩⟩
end
end L2
namespace L3
open L2
inductive Rs where
 |val (p:PV)|err (C:Addr)
def Nv (K:Fg)(G:Gx)(pre:List PV->Prop)(F:List PV->Rs):Sp:=λvs H Q E=>∃as O,(∀a,O a=true->H a≠none)/\jy K G (mn H O) as vs/\pre as/\(∀p,F as=.val p->∀v H',Same H H' -> At K G (mn H' O) p v->Q v H')/\∀C,F as=.err C->∀H',Same H H' -> E (.ref C) none H'
structure NP (P:Program)(w:World)(K:Fg)(mg:Mg)(base:Heap)(k:Nat)(x:Str)(ps:List Str)(sp:Sp):Prop where
 ex:∃f fd,FnOk P w K mg base (xx P w) k f fd ps sp/\Binds K fd ps []/\W.keepIn K (.ref f)=true/\mg x=some (.ref f)
abbrev Q3 (E:XK):ER:=λC H=>E (.ref C) none H
section
variable {P:Program}{w:World}{K:Fg}{mg:Mg}{base:Heap}{G:Gx}
theorem Q7 {x:Str}{st:Stmt}{N ps:Ls}{k:Nat}{pre:List PV->Prop}{F:List PV->Rs}(d:mL K mg x st ps)(S:FnScope N ps (defScope st))(len:∀as,pre as->as.length=ps.length)
  (hbody:∀(f:Addr) (cdv:Value) (A:Around) (outer:List Env) (s:Shared) (H:Hp) (E:XK),Room k (A.deeper (envOfC x (defScope st) s.heap.objs.size f cdv)) ->
   ∃fs,PSs (cxOf (xx P w) P w K mg base N x (defScope st) f cdv A outer s H E) (defBody st) (ts K G (Q3 E) fs)/\∀as,pre as->fs { nx:=λ_=>F as=.val .non,rt:=λp=>F as=.val p,rl:=λns=>F as=.val (.ints ns),er:=λC=>F as=.err C } (iZ N as)):NP P w K mg base (k+1) x ps (Nv K G pre F):=by
 obtain⟨f,fd,Fu,b,m⟩:=d.ex;refine⟨f,fd,?_,b,Fu.kp,m⟩;obtain⟨oc,od,kV,doc,pm,an,cdv,ct,osl,rfl,lk,hcd⟩:=Fu.ex;refine fn_of lk hcd S (λvs H Q E h=>?_) λA outer s H vs Q E hr h=>?_
 ·obtain⟨as,O,_,al,hp,_⟩:=h;rw[<- al.length];exact len as hp
 obtain⟨as,O,hd,al,hp,q,qe⟩:=h;obtain⟨fs,b,c⟩:=hbody f cdv A outer s H E hr;refine⟨_,b,⟨H,O⟩,iZ N as,_,⟨O,mD hd al⟩,c as hp,⟨λσ' H' Z' R' h=>?_,λv H' p s' a' h=>q p h v H' s' a',λa H' ns s' n e h=>?_,λ_ _ _ _ _ h=>h.elim,λ_ _ _ _ h=>h,λ_ _ _ _ h=>h,λH' C s' h=>qe C h H' s'⟩⟩
 ·obtain⟨O',R'⟩:=R';exact q _ h .non H' R'.same rfl
 ·refine q _ h _ H' s' ⟨a,rfl,.inl ?_⟩;rw[lB]
  ·exact e
  ·cases z:O a with
   |false=>rfl
   |true=>exact absurd n (hd a z)
end
section
variable {X:Cx}{G:Gx}{E:XK}{e:Expr}{es:List Expr}{pos p cpos np pos':Pos}{i j k:Nat}{x y:Str}{ps:List Str}{pre:List PV->Prop}{C:En->Prop}{gs:En->List PV}{F:List PV->Rs}{Cc:Addr}
theorem wR (o:NP X.prog X.w X.K X.mg X.base j x ps sp)(hx:Passes (xx X.prog X.w) X E)(hr:Room k X.A)(ha:PA X (e::es) t)(hj:j<=k:=by decide)(hg:Gl X x:=by rfl)(hdb:(x == ("__debug__":Str))=false:=by decide)
  (he:starEach (e::es) X.env=(false,eval e X.env)::starEach es X.env:=by rfl) (hpl:(backTo pos (starEach es X.env)).any (·.1)=false:=by rfl):PE X (.Call (.Name x p) (e::es) [] pos) (tCall sp [] E t):=by
 obtain⟨f,fd,F,b,kp,m⟩:=o.ex;exact pe_call (F.mono hj) hr hg m kp b .nil hx ha hdb he hpl
theorem LR:Passes (xx X.prog X.w) X E0:=λ_ _ _ _ _ _ _ h=>by obtain⟨_,_,_,_,_,_,_,_,_,q⟩:=h;exact q.elim
def Rs.get:Rs->PV
 | .val p=>p
 | .err _=>.non
def Rs.QV:Rs->Prop
 | .val _=>True
 | .err _=>False
theorem uZ (hn:Ey X E)(hc:X.calm=true)(q:xU X.K Cc)(hg:Gl X x)(hm:X.mg x=some (.ref Cc))(ha:PA X (e::es) (yU X.K G C gs))(hlen:∀Z,(gs Z).length=(e::es).length:=by intro _;rfl)(hz:(e::es).length<=1000:=by decide)
  (hdb:(x == ("__debug__":Str))=false:=by decide) (he:starEach (e::es) X.env=(false,eval e X.env)::starEach es X.env:=by rfl) (hpl:(backTo cpos (starEach (e::es) X.env)).any (·.1)=false:=by rfl) :
  PS X (.Raise (some (.Call (.Name x np) (e::es) [] cpos)) none pos) (ts X.K G (Q3 E) λP Z=>C Z/\P.er Cc):=
 toS (GK hn hc q hg hm ha hz hdb he hpl λσ H Q ⟨B,Z,O,R,c,q⟩=>⟨B,Z,O,R,c,λvs H1 s1 a1=>⟨by rw[<- a1.length];exact hlen Z,q vs H1 s1 a1⟩⟩) λB σ H Z O P D R c w=>⟨B,Z,O,R,c.1,λ_ H1 s1 _=>w.er H1 Cc (R.same.trans s1) c.2⟩
end
end L3
namespace L2
theorem Cd {prog:Program}{w:World}{A:Around}{E:Value->Shared->Prop}{s:Shared}{K:Fg}{x C:Addr}{o:Obj}{Q:Option Value->Shared->Prop}(X:K.In s.heap)(I:W.InstAt s.heap x o C none)
  (hga:W.findIn K (.ref C) "__getattribute__"=some (some (.builtin "BaseException.__getattribute__"))) (hk:W.findIn K (.ref C) "__getattr__"=some none) (hb:W.mroIn K C (.type "BaseException")=some true)
  (hf:W.findObj K C none "__class__"=some (.bind (.builtin "getset_descriptor.__get__") (.builtin "object.__class__"))) (hm:W.mroIn K C (.type "object")=some true)
  (k:Q (some (.ref C)) { s with toks:=s.toks+1 }):wpAny (model prog w) A (getAttr? (.ref x) "__class__") Q E s:=by
 obtain⟨hh,g,d,t,os⟩:=s;have L0:=I.type (M:=model prog w);have L1:=dJ (M:=model prog w) X hga;have Lk:=dJ (M:=model prog w) X hk;have Lb:=W.looks_mroIn (M:=model prog w) X hb;have Lf:=W.looks_find (M:=model prog w) X I hf;have bnd:=(eI.ga).bind (.ref x);unfold getAttr? getAttrBy? getAttrBy;refine ak (wpAny_mkText (ak (wpAny_attempt (cQ (ak (L0.at (ak (L1.at ?_))))))));unfold getAttrByItsOwn hookBefore;rw[ae (show onTheHeap (.ref C)=true from rfl)];refine ak (Lk.at ?_);refine ak (wpAny_attempt (cQ ?_));show wpAny _ _ (boundAndCalled _ _ _) _ _ _;unfold boundAndCalled;rw[bnd];refine ak (aV ?_);refine fx (codeAny_call_builtin eI.ga.plain PySem.F.entry_bexc_ga ?_);have hkk:builtinKind "BaseException.__getattribute__"=some .slot:=by decide +kernel
 have hsplit:splitId "BaseException.__getattribute__"=some ("BaseException","__getattribute__"):=by decide +kernel
 have haa:=PySem.F.args_bexc_ga (.ref x) (.str "__class__" t);simp only[checkBuiltinCall,hkk,hsplit];have LI:W.Looks (model prog w) hh (isInstance (.ref x) (.type "BaseException")) true:=L0.andThen Lb;refine ak (LI.at ?_);rw[af (by decide)];refine wpAny_of_eq (a:=()) haa ?_;unfold Builtin.«object.__getattribute__»;refine ak (wpAny_of_eq (a:=(.ref x,[.str "__class__" t])) rfl ?_);refine ak (aV (ak (L0.at (ak (Lf.at ?_)))));refine ak (cQ (fx ?_));refine W.class_get (s:=⟨hh,g,d,t+1,os⟩) (ox:=o) (od:=none) X I hm ?_;exact aV (W.handed_on rfl (aV k))
structure BX (K:Fg)(C:Addr):Prop where
 hg:W.findIn K (.ref C) "__getattribute__"=some (some (.builtin "BaseException.__getattribute__"))
 hk:W.findIn K (.ref C) "__getattr__"=some none
 hb:W.mroIn K C (.type "BaseException")=some true
 hd:W.hasDictIn K C=true
 ha:W.findIn K (.ref C) "__class__"=some (some (.builtin "object.__class__"))
 hn:W.specialIn K (.builtin "object.__class__") "__get__"=some (some (.builtin "getset_descriptor.__get__"))
 htk:W.takesIn K (.builtin "object.__class__")=some true
 hm:W.mroIn K C (.type "object")=some true
abbrev Qp (a:Addr)(cls:Value):Heap->Prop:=λh=>∃o vs,h.get? a=some o/\o.cls=cls/\o.dict=none/\o.data=.fields vs
theorem BX.lk {K:Fg}{C:Addr}(F:BX K C):∃c d cd sl,K.lookup C=some ⟨c,d,.cls cd,sl⟩:=by
 obtain⟨cd,hc,_⟩:=eQ F.hd;unfold W.clsIn at hc;split at hc
 ·rename_i c' d' cd' sl' ho;exact⟨c',d',cd',sl',ho⟩
 ·cases hc
theorem Ft {K:Fg}{x C:Addr}(F:BX K C):W.KitX K (.ref x) (.ref C) (Qp x (.ref C)) where
 ty:=λ_ _ _ ⟨_,_,e,hc,_⟩=>by rw[<- hc];exact(W.Looks.ld e).andThen .now
 it:=λ_ _ X _=>by obtain⟨c,d,cd,sl,ho⟩:=F.lk;intro A Q E s k q;unfold isType loadHead;exact ak (wpAny_loadPart (k _ _ (X _ _ ho)) (aV q))
 ne:=λh tp dd its n sl X htp=>by obtain⟨c,d,cd,sl',ho⟩:=F.lk;refine Bool.eq_false_iff.mpr λq=>?_;obtain rfl:C=tp:=Value.ref.inj (beq_iff_eq.mp q);have z:=(X _ _ ho).symm.trans htp;cases z
 ca:=λ{_ _ _ _ _ s} X ⟨o,vs,e,hc,hdi,hd⟩ k=>by
  have I:W.InstAt s.heap x o C none:=⟨e,hc,by unfold W.notCls;rw[hd],by rw[hdi];exact tT⟩;have hf:W.findObj K C none "__class__"=some (.bind (.builtin "getset_descriptor.__get__") (.builtin "object.__class__")):=by obtain⟨cd,hc',_⟩:=eQ F.hd;unfold W.findObj;rw[hc',Option.bind_some,F.ha,Option.bind_some];simp[F.hn,F.htk]
  exact Cd X I F.hg F.hk F.hb hf F.hm k
def Qx (K:Fg):List V->Hp->VK->Prop:=λxs H Q=>(∃x c t cv b,xs=[x,c]/\Hl c=some cv/\TyOf K H x t/\W.kitOne K t cv=some b/\Q (.bl b) H) \/
 ∃a c C cv b,xs=[.ref a,c]/\Hl c=some cv/\H a=some (uw a (.ref C))/\BX K C/\W.kitOne K (.ref C) cv=some b/\Q (.bl b) H
theorem Eo:CallR X (.builtin "isinstance") (Qx X.K):=by
 intro pins s σ H xs us Q I r h;rcases h with h|⟨a,c,C,cv,b,rfl,hc,ha,F,e,q⟩
 ·exact qM pins s σ H xs us Q I r h
 ·obtain⟨u,w',rfl,r1,r2⟩:=vals2 r;obtain rfl:=xG hc r2;obtain rfl:u=.ref a:=r1;exact bn (Ft F) I.kIn (I.hok a _ ha).1 e (λz=>nomatch z) λtk=>⟨.bl b,H,I.tok tk,rfl,q⟩
end L2
namespace L3
open L2
structure Ie (G:Gx):Prop where
 into:∀(H:Hp) (a C:Addr),H a=some (uw a (.ref C))->G.ob 1 H a (C:Nat)
 get:∀(H:Hp) (a:Addr) (z:Int),G.ob 1 H a z->∃C:Addr,z=(C:Nat)/\H a=some (uw a (.ref C))
def JT (K:Fg)(p c:PV):Prop:=Fz K p c\/∃C cv b,p=.ob 1 ((C:Nat):Int)/\BX K C/\yf c=some cv/\W.kitOne K (.ref C) cv=some b
def iK (K:Fg):PV->PV->Bool
 | .ob _ z,c=>match yf c with
  |some cv=>W.kitOne K (.ref z.toNat) cv == some true
  |none=>false
 |p,c=>jN K p c
theorem iB {K:Fg}{c:PV}{k C:Nat}{cv:Value}{b:Bool}(h2:yf c=some cv)(h:W.kitOne K (.ref C) cv=some b):iK K (.ob k ((C:Nat):Int)) c=b:=by
 show(match yf c with|some cv=>W.kitOne K (.ref ((C:Nat):Int).toNat) cv == some true|none=>false)=b
 rw[h2];show(W.kitOne K (.ref ((C:Nat):Int).toNat) cv == some true)=b;rw[cS,h];cases b<;>rfl
theorem De {K:Fg}{p c:PV}{t:Value}(h1:tyP p=some t):iK K p c=jN K p c:=by cases p<;>first|rfl|cases h1
section
variable {X:Cx}{G:Gx}{a c e:Expr}{es:List Expr}{pos p:Pos}{Ca Cc C:En->Prop}{ga gc:En->PV}
theorem lW (hG:Ie G)(hm:X.mg "isinstance"=none)(ha:PE X a (tX X.K G Ca ga))(hc:PE X c (tX X.K G Cc gc))(hg:Gl X "isinstance":=by rfl)(he:starEach [a,c] X.env=(false,eval a X.env)::starEach [c] X.env:=by rfl)(he2:starEach [c] X.env=[(false,eval c X.env)]:=by rfl)
  (hpl:(backTo pos (starEach [c] X.env)).any (·.1)=false:=by rfl) :
  PE X (.Call (.Name "isinstance" p) [a,c] [] pos) (Ed X.K G (λZ=>Ca Z/\Cc Z/\JT X.K (ga Z) (gc Z)) λZ=>iK X.K (ga Z) (gc Z)=true):=
 mY (pe_callB Eo hg hm oO (pa_cons ha (pa_cons hc pa_nil he2) he) (by decide) (by decide) he hpl) λB σ H Z O Q R cc q=>⟨B,Z,O,R,cc.1,λv H1 s1 a1=>⟨B,Z,O,R.grow s1,cc.2.1,λu H2 s2 a2=>by
  rcases cc.2.2 with⟨t,cv,b,h1,h2,h3⟩|⟨C,cv,b,h1,F,h2,h3⟩
  ·refine .inl ⟨v,u,t,cv,b,rfl,At.cls a2 h2,TyOf.up (iz.trans s2) (a1.ty h1),h3,q _ H2 (s1.trans s2) ?_⟩;show V.bl b=V.bl (decide (iK X.K (ga Z) (gc Z)=true));rw[De h1,kJ h1 h2 h3,b8]
  ·have a1':=At.mono (jn s2) _ _ a1;rw[h1]at a1';obtain⟨ad,rfl,ob⟩:=a1';obtain⟨C',ez,hx⟩:=hG.get _ _ _ ob;obtain rfl:C=C':=Int.ofNat.inj ez;refine .inr ⟨ad,u,C,cv,b,rfl,At.cls a2 h2,iz _ _ hx,F,h3,q _ H2 (s1.trans s2) ?_⟩;show V.bl b=V.bl (decide (iK X.K (ga Z) (gc Z)=true));rw[h1,iB h2 h3,b8]⟩⟩
end
section
variable {X:Cx}{G:Gx}{Er:ER}{e:Expr}{es:List Expr}{C:En->Prop}{gs:En->List PV}{pre:List PV->Prop}{F:List PV->Rs}{f x n y:Str}{Cc:Addr}{i j k l:Nat}{ps:List Str}{px py pn hp p1 p2 pos p cpos:Pos}
abbrev Ku (N:Nat)(j:Nat)(C:Addr):En:=(List.replicate N Sl.un).set j (.fr (.ob 1 ((C:Nat):Int)))
theorem Em {B:Bs}{σ:L2.St}{H H':Hp}{Z:En}{O:Addr->Bool}{a:Addr}{N:Nat}(hG:Ie G){K:Fg}(R:Rep K G B σ H Z O)(s:Same H H')(ha:H' a=none):Rep K G B ((List.replicate N none).set j (some (.ref a))) (upd H' a (uw a (.ref Cc))) (Ku N j Cc) O:=by
 have R1:=(R.grow s).grow (same_new ha (uw a (.ref Cc)));have oa:O a=false:=by
  cases z:O a with
  |false=>rfl
  |true=>exact absurd ha ((R.grow s).dom a z)
 have un:∀(m:Nat) (q:Sl),(List.replicate N Sl.un)[m]?=some q->q=.un:=λm q e=>by
  rw[bf]at e;split at e
  ·cases e;rfl
  ·cases e
 refine⟨R1.same,R1.cd,R1.hid,R1.dom,R1.vis,λm q e=>?_,λm q e=>?_,λm m' q q' b e=>?_,by simp,λm xs ys e=>?_,(λm q e=>by
  rcases gA e with⟨_,e,_⟩|⟨_,e⟩
  ·cases e
  ·cases un m _ e),(λm q e=>by
  rcases gA e with⟨_,e,_⟩|⟨_,e⟩
  ·cases e
  ·cases un m _ e),λm m' q q' b e=>by
  rcases gA e with⟨_,e,_⟩|⟨_,e⟩
  ·cases e
  ·cases un m _ e⟩
 ·rcases gA e with⟨rfl,e,l⟩|⟨_,e⟩
  ·cases e;rw[bA]at l;refine⟨.ref a,mW (by rw[bA];exact l),a,rfl,hG.into _ _ _ ?_⟩;rw[lB oa];exact upd_same
  ·cases un m _ e
 ·rcases gA e with⟨_,e,_⟩|⟨_,e⟩
  ·cases e
  ·cases un m _ e
 ·rcases gA e with⟨_,e,_⟩|⟨_,e⟩
  ·cases e
  ·cases un m _ e
 ·rcases gA e with⟨_,e,_⟩|⟨_,e⟩
  ·cases e
  ·cases un m _ e
theorem Ik (hG:Ie G)(o:NP X.prog X.w X.K X.mg X.base l f ps (Nv X.K G pre F))(hr:Room k X.A)(hc:X.calm=true)(hst:X.stack=X.env::X.outer)(hfr:X.env.frame=some X.env.locals)(hex:X.ex=[])(hg:Gl X x)(hm:X.mg x=some (.ref Cc))(hN:X.N.Nodup)(hi:X.N[i]?=some n)(hj:X.N[j]?=some y)(hln:X.env.scope.names.lookup n=some .local)(hly:X.env.scope.names.lookup y=some .local)
  (hkn:X.env.kindOf n=some .local) (hny:y≠n) (hij:i≠j) (ha:∀(pn:List (Addr×Obj)) (E':Value->Shared->Prop),PA { X with pn:=pn,xe:=E' } (e::es) (yU X.K G C gs)) (hlk:l<=k:=by decide) (hgf:Gl X f:=by rfl) (hdf:(f == ("__debug__":Str))=false:=by decide)
  (he:starEach (e::es) X.env=(false,eval e X.env)::starEach es X.env:=by rfl) (hpl:(backTo cpos (starEach es X.env)).any (·.1)=false:=by rfl)
  (hs:swapsWith (.Call (.Name f p) (e::es) [] cpos) none p1.line X.env=pure false:=by rfl) (hs2:swapsWith (.Name n pn) (some (.Name y py)) p2.line X.env=pure false:=by rfl) (hdx:(x == ("__debug__":Str))=false:=by decide) (hdn:(n == ("__debug__":Str))=false:=by decide) (hdc:(n == ("__classdict__":Str))=false:=by decide) :
  PS X (.Try [.Expr (.Call (.Name f p) (e::es) [] cpos) p1] [.ExceptHandler (some (.Name x px)) (some n) [.Assign [.Name y py] (.Name n pn) p2] hp] [] [] pos)
   (ts X.K G Er λP Z=>C Z/\pre (gs Z)/\(∀p,F (gs Z)=.val p->P.nx Z)/\∀c,F (gs Z)=.err c->W.exmOne X.K (.ref c) (.ref Cc)=some true/\P.nx (Ku X.N.length j c)):=
 toS (M7 (te:=λEc=>tCall (Nv X.K G pre F) [] Ec (yU X.K G C gs)) hc hst hfr hex hg hm hN hi hj hln hly hkn hny hij (λpn E' Ec hx=>wR (X:={ X with pn:=pn,xe:=E' }) o hx hr (ha pn E') hlk hgf hdf he hpl) hs hs2 hdx hdn hdc) λB σ H Z O P D R c w=>⟨B,Z,O,R,c.1,λvs H1 s1 a1=>by
  dsimp only;rw[aZ];refine⟨gs Z,O,(R.grow s1).dom,a1,c.2.1,λp hp v H2 s2 _=>w.nx σ H2 Z ⟨O,(R.grow s1).grow s2⟩ (c.2.2.1 p hp),λc' hc' H2 s2=>⟨(c.2.2.2 c' hc').1,λa ha=>w.nx _ _ _ ⟨O,Em hG R (s1.trans s2) ha⟩ (c.2.2.2 c' hc').2⟩⟩⟩
end
mutual
def dat:PV->PyData
 | .int n=>.int n
 | .bl b=>.bool b
 | .non=>.none
 | .str s=>.str s
 | .ints ns=>.list (ns.map PyData.int)
 | .lst xs=>.list (qW xs)
 | .tup xs=>.tuple (qW xs)
 |_=>.none
def qW:List PV->List PyData
 |[]=>[]
 |p::ps=>dat p::qW ps
end
mutual
def z8:PV->Prop
 | .int _=>True
 | .bl _=>True
 | .non=>True
 | .str _=>True
 | .ints _=>True
 | .lst xs=>tQ xs
 | .tup xs=>tQ xs
 |_=>False
def tQ:List PV->Prop
 |[]=>True
 |p::ps=>z8 p/\tQ ps
end
section
variable {X:Cx}{pins:List (Addr×Obj)}{σ:L2.St}{H:Hp}{s:Shared}{G:Gx}
mutual
theorem tZ (I:Inv X pins σ H s):∀(p:PV) (v:V) (u:Value),At X.K G H p v->z8 p->RelV v u->∃as,Reads s.heap u (dat p) as
 | .int n,v,u,h,_,r=>by subst h;obtain⟨t,rfl⟩:=r;exact⟨_,.int n t⟩
 | .bl b,v,u,h,_,r=>by subst h;obtain rfl:u=.bool b:=r;exact⟨_,.bool b⟩
 | .non,v,u,h,_,r=>by subst h;obtain rfl:u=.none:=r;exact⟨_,.none⟩
 | .str x,v,u,h,_,r=>by subst h;obtain⟨t,rfl⟩:=r;exact⟨_,.str x t⟩
 | .ints ns,v,u,h,_,r=>by obtain⟨a,rfl,hr⟩:=h;obtain rfl:u=.ref a:=r;obtain⟨_,its,n,rv,_,e⟩:=Inv.ul I hr;exact⟨_,reads_newData ⟨_,e,rfl,_,rfl⟩ (W.ke_carried (lq rv))⟩
 | .lst xs,v,u,h,d,r=>by obtain⟨a,vs,rfl,hr,al⟩:=h;obtain rfl:u=.ref a:=r;obtain⟨_,its,n,rv,_,e⟩:=Inv.ul I hr;obtain⟨as,q⟩:=nU I xs vs its al d rv;exact⟨_,.list e rfl rfl q⟩
 | .tup xs,v,u,h,d,r=>by obtain⟨a,vs,rfl,hr,al⟩:=h;obtain rfl:u=.ref a:=r;obtain⟨_,its,rv,⟨o,ho,hc,m,hd⟩⟩:=I.hok a _ hr;obtain⟨as,q⟩:=nU I xs vs its al d rv;exact⟨_,.tuple ho hc hd q⟩
 | .scr _,_,_,_,d,_=>d.elim
 | .ob _ _,_,_,_,d,_=>d.elim
 | .ty _,_,_,_,d,_=>d.elim
 | .cls _,_,_,_,d,_=>d.elim
theorem nU (I:Inv X pins σ H s):∀(ps:List PV) (vs:List V) (us:Lv),jy X.K G H ps vs->tQ ps->Vals vs us->∃as,ReadsAll s.heap us (qW ps) as
 |[],vs,us,h,_,r=>by subst h;cases r;exact⟨_,.nil⟩
 |p::ps,vs,us,h,d,r=>by
  obtain⟨v,t,rfl,h1,h2⟩:=h;cases r with
  |cons r1 r2=>obtain⟨as,q⟩:=tZ I p v _ h1 d.1 r1;obtain⟨bs,q2⟩:=nU I ps t _ h2 d.2 r2;exact⟨_,.cons q q2⟩
end
end
structure Fw (p q:PV):Prop where
 a:z8 p
 b:z8 q
 sa:SeqAt.shaped (dat p)=true
 sb:SeqAt.shaped (dat q)=true
 mix:SeqAt.noMix (dat p) (dat q)=true
def Mq (p q:PV):Prop:=PySem.Spec.same (dat p) (dat q)=true
instance (p q:PV):Decidable (Mq p q):=inferInstanceAs (Decidable (_=true))
section
variable {X:Cx}{G:Gx}{Er:ER}{a b:Expr}{pos:Pos}{Ca Cb:En->Prop}{ga gb:En->PV}
def QR (K:Fg)(G:Gx)(f:PV->PV->Bool):R2:=λx y H Q=>∃p q,At K G H p x/\At K G H q y/\Fw p q/\Q (.bl (f p q)) H
theorem Lg (hu:X.A.units+64<cLine):OpR X (compareOp .Eq) (QR X.K G λp q=>decide (Mq p q)):=by
 intro pins s σ H x y v u Q I rx ry h;obtain⟨p,q,ap,aq,d,k⟩:=h;obtain⟨as,r1⟩:=tZ I p x v ap d.a rx;obtain⟨bs,r2⟩:=tZ I q y u aq d.b ry;refine eq_dataH_same r1 r2 d.sa d.sb hu d.mix ⟨.bl _,H,I,rfl,?_⟩;have e:decide (Mq p q)=PySem.Spec.same (dat p) (dat q):=by unfold Mq;exact b8
 rw[<- e];exact k
theorem NK (R:Rep X.K G B σ H Z O)(ca:Ca Z)(cb:Cb Z)(q:∀v u H1 H2,Same H H1->Same H1 H2->At X.K G H2 (ga Z) v->At X.K G H2 (gb Z) u->r v u H2 Q) :
  tOp r (BW X.K G Ca ga) (BW X.K G Cb gb) σ H Q:=
 ⟨B,Z,O,R,ca,λv H1 s1 a1=>⟨B,Z,O,R.grow s1,cb,λu H2 s2 a2=>q v u H1 H2 s1 s2 (At.mono s2 _ _ a1) a2⟩⟩
theorem La (hu:X.A.units+64<cLine)(ha:PE X a (BW X.K G Ca ga))(hb:PE X b (BW X.K G Cb gb)):PE X (.Compare a [.Eq] [b] pos) (Ed X.K G (λZ=>Ca Z/\Cb Z/\Fw (ga Z) (gb Z)) λZ=>Mq (ga Z) (gb Z)):=
 mY (pe_cmpR (Lg (G:=G) hu) ha hb (nomark _)) λ_ _ _ _ _ _ R c q=>NK R c.1 c.2.1 λv u _ H2 s1 s2 a1 a2=>⟨_,_,a1,a2,c.2.2,q _ H2 (s1.trans s2) rfl⟩
end
def tR (K:Fg)(G:Gx)(C:En->Prop)(F:En->Rs)(E:XK):TE:=λσ H Q=>∃B Z O,Rep K G B σ H Z O/\C Z/\(∀p,F Z=.val p->∀v H',Same H H' -> At K G (mn H' O) p v->Q v H')/\∀c,F Z=.err c->∀H',Same H H' -> E (.ref c) none H'
abbrev PR (X:Cx)(G:Gx)(e:Expr)(C:En->Prop)(F:En->Rs):Prop:=∀E,Passes (xx X.prog X.w) X E->PE X e (tR X.K G C F E)
section
variable {X:Cx}{G:Gx}{Er:ER}{E:XK}{e:Expr}{es:List Expr}{pos p pos':Pos}{i j k l:Nat}{x y n:Str}{ps:List Str}{pre:List PV->Prop}{C:En->Prop}{gs:En->List PV}{g:En->PV}{F:List PV->Rs}{FE:En->Rs}{Cc Cl:Addr}{px py pn hp p1 p2:Pos}
theorem O7 (h:PR X G e C FE):PE X e (tX X.K G (λZ=>C Z/\(FE Z).QV) λZ=>(FE Z).get):=
 λpins s σ H Q I ⟨B,Z,O,R,c,q⟩=>h E0 LR pins s σ H Q I ⟨B,Z,O,R,c.1,λp hp v H' s a=>q v H' s (by dsimp only;rw[hp];exact a),λcc hcc=>by
  have z:=c.2;rw[hcc]at z;exact z.elim⟩
structure QZ (K:Fg)(G:Gx):Prop where
 sz:∀(H:Hp) (a:Addr) (z:Int),G.ob 0 H a z->∃C dx fs,H a=some (.ins C dx fs)/\Cls K C/\NoAttr K C "size"/\fs.lookup ("size":Str)=some (.int z)
def Q4:PV->Int
 | .ob _ z=>z
 |_=>0
theorem Gq (hK:QZ X.K G)(he:PE X e (tX X.K G C g))(hb:attributeBase e "size" X.env (eval e X.env)=eval e X.env:=by rfl):PE X (.Attribute e "size" pos) (jj X.K G (λZ=>C Z/\g Z=.ob 0 (Q4 (g Z))) λZ=>Q4 (g Z)):=
 mY (pe_fld he hb) λB σ H Z O Q R c q=>⟨B,Z,O,R,c.1,λv H1 s1 a1=>by
  rw[c.2]at a1;obtain⟨a,rfl,ob⟩:=a1;obtain⟨Ck,dx,fs,e1,e2,e3,e4⟩:=hK.sz _ _ _ ob;exact⟨a,Ck,dx,fs,_,rfl,iz _ _ e1,e2,e3,e4,q _ H1 s1 rfl⟩⟩
end
end L3
namespace L2
def NQ (KA:Hp->Addr->Int->Prop)(a:Addr)(z:Int)(n:Nat)(pre:Int->List Int->Prop)(F:Int->List Int->Int ⊕ Addr):Sp:=λvs H Q E=>∃ns:List Int,ns.length=n/\vs=.ref a::ns.map V.int/\KA H a z/\pre z ns/\(∀c,F z ns=.inl c->∀H',Same H H' -> Q (.int c) H')/\∀e,F z ns=.inr e->∀H',Same H H' -> E (.ref e) none H'
structure Q5 (P:Program)(w:World)(K:Fg)(mg:Mg)(base:Heap)(k:Nat)(KA:Hp->Addr->Int->Prop)(m:Str)(n:Nat)(pre:Int->List Int->Prop)(F:Int->List Int->Int ⊕ Addr):Prop where
 ex:∀H a z,KA H a z->∃C dx fs ps,H a=some (.ins C dx fs)/\fs.lookup m=none/\Ra P w K mg base (xx P w) k C m ps (NQ KA a z n pre F)
end L2
namespace L3
open L2
def vL:Int ⊕ Addr->Rs
 | .inl c=>.val (.int c)
 | .inr e=>.err e
section
variable {X:Cx}{G:Gx}{a b c e:Expr}{es:List Expr}{pos p px apos:Pos}{C Ca Cb Cc:En->Prop}{ga gc:En->PV}{gs:En->List PV}{i j k n:Nat}{x m:Str}
theorem z6 {KA:Hp->Addr->Int->Prop}{preK:Int->List Int->Prop}{F:Int->List Int->Int ⊕ Addr}{pl:Sem Bool}(i:Nat)(M:Q5 X.prog X.w X.K X.mg X.base j KA m n preK F)(hr:Room k X.A)(ha:PA X (e::es) (yU X.K G C gs))(hn:∀Z,(gs Z).length=n:=by intro _;rfl)(hG:∀H a z,G.ob 0 H a z->KA H a z:=by first|exact λ_ _ _ h=>h.2|exact λ_ _ _ h=>h.elim (λz=>z.2) λz=>absurd z.1 (by decide))(hGm:∀{H H':Hp} {a:Addr} {z:Int},KA H a z->Same H H' -> KA H' a z:=by first|exact λh s=>Q9.same h s|exact λh s=>h.same s)(hj:j<=k:=by decide)
  (hN:X.N[i]?=some x:=by rfl) (hv:Vis X.env.scope x:=by walk_at "v") (hd:(x == ("__debug__":Str))=false:=by decide) (hcd:(x == ("__classdict__":Str))=false:=by decide)
  (hst:starEach (e::es) X.env=(false,eval e X.env)::starEach es X.env:=by rfl) (hpl:(backTo pos (starEach es X.env)).any (·.1)=false:=by rfl)
  (ht:eval (.Call (.Attribute (.Name x px) m apos) (e::es) [] pos) X.env=(do
   let ov <- eval (.Name x px) X.env
   standAt apos.atName
   let (f,first) <- holding [ov] (getMethod ov m pl)
   callWith pos f first (backTo pos (starEach (e::es) X.env)) (backToKw pos (keywordEach [] X.env))):=by rfl) :
  PR X G (.Call (.Attribute (.Name x px) m apos) (e::es) [] pos) (λZ=>Qi Z i/\C Z/\wB (gs Z)/\preK (zy Z i) (lE (gs Z))) λZ=>vL (F (zy Z i) (lE (gs Z))):=by
 intro E hx pins s σ H Q I h;obtain⟨B,Z,O,R,⟨c0,c1,c2,c3⟩,q,qe⟩:=h;obtain⟨v,e1,a,rfl,ka⟩:=R.fr i _ c0;have ka1:KA H a (zy Z i):=hGm (hG _ _ _ ka) iz;obtain⟨Cl,dx,fs,ps,f1,f2,M'⟩:=M.ex H a _ ka1;obtain⟨f,fd,FF,bb,mm,cc⟩:=M'.ex;refine pe_meth (pe_var hN hv hd hcd) cc mm (FF.mono hj) hr bb .nil hx ha hst hpl ht pins s σ H Q I ⟨_,e1,a,dx,fs,rfl,f1,f2,B,Z,O,R,c1,λvs H1 s1 a1=>?_⟩;have ev:=a1.ints c2;have el:(lE (gs Z)).length=n:=by rw[<- hn Z,a1.length,ev,aa]
 exact⟨lE (gs Z),el,by rw[aZ,ev],hGm ka1 s1,c3,λc hc H' s'=>q (.int c) (by dsimp only;rw[hc];rfl) _ H' (s1.trans s') rfl,λer her H' s'=>qe er (by dsimp only;rw[her];rfl) H' (s1.trans s')⟩
end
section
variable {X:Cx}{G:Gx}{a b c e:Expr}{p pos:Pos}{C Ca Cb Cc:En->Prop}{ga gb g:En->PV}{gl:En->List Int}
theorem O1 [∀Z,Decidable (pt Z)](hc:PT X c (uv X.K G Cc pt))(ha:PE X a (tX X.K G Ca ga))(hb:PE X b (tX X.K G Cb gb)):PE X (.IfExp c a b pos) (tX X.K G (λZ=>Cc Z/\(pt Z->Ca Z)/\(¬pt Z->Cb Z)) λZ=>if pt Z then ga Z else gb Z):=
 mY (pe_ifExp hc ha hb) λB σ H Z O Q R c q=>⟨B,Z,O,R,c.1,λH1 s1=>by
  by_cases d:pt Z
  ·rw[aM d];refine iteT ⟨B,Z,O,R.grow s1,c.2.1 d,λv H2 s2 a2=>q v H2 (s1.trans s2) ?_⟩;rw[ae d];exact a2
  ·rw[aH d];refine iteF ⟨B,Z,O,R.grow s1,c.2.2 d,λv H2 s2 a2=>q v H2 (s1.trans s2) ?_⟩;rw[af d];exact a2⟩
end
section
variable {X:Cx}{G:Gx}{Er:ER}{f:FS}{a b c e:Expr}{pos p:Pos}{C Ca Cb Cc Cs:En->Prop}{ga gb gs:En->Str}{gi gj gk:En->Int}{g:En->PV}{i k:Nat}{x:Str}
def NZ:PV->PV
 | .tup [a,_]=>a
 |_=>.non
def O5:PV->PV
 | .tup [_,b]=>b
 |_=>.non
def KN (q:PV):Prop:=q=.tup [NZ q,O5 q]
theorem Dq {k j:Nat}{x y:Str}{l:Expr}{body:List Stmt}{g:En->List PV}{px py tp:Pos}{kk:Nat}(hp:PassesOwn (model X.prog X.w) X.A X.env X.xe)(hc:X.calm=true)(hl:PE X l (tX X.K G C λZ=>.lst (g Z)))
  (hgt:PG X (.Tuple [.Name x px,.Name y py] kk tp) (gTup X.K 2 (gCons (gName k) (gCons (gName j) gNil)))) (hb:PSs X body (ts X.K G Er f)) (hfs:∀x,foldedSetIterable l X.env x=pure x:=by intro _;rfl) :
  PS X (.For (.Tuple [.Name x px,.Name y py] kk tp) l body [] pos) (ts X.K G Er λP Z=>(C Z/\∀q∈g Z,KN q)/\∃W:Nat->En->Prop,W 0 Z /\
   (∀i n Z',(g Z)[i]?=some n->W i Z' -> f (P.lp (W (i+1))) ((Z'.set k (.fr (NZ n))).set j (.fr (O5 n))))/\∀Z',W (g Z).length Z' -> P.nx Z'):=
 toS (ps_for hp hc (pi_list hl) hgt hb hfs) λB σ H Z O P D R c w=>by
  obtain⟨⟨c1,c2⟩,W,w0,st,nd⟩:=c;refine⟨B,Z,O,R,c1,λv H1 s1 a1=>?_⟩;obtain⟨a,vs,e,hq,hal⟩:=a1;have R1:=R.grow s1;have w1:=nM R1 w;have el:=hal.length;refine⟨a,e,⟨_,.inl (gY iz hq)⟩,for_list (xs:=vs) (λi σ H=>∃Z',qg X.K G (B.at H1 O) σ H Z'/\W i Z') ⟨Z,⟨O,R1.rebase⟩,w0⟩ ?_ ?_ ?_⟩
  ·rintro i σ H _ ⟨Z',⟨O',R'⟩,_⟩;exact .inl (gY ((Rep.pX B H1 O).trans R'.same) hq)
  ·rintro i y σ H hy ⟨Z',⟨O',R'⟩,hw⟩;obtain⟨n,en,an⟩:=hal.get hy;have ip:=c2 n (bK en);have an2:=At.mono (R1.seen R') _ _ an;rw[ip]at an2;obtain⟨T,us,rfl,hT,al⟩:=an2;obtain⟨v1,r1,rfl,x1,v2,r2,rfl,x2,rfl⟩:=al;refine⟨T,_,rfl,SqT.of (iz _ _ hT),rfl,_,_,rfl,_,_,rfl,rfl,?_⟩;exact⟨_,_,_,⟨O',(R'.set x1).set x2⟩,st i n Z' en hw,⟨λσ' H' Z' R' h=>⟨Z',R',h⟩,w1.rt,w1.rl,w1.rn,w1.nx,λσ' H' Z' R' h=>⟨Z',R',h⟩,w1.er⟩⟩
  ·rintro σ H ⟨Z',R',hw⟩;rw[<- el]at hw;exact w1.nx σ H Z' R' (nd Z' hw)
end
def Rk (q:PV):Prop:=∃g o,q=.tup [.ints g,.int o]
theorem Ez (p:PV):Mq p p:=PySem.Spec.same_self _
section
variable {X:Cx}{G:Gx}{Er:ER}{a b c e:Expr}{pos p:Pos}{C Ca:En->Prop}{gl:En->List Int}{g:En->PV}{gp:En->List PV}{i:Nat}{x:Str}{px pa pc:Pos}
def QS (Z:En)(i:Nat):Prop:=Z[i]?=some (.ow (.lst (Dj (pJ Z i))))
theorem rY (i:Nat)(he:PE X e (tX X.K G C g))(hN:X.N[i]?=some x:=by rfl)(hv:Vis X.env.scope x:=by walk_at "v")
  (hd:(x == ("__debug__":Str))=false:=by decide) (hcd:(x == ("__classdict__":Str))=false:=by decide)
  (hbase:attributeBase (.Name x px) "append" X.env (eval (.Name x px) X.env)=eval (.Name x px) X.env:=by rfl)
  (hfew:((backTo pc (starEach (e::[]) X.env)).all (λx=>!x.1) && (backToKw pc (keywordEach [] X.env)).all (λx=>x.1.isSome)
   && decide ((e::[]).length+([]:List Keyword).length+(if ([]:List Keyword).isEmpty then 0 else 1)<30))=true:=by rfl)
  (hline:(pa.endLine == pc.line)=true:=by rfl) (hs:starEach (e::[]) X.env=(false,eval e X.env)::starEach [] X.env:=by rfl) (hplain:(backTo pc (starEach [] X.env)).any (·.1)=false:=by rfl)
  (hsw:swapsWith (.Call (.Attribute (.Name x px) "append" pa) [e] [] pc) none pos.line X.env=pure false:=by rfl) :
  PS X (.Expr (.Call (.Attribute (.Name x px) "append" pa) [e] [] pc) pos) (ts X.K G Er λP Z=>QS Z i/\C Z/\(Dj (pJ Z i)).length<sizeLine/\P.nx (Z.set i (.ow (.lst (Dj (pJ Z i)++[g Z]))))):=
 toS (ps_expr (pe_bm df ei eu mt_append (pe_var hN hv hd hcd) (pa_cons he pa_nil hs) hbase hfew hline hs hplain) hsw) λB σ H Z O P D R c w=>by obtain⟨c0,c1,c2,c3⟩:=c;obtain⟨a,vs,e1,e2,e3,e4,e5⟩:=R.ow i _ c0;have el:=e5.length;refine⟨_,e1,.inl ⟨rfl,_,SqL.of e4⟩,B,Z,O,R,c1,λv H1 s1 a1=>?_⟩;refine⟨a,_,_,rfl,rfl,s1 _ _ e4,by rw[<- el];exact c2,w.nx σ _ _ ⟨O,(R.grow s1).change c0 e1 (p':=.lst (Dj (pJ Z i)++[g Z])) ?_⟩ c3⟩;exact jy.snoc (jy.mono (jn s1) _ _ e5) a1
end
def DG (C:Addr):Sp:=λvs H Q _=>∃(x dx:Addr) (p:Int),vs=[.ref x,.int p]/\FM.iG p/\H x=some (.ins C dx [])/\Q .non (upd H x (.ins C dx [("size",.int p)]))
def KR (cR:Addr)(H:Hp)(a:Addr)(z:Int):Prop:=0<z/\∃dx fs,H a=some (.ins cR dx fs)/\fs.lookup ("size":Str)=some (.int z)/\∀m∈rO,fs.lookup m=none
theorem KR.same (k:KR cR H a z)(s:Same H H'):KR cR H' a z:=by obtain⟨e0,dx,fs,e,r⟩:=k;exact⟨e0,dx,fs,s _ _ e,r⟩
section
variable {X:Cx}{G:Gx}{pos p:Pos}{j k:Nat}{x y:Str}{C:Addr}{e:Expr}{Ca:En->Prop}{ga:En->Int}
theorem Qj (o:Qv X.prog X.w X.K X.mg X.base CX0 j x C ["self",y] (DG C))(hr:Room k X.A)(hG:∀(H:Hp) (a dx:Addr) (p:Int),FM.iG p->H a=some (.ins C dx [("size",.int p)])->G.ob 0 H a p)(ha:PE X e (jj X.K G Ca ga))(hj:j+1<=k:=by decide)(hg:Gl X x:=by rfl)(hdb:(x == ("__debug__":Str))=false:=by decide)
  (he:starEach [e] X.env=[(false,eval e X.env)]:=by rfl) (hpl:(backTo pos (starEach [] X.env)).any (·.1)=false:=by rfl):PE X (.Call (.Name x p) [e] [] pos) (tX X.K G (λZ=>Ca Z/\FM.iG (ga Z)) λZ=>.ob 0 (ga Z)):=
 mY (Fv o hr pass0 (pa_cons ha pa_nil he) hj hg hdb he hpl) λB σ H Z O Q R c q=>⟨B,Z,O,R,c.1,λv H1 s1 a1=>λy dx hy hd hne=>by
  subst a1;refine⟨y,dx,ga Z,rfl,c.2,upd_same,rfl,q (.ref y) _ (s1.trans (HY hy hd)) ⟨y,rfl,hG _ _ dx _ c.2 ?_⟩⟩;rw[Jt (R.grow s1).dom hy];exact upd_same⟩
end
def Rp (cW cR:Addr)(H:Hp)(a:Addr)(z:Int):Prop:=KW cW H a z\/KR cR H a z
end L3
namespace L2
theorem vH {α β:Type}{f:α->β}{l m:List β}(h:l.Perm m):∀{L:List α},L.map f=m->∃L':List α,L'.Perm L/\L'.map f=l:=by
 induction h with
 |nil=>intro L e;have:L=[]:=List.map_eq_nil_iff.mp e;subst this;exact⟨[],.nil,rfl⟩
 |cons x _ ih=>intro L e;obtain⟨a,r,rfl,rfl,e2⟩:=dM.mp e;obtain⟨L',p,q⟩:=ih e2;exact⟨a::L',.cons a p,by rw[aA,q]⟩
 |swap x y l=>intro L e;obtain⟨a,r1,rfl,rfl,e2⟩:=dM.mp e;obtain⟨b,r,rfl,rfl,rfl⟩:=dM.mp e2;exact⟨b::a::r,.swap a b r,rfl⟩
 |trans _ _ ih1 ih2=>intro L e;obtain⟨L1,p1,q1⟩:=ih2 e;obtain⟨L2,p2,q2⟩:=ih1 q1;exact⟨L2,p2.trans p1,q2⟩
theorem yr {α:Type}(k:α->Int):∀{a b:List α},a.Perm b->a.Pairwise (λx y=>k x<=k y)->b.Pairwise (λx y=>k x<=k y)->(b.map k).Nodup->a=b
 |[],b,p,_,_,_=>(List.Perm.nil_eq p)
 |x::a,[],p,_,_,_=>absurd p.length_eq (by simp)
 |x::a,y::b,p,sa,sb,nd=>by
  rw[ck]at sa sb;rw[aA,bE]at nd;have e:x=y:=by
   have h1:x∈y::b:=p.mem_iff.mp ag;have h2:y∈x::a:=p.mem_iff.mpr ag;rcases az.mp h1 with h1|h1
   ·exact h1
   rcases az.mp h2 with h2|h2
   ·exact h2.symm
   have k1:=sb.1 x h1;have k2:=sa.1 y h2;have ke:k y=k x:=Int.le_antisymm k1 k2;exact absurd (bW.mpr ⟨x,h1,ke.symm⟩) nd.1
  subst e;rw[yr k (List.Perm.cons_inv p) sa.2 sb.2 nd.2]
section
variable {X:Cx}{pins:List (Addr×Obj)}{σ:St}{H:Hp}{s:Shared}
theorem qL:∀{l m:Lv},TriplesOk l->TriplesOk m->TriplesOk (l++m)
 |[],_,_,h=>h
 | .int _ _ :: .int _ _::_::rest,m,h1,h2=>by exact qL (l:=rest) h1 h2
theorem u5:∀{l:Lv},TriplesOk l->codeAmong pos (l++m)=some cv->codeAmong pos l=some cv\/codeAmong pos m=some cv
 |[],_,h=>.inr h
 | .int line t :: .int col u::c::rest,ht,h=>by
  have h:(if line == pos.line && col == pos.col then some c else codeAmong pos (rest++m))=some cv:=h;show(if line == pos.line && col == pos.col then some c else codeAmong pos rest)=some cv\/_;split at h
  ·rename_i g;rw[ae g];exact .inl h
  ·rename_i g;rw[af g];exact u5 (l:=rest) ht h
theorem Inv.grown {P c':Addr}{t:qY}{oc:Obj}{more:Array Value}{h':Heap}{tk:Nat}(I:Inv X pins σ H s)(e:H P=some (.tbl t))(hx:∀b o,b≠P->s.heap.get? b=some o->h'.get? b=some o)(hge:s.heap.objs.size<=c')
  (hc:h'.get? c'=some oc) (hq:uY oc t.q) (hP:h'.get? P=some (W.tabObj (t.ps++more))) (ht:TriplesOk more.toList) (hm:∀p cv,codeAmong p more.toList=some cv->cv=.ref c') :
  Inv X pins σ (upd (upd H c' (.frz oc (.ext λ_=>True))) P (.tbl (t++more))) { s with heap:=h',toks:=tk }:=by
 have fr:H c'=none:=I.hok.fresh hge;have hcP:c'≠P:=λz=>by rw[z,e]at fr;cases fr
 have old:∀b u,H b=some u->b≠c':=λb u q z=>by rw[z,fr]at q;cases q
 have nP:∀b,H b=none->b≠P:=λb q z=>by rw[z,e]at q;cases q
 refine I.un ⟨λb o q n _ _=>hx b o (nP b n) q,λb o q n _ _=>⟨o.slots,hx b o (nP b n) q⟩,λb o q n _=>?_,λb o q _=>?_,λb xs q=>?_,λb o u q=>?_,λb ps q=>?_⟩ λb u q=>?_
 ·rw[upd_ne (nP b n),upd_ne (aO (ay (ai q) hge))];exact n
 ·by_cases z:b=P
  ·subst z;exact⟨_,hP⟩
  ·exact⟨o,hx b o z q⟩
 ·rw[upd_ne (λz=>by rw[z,e]at q;cases q),upd_ne (old b _ q)];exact q
 ·rw[upd_ne (λz=>by rw[z,e]at q;cases q),upd_ne (old b _ q)];exact q
 ·by_cases z:b=P
  ·subst z;rw[e]at q;cases q;exact⟨more,upd_same⟩
  ·exact⟨#[],by rw[upd_ne z,upd_ne (old b _ q),q];simp⟩
 ·have frz2:∀c o u,H c=some (.frz o u)->(upd (upd H c' (.frz oc (.ext λ_=>True))) P (.tbl (t++more))) c=some (.frz o u):=λc o u q=>by rw[upd_ne (λz=>by rw[z,e]at q;cases q),upd_ne (old c _ q)];exact q
  by_cases z:b=P
  ·subst z;rw[upd_same]at q;cases q;obtain⟨e1,e2,e3⟩:=I.hok b _ e;refine⟨hP,?_,λp cv hcm=>?_⟩
   ·show TriplesOk (t.ps++more).toList;rw[fN];exact qL e2 ht
   ·have hcm:codeAmong p (t.ps++more).toList=some cv:=hcm;rw[fN]at hcm;rcases u5 e2 hcm with hcm|hcm
    ·obtain⟨c,o1,u1,y,q1,q2⟩:=e3 p cv hcm;exact⟨c,o1,u1,y,frz2 c o1 u1 q1,q2⟩
    ·exact⟨c',oc,_,hm p cv hcm,by rw[upd_ne hcP,upd_same],hq⟩
  ·rw[upd_ne z]at q;by_cases y:b=c'
   ·subst y;rw[upd_same]at q;cases q;exact⟨hc,tT,⟨_,hc⟩,λ_ _ h _=>h⟩
   ·rw[upd_ne y]at q;have up:∀c o,H c=some o->c≠P->(upd (upd H c' (.frz oc (.ext λ_=>True))) P (.tbl (t++more))) c=some o:=λc o q n=>by rw[upd_ne n,upd_ne (old c _ q)];exact q
    refine(I.hok b u q).stay (λc v hcb r=>hx c v ?_ r) (λc r=>up c _ r λw=>by rw[w,e]at r;cases r) (λc xs r=>up c _ r λw=>by rw[w,e]at r;cases r) λc o u r=>frz2 c o u r;rcases hcb with rfl|hcb
    ·exact z
    ·exact λw=>by rw[w,e]at hcb;cases hcb
theorem uY.rec {h:Heap}{c:Addr}{oc:Obj}{q:Str}(e:h.get? c=some oc)(k:uY oc q):h.CodeRec (.ref c) q:=let ⟨vs,t,a,b⟩:=k;⟨c,oc,vs,t,rfl,e,a,b⟩
theorem DN (I:Inv X pins σ H s)(hcode:X.env.code=.ref c)(hx:(c,P,q)∈ju X.K)(hq:X.env.qual++"<lambda>"=q)
  (hdef:defaultsOf params X.env=([],[])) (hcl:closureFor scope X.env=pure [])
  (Q:Value->Shared->Prop)
  (h:∀f c' ctv H' s',Inv X pins σ H' s' -> (∀b o,H b=some o->(∀t,o ≠ .tbl t)->H' b=some o)->(∀b t,H b=some (.tbl t)->∃ps,H' b=some (.tbl ⟨t.q,ps⟩))->s'.heap.get? f=some (W.kla_obj "<lambda>" q params body scope [] ((X.mg "__name__").getD .none) c' ctv)->H' f=none ->
   (∃oc u,H' c'=some (.frz oc u)/\uY oc q)->s'.os=s.os->s.heap.objs.size<=f->Q (.ref f) s') :
  wpAny (model X.prog X.w) X.A (eval (.Lambda params body scope posL) X.env) Q E s:=by
 obtain⟨ps0,e0⟩:=I.ok.frf.t _ hx;obtain⟨m1,e1⟩:=I.base.tbls _ _ e0;have e1:H P=some (.tbl ⟨q,ps0++m1⟩):=e1;generalize ps0++m1=ps at e1;obtain⟨hP,ht,hr⟩:=I.hok P _ e1;have C:W.CodeHd s.heap c P:=fK I.kIn (vh hx);have hg:s.heap.Ns mainGlobals X.mg:=I.mod.glob.keeps I.bk;have nob:∀b o,X.base.get? b=some o->b≠P:=λb o e z=>by have:=(I.bs b o e).2;rw[z,e1]at this;cases this
 have hgP:mainGlobals≠P:=by obtain⟨o,es,ep,e,_⟩:=I.mod.glob;exact nob _ _ e
 obtain⟨bm,ob,b1,b2,b3,b4,b5,b6⟩:=I.mod.bm;have hbG:bm≠mainGlobals:=λz=>by obtain⟨o,es,ep,e,hd,_⟩:=I.mod.glob;rw[z,e]at b3;cases b3;rw[hd]at b6;cases b6
 have hb:s.heap.BuiltinsAt X.mg P:=⟨bm,ob,b1,b2,hbG,nob _ _ b3,I.bk _ _ b3,b4,b5,b6⟩;refine W.kla_eval hdef ?_;rw[hq];cases hf:codeAmong posL ps.toList with
 |none=>
  refine W.kla_makeFunction (mg:=X.mg) hcl I.ok.glob hg hcode C hP ht hf hgP hb λc' ctv h' tk hx' hge hlt hrec htb=>?_;obtain⟨c2,oc,vs,t,ec,hoc,hd,hv⟩:=hrec;cases ec;have I2:=I.grown (c':=c') (oc:=oc) (more:=#[rawInt posL.line,rawInt posL.col,.ref c']) (h':=h') (tk:=tk) e1 (λb o n e=>hx' b o n e) hge hoc ⟨vs,t,hd,hv⟩ htb trivial (λp cv hc=>by
   have hc:(if (posL.line:Int) == p.line && (posL.col:Int) == p.col then some (Value.ref c') else none)=some cv:=hc;split at hc
   ·exact(aw hc).symm
   ·cases hc)
  have I3:=I2.kept (h':=h'.push (W.kla_obj "<lambda>" q params body scope [] ((X.mg "__name__").getD .none) c' ctv)) (t':=tk) λb u e=>ah _ e;have fr:H c'=none:=I.hok.fresh hge;have old:∀b u,H b=some u->b≠c':=λb u q z=>by rw[z,fr]at q;cases q
  have hcP:c'≠P:=λz=>by rw[z,e1]at fr;cases fr
  refine h h'.objs.size c' ctv _ _ I3 (λb o q n=>?_) (λb t q=>?_) (aP _ rfl) (I2.hok.fresh (aj _)) ⟨oc,_,by rw[upd_ne hcP,upd_same],vs,t,hd,hv⟩ rfl (aG hge (bM (ai hoc)))
  ·rw[upd_ne (λz=>by rw[z,e1]at q;cases q;exact n _ rfl),upd_ne (old b _ q)];exact q
  ·by_cases z:b=P
   ·subst z;rw[e1]at q;cases q;exact⟨_,upd_same⟩
   ·exact⟨t.ps,by rw[upd_ne z,upd_ne (old b _ q),q]⟩
 |some cv=>obtain⟨c',oc,u,rfl,g1,g2⟩:=hr posL cv hf;refine W.kla_makeFunctionHit (mg:=X.mg) hcl I.ok.glob hg hcode C hP ht hf hb λctv h' tk hk hsz=>?_;have I3:=I.kept (h':=h'.push (W.kla_obj "<lambda>" q params body scope [] ((X.mg "__name__").getD .none) c' ctv)) (t':=tk) λb u e=>ah _ (hk b u e);exact h h'.objs.size c' ctv _ _ I3 (λb o q _=>q) (λb t q=>⟨t.ps,q⟩) (aP _ rfl) (I.hok.fresh hsz) ⟨oc,u,g1,g2⟩ rfl hsz
end
theorem uN:bootBuiltins "sorted"=some (.builtin "sorted"):=by decide +kernel
theorem Lp {h:Heap}{a:Addr}{m m':Mg}(x:h.Ns a m)(y:h.Ns a m'):m=m':=by obtain⟨o,es,ep,e,d,_,k⟩:=x;obtain⟨o',es',ep',e',d',_,k'⟩:=y;rw[e]at e';cases e';rw[d]at d';injection d' with d1 _;subst d1;funext n;rw[<- k n,<- k' n]
section
variable {prog:Program}{w:World}{A:Around}{s:Shared}{Q:Value->Shared->Prop}{E:Value->Shared->Prop}
theorem Cy {f c' t:Addr}{its:Lv}{wv pm ctv:Value}{y q:Str}{params:Arguments}{scope:Scope}{p1 p2 p3:Pos}{j:Nat}
  (ho:s.heap.get? f=some (W.kla_obj "<lambda>" q params (.Subscript (.Name y p1) (.Constant (.int 1) j p2) p3) scope [] pm c' ctv)) (hcd:s.heap.CodeRec (.ref c') q) (hroom:A.depth<recursionLimit) (hlim:s.heap.NoLimit)
  (hbind:bindArgs (W.kla_fn "<lambda>" q params (.Subscript (.Name y p1) (.Constant (.int 1) j p2) p3) scope [] pm (.ref c') ctv) ⟨[.ref t],[]⟩=pure [(y,.ref t)])
  (hloc:scope.names.lookup y=some .local) (hnc:∀z∈scope.names,z.2 ≠ .cell) (hk:scope.kind=.function) (hco:scope.isCoroutine=false) (hgen:scope.isGenerator=false) (hyd:(y == ("__debug__":Str))=false)
  (tup:IsTup s.heap t its.toArray) (hi:its[1]?=some wv)
  (h:∀h' tk,(∀b o,s.heap.get? b=some o->h'.get? b=some o)->Q wv { s with heap:=h',toks:=tk }) :
  wpAny (model prog w) A (call (.ref f) [.ref t]) Q E s:=by
 refine fx (W.kla_callFunE hroom ho rfl hco hgen rfl hcd ?_);rw[hbind];refine aV (wpAny_newFunctionEnv hnc (λz hz=>?_) (λh₁ hns hsb=>⟨hlim.fresh _ hsb,?_⟩) hk)
 ·rw[bw.mp hz];exact hloc
 have hk₁:∀b o,s.heap.get? b=some o->h₁.get? b=some o:=λb o e=>hsb.extBut b o (aO (ai e)) (ah _ e);refine W.kla_codeExpr ?_;have tup1:IsTup h₁ t its.toArray:=by obtain⟨o,e,r⟩:=tup;exact⟨o,hk₁ _ _ e,r⟩
 have len:1<its.length:=(aD.mp hi).1;refine Subscript_ (fU (dI hk hloc hns (v:=.ref t) ?_ ?_) hyd)
 ·simp
 refine wpAny_Constant_int ?_;refine dm (x:=wv) tup1.typeIs slot_tuple_getitem.lookup (getItem_tuple (j:=1) (Q:=λr s'=>r=wv/\_) tup1 (by decide) (by decide) ?_ (by simpa using hi) ⟨rfl,?_⟩) rfl
 ·rw[ao];unfold seqIndex?;have:(1:Int)<(its.length:Int):=by lia
  simp[this]
 ·exact h _ _ hk₁
end
end L2
namespace L3
open L2
def kY:PV->Int
 | .tup [_,.int k]=>k
 |_=>0
open Classical in
def oJ (ps:List PV):List PV:=if h:∃l:List PV,l.Perm ps/\l.Pairwise (λa b=>kY a<=kY b) then h.choose else[]
theorem wW (p:l.Perm ps)(o:l.Pairwise λa b=>kY a<=kY b)(nd:(ps.map kY).Nodup):oJ ps=l:=by have h:∃l:List PV,l.Perm ps/\l.Pairwise (λa b=>kY a<=kY b):=⟨l,p,o⟩;unfold oJ;rw[gf h];have s:=h.choose_spec;exact yr kY (s.1.trans p.symm) s.2 o ((p.map kY).nodup_iff.mpr nd)
structure z9 (ps:List PV):Prop where
 len:ps.length<64
 two:∀p∈ps,∃x,p=.tup [x,.int (kY p)]
 nd:(ps.map kY).Nodup
theorem Ny {α β γ δ:Type}(f:α->δ):∀(a:List α) (b:List β) (c:List γ),a.length=b.length->b.length=c.length->((a.zip (b.zip c)).map λt=>(f t.1,t.2.2))=(a.map f).zip c/\(a.zip (b.zip c)).map (λt=>t.1)=a
 |[],_,_,_,_=>⟨rfl,rfl⟩
 |x::a,[],_,h,_=>absurd h (by simp)
 |x::a,y::b,[],_,h=>absurd h (by simp)
 |x::a,y::b,z::c,h,k=>by
  obtain⟨e1,e2⟩:=Ny f a b c (by simpa using h) (by simpa using k);refine⟨?_,?_⟩
  ·rw[cH,cH,aA,e1,aA,cH]
  ·rw[cH,cH,aA,e2]
section
variable {K:Fg}{G:Gx}{H:Hp}
theorem Gk:∀{ps:List PV} {xs:List V} {its:Lv},jy K G H ps xs->Vals xs its->∀t∈ps.zip (xs.zip its),At K G H t.1 t.2.1/\RelV t.2.1 t.2.2
 |[],_,_,_,_,t,ht=>by simp at ht
 |p::ps,_,_,h,r,t,ht=>by
  obtain⟨v,vs,rfl,q,al⟩:=h;cases r with
  |cons r0 r1=>
   rcases az.mp ht with rfl|ht
   ·exact⟨q,r0⟩
   ·exact Gk al r1 t ht
theorem Am:∀{T:List (PV×V×Value)},(∀t∈T,At K G H t.1 t.2.1)->jy K G H (T.map λt=>t.1) (T.map λt=>t.2.1)
 |[],_=>rfl
 |t::T,h=>⟨_,_,rfl,h t ag,Am λx hx=>h x (ac _ hx)⟩
theorem xO:∀{T:List (PV×V×Value)},(∀t∈T,RelV t.2.1 t.2.2)->Vals (T.map λt=>t.2.1) (T.map λt=>t.2.2)
 |[],_=>.nil
 |t::T,h=>.cons (h t ag) (xO λx hx=>h x (ac _ hx))
end
def Dr (K:Fg)(cd:Value)(q:Str):Prop:=∃c P,cd=.ref c/\(c,P,q)∈ju K
section
variable {X:Cx}{G:Gx}{a:Expr}{pos p kp posL p1 p2 p3:Pos}{Ca:En->Prop}{ga:En->PV}{k j:Nat}{y:Str}{params:Arguments}{scope:Scope}
theorem Fi (hl:Dr X.K X.env.code (X.env.qual++"<lambda>"))(hr:Room k X.A)(hm:X.mg "sorted"=none)(ha:PE X a (tX X.K G Ca ga))(hg:Gl X "sorted":=by rfl)(he:starEach [a] X.env=[(false,eval a X.env)]:=by rfl)
  (hdef:defaultsOf params X.env=([],[]):=by rfl) (hcl:closureFor scope X.env=pure []:=by rfl)
  (hbind:∀(pm ctv:Value) (c' t:Addr),bindArgs (W.kla_fn "<lambda>" (X.env.qual++"<lambda>") params (.Subscript (.Name y p1) (.Constant (.int 1) j p2) p3) scope [] pm (.ref c') ctv) ⟨[.ref t],[]⟩=pure [(y,.ref t)]:=by intros;rfl)
  (hloc:scope.names.lookup y=some .local:=by rfl) (hnc:∀z∈scope.names,z.2 ≠ .cell:=by decide) (hk:scope.kind=.function:=by rfl) (hco:scope.isCoroutine=false:=by rfl) (hgen:scope.isGenerator=false:=by rfl) (hyd:(y == ("__debug__":Str))=false:=by decide) :
  PE X (.Call (.Name "sorted" p) [a] [⟨some "key",.Lambda params (.Subscript (.Name y p1) (.Constant (.int 1) j p2) p3) scope posL,kp⟩] pos) (JN X.K G (λZ=>Ca Z/\ga Z=.lst (Dj (ga Z))/\z9 (Dj (ga Z))) λZ=>oJ (Dj (ga Z))):=by
 intro pins s σ H Q I ⟨B,Z,O,R,c,q⟩;refine cF (ld_blt I hg hm uN ?_ (by decide) (by decide));refine PyProof.Rows.callWith_kw (thn (pa_cons ha pa_nil he pos pins s σ H (λvs H'=>∃l xs,vs=[.ref l]/\Same H H'/\Rd (mn H' O) l (.lst xs)/\jy X.K G (mn H' O) (Dj (ga Z)) xs) I ⟨B,Z,O,R,c.1,λv H1 s1 a1=>?_⟩) λus t1 h=>?_) (by rw[he];rfl) (by rw[he];rfl)
 ·rw[c.2.1]at a1;obtain⟨l,xs,rfl,r1,al⟩:=a1;exact⟨l,xs,rfl,s1,r1,al⟩
 obtain⟨vs,H1,I1,rv,l,xs,rfl,s1,rd,al⟩:=h;obtain⟨u,rfl,ru⟩:=vals1 rv;cases ru;obtain⟨cc,P,hcode,hx⟩:=hl;obtain⟨_,_,PO⟩:=c;have q:∀(a:Addr) (vs:List V) (H':Hp),Same H H' -> H a=none->H' a=some (HO.lst vs)->jy X.K G (mn H' (hide a O)) (oJ (Dj (ga Z))) vs->Q (V.ref a) H':=q;generalize Dj (ga Z)=ps at *
 refine kws_cons (DN I1 hcode hx rfl hdef hcl _ λf c' ctv H2 t2 I2 kp2 tb2 hf fn fz os _=>kws_nil ?_);have s2:Same H1 H2:=λb o e=>by cases o<;>first|exact kp2 b _ e (λt z=>by cases z)|(obtain⟨ps',z⟩:=tb2 b _ e;exact⟨ps',z⟩)
 obtain⟨_,its,n,r,hlen,e⟩:=L3.Inv.ul I2 (gY (iz.trans s2) rd);have al2:=jy.mono (jn s2) _ _ al;have lps:ps.length=xs.length:=al2.length;obtain⟨m,F⟩:=I2.fr;have N:=news_all (g:=X.base) (h:=t2.heap) (L:=X.env.locals);have hfL:f≠X.env.locals:=λz=>by obtain⟨m',⟨o,es,ep,ho,hd,_⟩,_⟩:=I2.loc;rw[<- z,hf]at ho;cases ho;cases hd
 have kept:∀{h:Heap} {own:List (Addr×Obj)},Fr X.base X.env.locals h m->News X.base X.env.locals h (allNews X.base t2.heap X.env.locals++own)->∀b o,b≠X.env.locals->t2.heap.get? b=some o->h.get? b=some o:=λ{h own} F' N' b o hb eb=>by
  cases z:X.base.get? b with
  |some u=>have:=I2.bk b u z;rw[eb]at this;cases this;exact F'.keep b _ z
  |none=>exact(N' (b,o) (bT _ (mem_allNews hb z eb))).1
 have tr:∀b u,H2 b=some u->b≠X.env.locals:=λb u z w=>by rw[w,I2.free]at z;cases z
 obtain⟨oc,fu,fz1,fz2⟩:=fz;have hoc:=(I2.hok c' _ fz1).1;refine PyProof.Rows.ksk_sorted (b:=false) (kz:=ps.map kY) (f:=.ref f) F N (vs:=its) ⟨_,e,rfl,n,rfl⟩ (by rw[aa,lps,hlen]) (by rw[<- hlen,<- lps];exact PO.len) (PyProof.Rows.ksk_s1 _ _) (λx=>PyProof.Rows.ksk_l1 _ _) (λx=>PyProof.Rows.ksk_t1 _ _) (λi v kk hv hkk h tk own F' N'=>?_) (λD h' tk out cz F' N' lt ko=>?_)
 ·rw[au]at hkk;cases hp:ps[i]? with
  |none=>rw[hp]at hkk;cases hkk
  |some pp=>
   rw[hp]at hkk;cases hkk;obtain⟨xv,hxv,at1⟩:=al2.at hp;obtain⟨v',hv',rl⟩:=r.get hxv;rw[hv]at hv';cases hv';obtain⟨x,ex⟩:=PO.two pp (bK hp);rw[ex]at at1;obtain⟨t,us,rfl,ht,ux,ur,rfl,_,ui,un,rfl,hui,hun⟩:=at1;cases rl;subst hun hui;have ht2:H2 t=some (.tup [ux,.int (kY pp)]):=(lU ht).2;obtain⟨_,its2,r2,tup⟩:=I2.hok t _ ht2;cases r2 with
   |cons q0 q1=>
    cases q1 with
    |cons q2 q3=>cases q3;obtain⟨tok,rfl⟩:=q2;obtain⟨o,eo,ro⟩:=tup;have tup':IsTup h t _:=⟨o,kept F' N' _ _ (tr t _ ht2) eo,ro⟩;refine Cy (s:={ t2 with heap:=h,toks:=tk }) (kept F' N' _ _ hfL hf) (uY.rec (kept F' N' _ _ (tr c' _ fz1) hoc) fz2) hr.depth (I2.ok.mod.nolimit.keeps F'.keep) (hbind _ _ _ _) hloc hnc hk hco hgen hyd tup' rfl λh'' tk' kk=>?_;exact⟨h'',tk',tok,rfl,rfl,F'.kept kk,λp hp=>⟨kk _ _ (N' p hp).1,(N' p hp).2⟩⟩
 ·have keptD:∀b o,b≠X.env.locals->t2.heap.get? b=some o->h'.get? b=some o:=λb o hb eb=>by
   cases z:X.base.get? b with
   |some u=>have:=I2.bk b u z;rw[eb]at this;cases this;exact F'.keep b _ z
   |none=>exact(N' (b,o) (ac _ (mem_allNews hb z eb))).1
  obtain⟨hD,DL,Db⟩:=N' (D,_) ag;have Dn:t2.heap.get? D=none:=by
   cases z:t2.heap.get? D with
   |none=>rfl
   |some o=>exact absurd (lt (D,o) (mem_allNews DL Db z)) (bC _)
  have HD:H2 D=none:=by
   cases z:H2 D with
   |none=>rfl
   |some u=>obtain⟨o,eo⟩:=ObjOk.get (I2.hok D u z);rw[Dn]at eo;cases eo
  obtain⟨pz,hperm,hout,hord⟩:=ko;obtain⟨z1,z2⟩:=Ny kY ps xs its lps hlen;rw[<- z1]at hperm;obtain⟨T,tp,te⟩:=vH hperm rfl;have mem:=Gk al2 r;have eps:T.map (λt=>t.1)=oJ ps:=by
   refine(wW ?_ ?_ PO.nd).symm
   ·have:=tp.map λt=>t.1;rw[z2]at this;exact this
   ·rw[<- te]at hord;rw[cw]at hord ⊢;exact hord
  have eout:out.toList=T.map λt=>t.2.2:=by rw[hout,<- te,d7];rfl
  have rv:Vals (T.map λt=>t.2.1) out.toList:=by rw[eout];exact xO λt ht=>(mem t (tp.mem_iff.mp ht)).2
  have alT:jy X.K G (mn H2 O) (oJ ps) (T.map λt=>t.2.1):=by rw[<- eps];exact Am λt ht=>(mem t (tp.mem_iff.mp ht)).1
  have lT:(T.map λt=>t.2.1).length<=sizeLine:=by rw[aa,tp.length_eq,List.length_zip,List.length_zip];have h1:=PO.len;exact bM (small1000 (by lia))
  have hobj:h'.get? D=some { cls:=.type "list",data:=.seq out.toList.toArray cz }:=by
   rw[hD]
   all_goals simp[seqObj]
  have I3:Inv X pins σ (upd H2 D (.lst (T.map λt=>t.2.1))) { t2 with heap:=h',gens:=t2.gens,drawn:=t2.drawn,toks:=tk }:=by
   refine I2.step (ch:=[]) (λb hb=>absurd hb (by simp)) (λb o hb _ _ eo _=>keptD b o hb eo) (λb o hb _ _ eo _=>⟨o.slots,keptD b o hb eo⟩) (λb o _ eo no=>?_) (λb o _ eo=>?_) (λb xs z=>?_) (λb o u z=>?_) (λb ps z=>⟨#[],?_⟩) (λm0 hm0=>?_) (λb u z=>?_) I2.bare
   ·rw[upd_ne (λw=>by rw[w,Dn]at eo;cases eo)];exact no
   ·by_cases w:b=X.env.locals
    ·obtain⟨o',es,ep,ho,_⟩:=F'.ns;rw[w];exact⟨o',ho⟩
    ·exact⟨o,keptD b o w eo⟩
   ·rw[upd_ne (ne_of_none z HD)];exact z
   ·rw[upd_ne (ne_of_none z HD)];exact z
   ·rw[upd_ne (ne_of_none z HD),z];simp
   ·have:=Lp hm0 F.ns;subst this;exact F'.ns
   ·by_cases w:b=D
    ·subst w;rw[upd_same]at z;cases z;exact⟨lT,out.toList,cz,rv,hobj⟩
    ·rw[upd_ne w]at z;refine(I2.hok b u z).stay (λc v hcb rr=>keptD c v ?_ rr) (λc rr=>by rw[upd_ne (ne_of_none rr HD)];exact rr) (λc _ rr=>by rw[upd_ne (ne_of_none rr HD)];exact rr) λc _ _ rr=>by rw[upd_ne (ne_of_none rr HD)];exact rr
     rcases hcb with rfl|hcb
     ·exact tr c _ z
     ·exact tr c _ hcb
  have sD:Same H2 (upd H2 D (.lst (T.map λt=>t.2.1))):=same_new HD _;exact⟨.ref D,_,I3,rfl,q D _ _ ((s1.trans s2).trans sD) ((s1.trans s2).free HD) upd_same (jy.mono (jX sD HD) _ _ alT)⟩
end
def zK (K:Fg)(mg:Mg)(x:Str):Prop:=∃f oc od fd sl,mg x=some (.ref f)/\K.lookup f=some ⟨oc,od,.func fd,sl⟩/\Dr K fd.code (x++".<locals>."++"<lambda>")
def yM (K:Fg)(cd:Value)(q:Str):Bool:=match cd with
 | .ref c=>(ju K).any λx=>x.1 == c && x.2.2 == q
 |_=>false
theorem Cq {K:Fg}{cd:Value}{q:Str}(h:yM K cd q=true):Dr K cd q:=by
 unfold yM at h;split at h
 ·rename_i c;obtain⟨x,hx,e⟩:=List.any_eq_true.mp h;rw[dF,fW,fW]at e;obtain⟨a,b,d⟩:=x;obtain⟨e1,e2⟩:=e;subst e1 e2;exact⟨a,b,rfl,hx⟩
 ·cases h
def MP (K:Fg)(ts:List Addr):Bool:=(ju K).all λx=>(ts.contains x.2.1 && (K.lookup x.2.1).isNone) && (ju K).all λy=>x.2.1 != y.2.1 || x.2.2 == y.2.2
theorem Ej {K:Fg}{h:Heap}{ts:List Addr}(e:MP K ts=true)(t:∀P∈ts,h.get? P=some (W.tabObj #[])):yC K h:=by
 have a:=λx hx=>cX.mp (cA.mp e x hx);refine⟨λx hx=>t _ ?_,λx hx=>?_,λx hx y hy z=>?_⟩
 ·exact List.contains_iff_mem.mp (cX.mp (a x hx).1).1
 ·exact Option.isNone_iff_eq_none.mp (cX.mp (a x hx).1).2
 ·have:=cA.mp (a x hx).2 y hy;rw[Bool.or_eq_true,bne_iff_ne,fW]at this;exact this.resolve_left λn=>n z
section
variable {P:Program}{w:World}{K:Fg}{mg:Mg}{base:Heap}{G:Gx}
theorem QQ {x:Str}{st:Stmt}{N ps:Ls}{k:Nat}{pre:List PV->Prop}{F:List PV->PV}(d:mL K mg x st ps)(S:FnScope N ps (defScope st))(LD:zK K mg x)(len:∀as,pre as->as.length=ps.length)
  (hbody:∀(f:Addr) (cdv:Value) (A:Around) (outer:List Env) (s:Shared) (H:Hp) (E:XK),Room k (A.deeper (envOfC x (defScope st) s.heap.objs.size f cdv))->Dr K cdv (x++".<locals>."++"<lambda>") ->
   ∃fs,PSs (cxOf CX0 P w K mg base N x (defScope st) f cdv A outer s H E).nox (defBody st) (ts K G PQ fs)/\∀as,pre as->fs { nx:=λ_=>F as=.non,rt:=λp=>p=F as,rl:=λns=>F as=.ints ns } (iZ N as)):Ok P w K mg base (k+1) x ps (HJ K G pre F):=by
 obtain⟨f,fd,FF,b,m⟩:=d.ex;refine⟨f,fd,?_,b,FF.kp,m⟩;obtain⟨oc,od,kV,doc,pm,an,cdv,ct,osl,rfl,lk,hcd⟩:=FF.ex;have hl:Dr K cdv (x++".<locals>."++"<lambda>"):=by obtain⟨f',oc',od',fd',sl',m',lk',hl⟩:=LD;rw[m]at m';cases m';rw[lk]at lk';cases lk';exact hl
 refine fn_of lk hcd S (λvs H Q E h=>?_) λA outer s H vs Q E hr h=>?_
 ·obtain⟨as,O,_,al,hp,_⟩:=h;rw[<- al.length];exact len as hp
 obtain⟨as,O,hd,al,hp,q⟩:=h;obtain⟨fs,b,c⟩:=hbody f cdv A outer s H E hr hl;refine⟨_,b.nox,⟨H,O⟩,iZ N as,_,⟨O,mD hd al⟩,c as hp,⟨λσ' H' Z' R' h=>?_,λv H' p s' a' h=>?_,λa H' ns s' n e h=>?_,λ_ _ _ _ _ h=>h.elim,λ_ _ _ _ h=>h,λ_ _ _ _ h=>h,λ_ _ _ h=>h⟩⟩
 ·obtain⟨O',R'⟩:=R';exact q .non H' R'.same (by rw[show F as=.non from h];rfl)
 ·subst h;exact q v H' s' a'
 ·refine q _ H' s' ?_;rw[h];exact⟨a,rfl,.inl (by
   rw[lB]
   ·exact e
   ·cases z:O a with
    |false=>rfl
    |true=>exact absurd n (hd a z))⟩
end
end L3
namespace L2
open PySem.AutoSeq1 (wpAny_loadPart')
open PySem.MeetsSeq PySem.MeetsSeq2 PySem.MeetsSeq3 PySem.SeqAt
end L2
end
namespace L2
open PySem PySem.Spec PyProof.Rows PySem.W
def Rm (n:Nat)(lt:Nat->Nat->Bool){α:Type}(Post:α->Prop):KasT α->Prop
 | .ret a=>Post a
 | .ask i j k=>i<n/\j<n/\Rm n lt Post (k (lt i j))
section
variable {n:Nat}{lt:Nat->Nat->Bool}{α β:Type}
structure Rt (n:Nat)(lt:Nat->Nat->Bool):Prop where
 asy:∀i j,i<n->j<n->lt i j=true->lt j i=false
 tot:∀i j,i<n->j<n->i≠j->lt i j=false->lt j i=true
 tr:∀i j k,i<n->j<n->k<n->lt i j=true->lt j k=true->lt i k=true
def PR (n:Nat)(p:Array Nat):Prop:=p.toList.Perm (List.range n)
def Rr (lt:Nat->Nat->Bool)(p:Array Nat)(m:Nat):Prop:=∀i j,i<j->j<m->lt (p.getD i 0) (p.getD j 0)=true
def Ro (lt:Nat->Nat->Bool)(p:Array Nat)(m:Nat):Prop:=∀i j,i<j->j<m->lt (p.getD j 0) (p.getD i 0)=true
end
end L2
section
open PySem PySem.Spec PyProof.Rows
namespace L3
open L2
section
variable {X:Cx}{pins:List (Addr×Obj)}{σ:L2.St}{H:Hp}{s t:Shared}{D kS:Addr}{G:Gx}{O:Addr->Bool}
structure Be (X:Cx)(pins:List (Addr×Obj))(D:Addr):Prop where
 big:X.s₀.heap.objs.size<=D
 loc:D≠X.env.locals
 cel:∀x c,X.env.cells.lookup x=some c->c≠D
 pin:∀p∈X.pn++pins,p.1≠D
 fs:D∉X.fs
theorem Be.of (I:Inv X pins σ H t)(h:t.heap.objs.size<=D):Be X pins D where
 big:=aG I.sz h
 loc:=dz (ay I.lt h)
 cel:=λx c e=>by obtain⟨v,o,ho,_⟩:=I.cell x c e;exact aO (ay (ai ho) h)
 pin:=λp hp=>aO (ay (ai (I.pin p hp).1) h)
 fs:=I.nofs h
end
open Classical in
section
variable {X:Cx}{pins:List (Addr×Obj)}{σ:L2.St}{H:Hp}{s t:Shared}{D l:Addr}{G:Gx}{O:Addr->Bool}{f:Value}{its:List Value}{gs:List (List Int)}{E:Value->Shared->Prop}
theorem CQ (I:Inv X pins σ H s)(F:Be X pins D)(n:H D=none)(e:s.heap.get? D=some (seqObj "list" its.toArray c))(rv:Vals vs its)(hl:vs.length<=sizeLine):Inv X pins σ (upd H D (.lst vs)) s:=by
 have nD:∀b u,H b=some u->b≠D:=λb u q z=>by rw[z,n]at q;cases q
 refine I.step (ch:=[D]) (h':=s.heap) (g':=s.gens) (d':=s.drawn) (t':=s.toks) (λb hb=>?_) (λb o _ _ _ q _=>q) (λb o _ _ _ q _=>⟨o.slots,q⟩) (λb o hb _ q=>?_) (λb o _ q=>⟨o,q⟩) (λb _ q=>?_) (λb _ _ q=>?_) (λb ps q=>⟨#[],?_⟩) (λm hm=>hm) (λb u q=>?_) I.bare
 ·rw[bw.mp hb];exact⟨.inr F.big,F.loc,F.cel,F.pin⟩
 ·rw[upd_ne (λz=>hb (bw.mpr z))];exact q
 ·rw[upd_ne (nD _ _ q)];exact q
 ·rw[upd_ne (nD _ _ q)];exact q
 ·rw[upd_ne (nD _ _ q),q];simp
 ·by_cases z:b=D
  ·subst z;rw[upd_same]at q;cases q;exact⟨hl,its,c,rv,e⟩
  ·rw[upd_ne z]at q;exact(I.hok b u q).stay (λc v _ rr=>rr) (λc rr=>by rw[upd_ne (nD _ _ rr)];exact rr) (λc _ rr=>by rw[upd_ne (nD _ _ rr)];exact rr) λc _ _ rr=>by rw[upd_ne (nD _ _ rr)];exact rr
end
theorem QX:¬(some NameKind.cell:Option NameKind)=some NameKind.local:=nofun
theorem qb {N ps:Ls}{sc:Scope}(a:sc.kind=.function:=by rfl)(b:sc.isCoroutine=false:=by rfl)(c:sc.isGenerator=false:=by rfl)(d:N.Nodup:=by decide +kernel)(e:N.take ps.length=ps:=by rfl)(f:∀x∈ps,sc.names.lookup x=some .local\/sc.names.lookup x=some .cell:=by decide +kernel)(g:∀y∈sc.names,y.2 ≠ .free:=by decide +kernel):FnScope N ps sc:=⟨a,b,c,d,e,f,g⟩
theorem DR (i:Nat){X:Cx}{x:Str}{pos:Pos}(hN:X.N.Nodup:=by(dsimp only[ie];decide +kernel))(hi:X.N[i]?=some x:=by rfl)(hx:Loc X.env.scope x:=by exact Or.inl rfl)(hf:X.fn x=true\/X.env.scope.names.lookup x=some .local:=by exact .inr rfl):PG X (.Name x pos) (gName i):=pg_name hN hi hx hf
end L3
namespace L2
section
variable {κ:Type}[DecidableEq κ]
def valV (kvs:List (κ×V))(k:κ):Option V:=(kvs.find? λkv=>decide (kv.1=k)).map (·.2)
def putK (kvs:List (κ×V))(k:κ)(v:V):List (κ×V):=
 if (kvs.any λkv=>decide (kv.1=k))=true then kvs.map (λkv=>if kv.1=k then(kv.1,v) else kv) else kvs++[(k,v)]
def dropK (kvs:List (κ×V))(k:κ):List (κ×V):=kvs.filter λkv=>decide (kv.1≠k)
theorem valV_pos {p:κ×V}{r:List (κ×V)}{k:κ}(e:p.1=k):valV (p::r) k=some p.2:=by simp[valV,bI,e]
theorem valV_neg {p:κ×V}{r:List (κ×V)}{k:κ}(e:¬p.1=k):valV (p::r) k=valV r k:=by simp[valV,bI,e]
theorem valV_any (k:κ):∀kvs:List (κ×V),(kvs.any λkv=>decide (kv.1=k))=(valV kvs k).isSome
 |[]=>rfl
 |p::r=>by
  rw[dN];by_cases e:p.1=k
  ·simp only[valV_pos e,aM e,Bool.true_or,Option.isSome_some]
  ·rw[valV_neg e,aH e,Bool.false_or];exact valV_any k r
theorem length_putK (kvs:List (κ×V))(k:κ)(v:V):(putK kvs k v).length<=kvs.length+1:=by
 unfold putK;split
 ·rw[aa];lia
 ·rw[aN,bh,List.length_nil];lia
theorem RelO.isSome_eq {o:Option V}{u:Option Value}(r:RelO o u):o.isSome=u.isSome:=by
 cases o with
 |none=>cases u with
  |none=>rfl
  |some _=>exact(show False from r).elim
 |some _=>cases u with
  |none=>exact(show False from r).elim
  |some _=>rfl
theorem RelO.getD {o:Option V}{u:Option Value}{d:V}{d':Value}(r:RelO o u)(rd:RelV d d'):RelV (o.getD d) (u.getD d'):=by
 cases o with
 |none=>cases u with
  |none=>exact rd
  |some _=>exact(show False from r).elim
 |some _=>cases u with
  |none=>exact(show False from r).elim
  |some _=>exact r
theorem KV.val {kvs:List (κ×V)}{vs:List (κ×Value)}(r:KV kvs vs)(k:κ):RelO (valV kvs k) (valueAt vs k):=by
 unfold KV at r
 induction r with
 |nil=>exact tT
 |@cons p q ps qs h t ih=>
  obtain⟨h1,h2⟩:=h;by_cases e:p.1=k
  ·have e':q.1=k:=h1.symm.trans e;have b:valueAt (q::qs) k=some q.2:=by simp[valueAt,bI,e']
   rw[valV_pos e,b];exact h2
  ·have e':¬q.1=k:=λz=>e (h1.trans z);have b:valueAt (q::qs) k=valueAt qs k:=by simp[valueAt,bI,e']
   rw[valV_neg e,b];exact ih
theorem KV.any {kvs:List (κ×V)}{vs:List (κ×Value)}(r:KV kvs vs)(k:κ):(kvs.any λkv=>decide (kv.1=k))=vs.any λkv=>decide (kv.1=k):=by
 unfold KV at r
 induction r with
 |nil=>rfl
 |cons h t ih=>rw[dN,dN,ih,h.1]
theorem KV.repl {kvs:List (κ×V)}{vs:List (κ×Value)}(r:KV kvs vs)(k:κ){y:V}{u:Value}(ry:RelV y u) :
  KV (kvs.map λkv=>if kv.1=k then(kv.1,y) else kv) (vs.map λkv=>if kv.1=k then(kv.1,u) else kv):=by
 unfold KV at r ⊢
 induction r with
 |nil=>exact .nil
 |@cons p q ps qs h t ih=>
  rw[aA,aA];refine .cons ?_ ih;obtain⟨h1,h2⟩:=h;by_cases e:p.1=k
  ·rw[ae e,ae (h1.symm.trans e)];exact⟨h1,ry⟩
  ·rw[af e,af (λz=>e (h1.trans z))];exact⟨h1,h2⟩
theorem KV.put {kvs:List (κ×V)}{vs:List (κ×Value)}(r:KV kvs vs)(k:κ){y:V}{u:Value}(ry:RelV y u):KV (putK kvs k y) (stored vs k u):=by
 unfold putK stored;rw[r.any k];by_cases e:(vs.any λkv=>decide (kv.1=k))=true
 ·rw[ae e,ae e];exact r.repl k ry
 ·rw[af e,af e];exact Paired.snoc r ⟨rfl,ry⟩
theorem KV.keys {kvs:List (κ×V)}{vs:List (κ×Value)}(r:KV kvs vs):kvs.map (·.1)=vs.map (·.1):=by
 unfold KV at r
 induction r with
 |nil=>rfl
 |cons h t ih=>rw[aA,aA,ih,h.1]
theorem KV.length {kvs:List (κ×V)}{vs:List (κ×Value)}(r:KV kvs vs):kvs.length=vs.length:=eE r
end
theorem kV_is {P:Program}{w:World}{k:Key}{u:Value}(r:RelV (kV k) u):(mixKind P w).is k u=true:=by
 cases k with
 |inl i=>obtain⟨t,e⟩:=(show ∃t,u=Value.int i t from r);subst e;exact mixKind_int P w i t
 |inr x=>obtain⟨t,e⟩:=(show ∃t,u=Value.str x t from r);subst e;exact mixKind_str P w x t
theorem items_are {P:Program}{w:World}:∀{ks:List Key} {us:Lv},Vals (ks.map kV) us->ItemsAre (mixKind P w) ks us
 |[],_,r=>by rw[d5]at r;cases r;exact .nil
 |k::ks,_,r=>by
  rw[aA]at r;cases r with
  |cons h t=>exact .cons (kV_is h) (items_are t)
abbrev KT (H:Hp):List (List Key×V)->List (List Key×Addr×Value)->Prop:=Paired λp q=>p.1=q.1/\H q.2.1=some (.tup (p.1.map kV))/\RelV p.2 q.2.2
theorem KT.val {H:Hp}{kvs:List (List Key×V)}{xs:List (List Key×Addr×Value)}(r:KT H kvs xs)(k:List Key):RelO (valV kvs k) ((atKey xs k).map (·.2)):=by
 induction r with
 |nil=>exact tT
 |@cons p q ps qs h t ih=>
  obtain⟨h1,_,h2⟩:=h;by_cases e:p.1=k
  ·have e':q.1=k:=h1.symm.trans e;have b:atKey (q::qs) k=some q.2:=by simp[atKey,bI,e']
   rw[valV_pos e,b];exact h2
  ·have e':¬q.1=k:=λz=>e (h1.trans z);have b:atKey (q::qs) k=atKey qs k:=by simp[atKey,bI,e']
   rw[valV_neg e,b];exact ih
theorem KT.repl {H:Hp}{kvs:List (List Key×V)}{xs:List (List Key×Addr×Value)}(r:KT H kvs xs)(k:List Key){y:V}{u:Value}(ry:RelV y u) :
  KT H (kvs.map λkv=>if kv.1=k then(kv.1,y) else kv) (xs.map (putAt k u)):=by
 induction r with
 |nil=>exact .nil
 |@cons p q ps qs h t ih=>
  rw[aA,aA];refine .cons ?_ ih;obtain⟨h1,h2,h3⟩:=h;unfold putAt;by_cases e:p.1=k
  ·rw[ae e,ae (h1.symm.trans e)];exact⟨h1,h2,ry⟩
  ·rw[af e,af (λz=>e (h1.trans z))];exact⟨h1,h2,h3⟩
theorem KT.put {H:Hp}{kvs:List (List Key×V)}{xs:List (List Key×Addr×Value)}(r:KT H kvs xs)(k:List Key){b:Addr}{y:V}{u:Value}(hb:H b=some (.tup (k.map kV)))(ry:RelV y u) :
  KT H (putK kvs k y) (storedH xs k b u):=by
 have e:(kvs.any λkv=>decide (kv.1=k))=(atKey xs k).isSome:=by rw[valV_any,(r.val k).isSome_eq,Option.isSome_map]
 unfold putK storedH;rw[e];by_cases q:(atKey xs k).isSome=true
 ·rw[ae q,ae q];exact r.repl k ry
 ·rw[af q,af q];exact Paired.snoc r ⟨rfl,hb,ry⟩
theorem KT.keeps {H H':Hp}{kvs:List (List Key×V)}{xs:List (List Key×Addr×Value)}(r:KT H kvs xs)(ht:∀b ys,H b=some (.tup ys)->H' b=some (.tup ys)):KT H' kvs xs:=
 Paired.mapP r λ_ _ z=>⟨z.1,ht _ _ z.2.1,z.2.2⟩
section
variable {P:Program}{w:World}{H:Hp}{h:Heap}{a:Addr}
theorem rd_of {u:HO}(ok:HOk P w H h)(e:Rd H a u):ObjOk P w H h a u:=e.ok ok
theorem dk_rd {kvs:List (Key×V)}(ok:HOk P w H h)(e:Rd H a (.dK kvs)):kvs.length<=sizeLine/\(a == sysModules)=false/\∃vs,KV kvs vs/\h.DictOf (mixKind P w) a vs:=
 show ObjOk P w H h a (.dK kvs) from rd_of ok e
theorem dk_of {kvs:List (Key×V)}(ok:HOk P w H h)(e:H a=some (.dK kvs)):kvs.length<=sizeLine/\(a == sysModules)=false/\∃vs,KV kvs vs/\h.DictOf (mixKind P w) a vs:=dk_rd ok (.inl e)
theorem key_of {ks:List Key}(ok:HOk P w H h)(e:H a=some (.tup (ks.map kV))):(tupleKind (mixKind P w)).is h ks a:=by obtain⟨_,its,r,o,h1,h2,n,h3⟩:=(show ObjOk P w H h a (.tup (ks.map kV)) from ok a _ e);exact⟨o,its.toArray,n,h1,h2,h3,by simpa using items_are r⟩
theorem dt_rd {kvs:List (List Key×V)}(ok:HOk P w H h)(e:Rd H a (.dT kvs)):kvs.length<=sizeLine/\(a == sysModules)=false /\
  ∃xs,KT H kvs xs/\h.DictOfH (tupleKind (mixKind P w)) a xs:=by
 obtain⟨z,y,xs,r,o,es,ep,h1,h2,h3,h4,h5⟩:=(show ObjOk P w H h a (.dT kvs) from rd_of ok e);refine⟨z,y,xs,r,o,es,ep,h1,h2,h3,h4,λx hx=>?_,h5⟩;have all:∀{l:List (List Key×V)} {m:List (List Key×Addr×Value)},KT H l m->∀x∈m,(tupleKind (mixKind P w)).is h x.1 x.2.1:=by
  intro l m q
  induction q with
  |nil=>intro x hx;exact nomatch hx
  |@cons p q ps qs hq t ih=>
   intro x hx;rcases az.mp hx with e|hx
   ·subst e;exact key_of ok (by rw[<- hq.1];exact hq.2.1)
   ·exact ih x hx
 exact all r x hx
theorem dt_of {kvs:List (List Key×V)}(ok:HOk P w H h)(e:H a=some (.dT kvs)):kvs.length<=sizeLine/\(a == sysModules)=false /\
  ∃xs,KT H kvs xs/\h.DictOfH (tupleKind (mixKind P w)) a xs:=dt_rd ok (.inl e)
end
def DGet (H:Hp)(a:Addr)(y:V)(r:Option V):Prop:=
 (∃kvs k,Rd H a (.dK kvs)/\y=kV k/\r=valV kvs k)\/∃kvs k b,Rd H a (.dT kvs)/\y=.ref b/\H b=some (.tup (k.map kV))/\r=valV kvs k
def DPut (H:Hp)(a:Addr)(y v:V)(H':Hp):Prop:=
 (∃kvs k,H a=some (.dK kvs)/\y=kV k/\kvs.length<sizeLine/\H'=upd H a (.dK (putK kvs k v))) \/
 ∃kvs k b,H a=some (.dT kvs)/\y=.ref b/\H b=some (.tup (k.map kV))/\kvs.length<sizeLine/\H'=upd H a (.dT (putK kvs k v))
theorem DGet.k {H:Hp}{a:Addr}{kvs:List (Key×V)}{k:Key}(e:H a=some (.dK kvs)):DGet H a (kV k) (valV kvs k):=.inl ⟨kvs,k,.inl e,rfl,rfl⟩
theorem DPut.k {H:Hp}{a:Addr}{kvs:List (Key×V)}{k:Key}{v:V}(e:H a=some (.dK kvs))(hl:kvs.length<sizeLine):DPut H a (kV k) v (upd H a (.dK (putK kvs k v))):=.inl ⟨kvs,k,e,rfl,hl,rfl⟩
section
variable {X:Cx}{pins:List (Addr×Obj)}{σ:St}{H:Hp}{s:Shared}{a:Addr}{y v:V}{u r:Value}{o:Option V}{A:Around}{E:Value->Shared->Prop}
theorem Inv.big (I:Inv X pins σ H s):sysModules<s.heap.objs.size:=by have h:mainGlobals<s.heap.objs.size:=(I.mod.glob.keeps I.bk).lt;exact Nat.lt_trans (by decide) h
theorem d_getItem {Q:Value->Shared->Prop}(hu:A.units+1<cLine)(I:Inv X pins σ H s)(g:DGet H a y (some v))(ry:RelV y u)(h:∀w' s',Inv X pins σ H s' -> RelV v w' -> Q w' s') :
  wpAny (model X.prog X.w) A (getItem (.ref a) u) Q E s:=by
 rcases g with⟨kvs,k,e,ey,l⟩|⟨kvs,k,b,e,ey,eb,l⟩
 ·subst ey;obtain⟨z,hd,vs,rel,dd⟩:=dk_rd I.hok e;obtain⟨w',hw,rw'⟩:=RelO.some_of (v:=v) (o:=valueAt vs k) (by rw[l];exact rel.val k);exact wpAny_getItem_of (kV_is ry) dd.mapOf hw (h w' _ (I.tok _) rw')
 ·subst ey;cases (show u=Value.ref b from ry);obtain⟨z,hd,xs,rel,dd⟩:=dt_rd I.hok e;obtain⟨w',hw,rw'⟩:=RelO.some_of (v:=v) (o:=(atKey xs k).map (·.2)) (by rw[l];exact rel.val k);obtain⟨p,hp,hp2⟩:=Option.map_eq_some_iff.mp hw;refine wpAny_getItem_heap (d8 hu) (key_of I.hok eb) dd hp ?_;rw[hp2];exact h w' _ (I.tok _) rw'
theorem d_write {h':Heap}{t':Nat}{ob:HO}(I:Inv X pins σ H s)(mu:Mut (H a))(hs:Heap.SameBut a s.heap h')(he:∃q,h'.get? a=some q)(new:ObjOk X.prog X.w (upd H a ob) h' a ob) :
  Inv X pins σ (upd H a ob) { s with heap:=h',toks:=t' } :=
 I.write (x:=a) (e:=a) mu (.inl rfl) (λb q hb z=>(hs.2 b hb).trans z) he new
theorem dk_new {P:Program}{w:World}{H':Hp}{h':Heap}{kvs:List (Key×V)}{vs:List (Key×Value)}(z:kvs.length<=sizeLine)(hd:(a == sysModules)=false)(rel:KV kvs vs)(dd:h'.DictOf (mixKind P w) a vs) :
  ObjOk P w H' h' a (.dK kvs):=⟨z,hd,vs,rel,dd⟩
theorem d_setItem {H':Hp}{Q:Unit->Shared->Prop}(hu:A.units+1<cLine)(I:Inv X pins σ H s)(g:DPut H a y v H')(ry:RelV y u)(rv:RelV v r)(h:∀s',Inv X pins σ H' s' -> Q () s') :
  wpAny (model X.prog X.w) A (setItem (.ref a) u r) Q E s:=by
 rcases g with⟨kvs,k,e,ey,l,eH⟩|⟨kvs,k,b,e,ey,eb,l,eH⟩
 ·subst ey eH;obtain⟨z,hd,vs,rel,dd⟩:=dk_of I.hok e;have hz:vs.length<=sizeLine:=by rw[<- rel.length];exact z
  have hl:(putK kvs k v).length<=sizeLine:=by have:=length_putK kvs k v;lia
  refine wpAny_setItem_pairs (hsz:=hz) (kV_is ry) dd λh' dd' hs=>h _ ?_;have he:∃q,h'.get? a=some q:=let ⟨q,_,_,hq,_⟩:=dd';⟨q,hq⟩
  exact d_write I (by rw[e];exact tT) hs he (dk_new hl hd (rel.put k rv) dd')
 ·subst ey eH;cases (show u=Value.ref b from ry);obtain⟨z,hd,xs,rel,dd⟩:=dt_of I.hok e;have hz:xs.length<=sizeLine:=by rw[<- eE rel];exact z
  have hl:(putK kvs k v).length<=sizeLine:=by have:=length_putK kvs k v;lia
  refine wpAny_setItem_heap (hsz:=hz) (d8 hu) (key_of I.hok eb) dd λh' dd' hs=>h _ ?_;obtain⟨q,es,ep,hq,h2,h3,h4,_,h5⟩:=dd';refine d_write I (by rw[e];exact tT) hs ⟨q,hq⟩ ⟨hl,hd,_,(rel.put k eb rv).keeps λc ys ec=>?_,q,es,ep,hq,h2,h3,h4,h5⟩;rw[upd_ne (ne_of ec e (λz=>nomatch z))];exact ec
end
def NoSl (i:Expr):Prop:=∀ov iv,subscripted i false ov iv=operate [ov,iv] (getItem ov iv)
theorem subD_of {prog:Program}{w:World}{A:Around}{E:Value->Shared->Prop}{s:Shared}{env:Env}{value slice:Expr}{pos:Pos}{T id:String}{Q:Value->Shared->Prop}
  (hl:typeLookup (.type T) "__getitem__"=pure (some (.builtin id))) (hs:NoSl slice)
  (h:wpAny (model prog w) A (eval value env) (λo s₁=>wpAny (model prog w) A (eval slice env) (λi s₂=>s₂.TypeIs o T/\wpAny (model prog w) A (getItem o i) Q E s₂) E s₁) E s) :
  wpAny (model prog w) A (eval (.Subscript value slice pos) env) Q E s:=by
 refine Subscript_ (dq h (λo s₁ h₁=>dq h₁ (λi s₂ h₂=>?_) λ_ _ x=>x) λ_ _ x=>x);obtain⟨hT,h₂⟩:=h₂;unfold subscriptTail;refine ak ?_;rw[getitemInPython_of_ne hT.not_modules];refine ak (wpAny_specialOf hT hl ?_);have fin:wpAny (model prog w) A (subscripted slice false o i) (λr s₃=>wpAny (model prog w) A (letTemporaryGo value o r >>= λ_=>pure r) Q E s₃) E s₂:=by rw[hs o i];exact wpAny_operating (dq h₂ (λr s₃ h₃=>ak (wpAny_letTemporaryGo (aV h₃))) λ_ _ x=>x)
 first
  |exact aV (ak fin)
  |exact ak (aV (ak fin))
  |exact ak fin
theorem dict_typeIs {X:Cx}{pins:List (Addr×Obj)}{σ:St}{H:Hp}{s:Shared}{a:Addr}{y:V}{o:Option V}(I:Inv X pins σ H s)(g:DGet H a y o):s.TypeIs (.ref a) "dict":=by
 rcases g with⟨kvs,k,e,_,_⟩|⟨kvs,k,b,e,_,_,_⟩
 ·obtain⟨_,_,vs,_,dd⟩:=dk_rd I.hok e;exact dd.typeIs
 ·obtain⟨_,_,xs,_,dd⟩:=dt_rd I.hok e;exact dd.typeIs
def tDGet (td ty:TE):TE:=λσ H Q=>td σ H λx H1=>ty σ H1 λy H2=>∃a v,x=.ref a/\DGet H2 a y (some v)/\Q v H2
def sDPut (td ty tv:TE):TS:=λD σ H=>tv σ H λv H1=>td σ H1 λx H2=>ty σ H2 λy H3=>∃a H4,x=.ref a/\DPut H3 a y v H4/\D.nx σ H4
section
variable {X:Cx}{o i e value:Expr}{pos pos' tpos:Pos}{td ty tv:TE}
theorem pe_dget (hu:X.A.units+1<cLine)(ho:PE X o td)(hi:PE X i ty)(hs:NoSl i):PE X (.Subscript o i pos) (tDGet td ty):=by intro pins s σ H Q I h;refine subD_of PySem.F.slot_dict_getitem.lookup hs (thn (ho pins s σ H _ I h) λu s1 ⟨x,H1,I1,rx,q1⟩=>thn (hi pins s1 σ H1 _ I1 q1) λiv s2 ⟨y,H2,I2,ry,a,v,ex,g,q2⟩=>?_);subst ex;obtain rfl:u=Value.ref a:=rx;exact⟨dict_typeIs I2 g,d_getItem hu I2 g ry λw' s3 I3 rw'=>⟨v,H2,I3,rw',q2⟩⟩
theorem ps_dput (hu:X.A.units+1<cLine)(ho:PE X o td)(hi:PE X i ty)(hv:PE X value tv)(hs:swapsWith value (some (.Subscript o i pos')) pos.line X.env=pure false) :
  PS X (.Assign [.Subscript o i pos'] value pos) (sDPut td ty tv):=by
 intro pins s σ H D I h;refine wpAny_Assign_Subscript (thn (hv pins s σ H _ I h) λr s1 ⟨v,H1,I1,rv,q1⟩=>thn (ho pins s1 σ H1 _ I1 q1) λu s2 ⟨x,H2,I2,rx,q2⟩=>thn (hi pins s2 σ H2 _ I2 q2) λiv s3 ⟨y,H3,I3,ry,a,H4,ex,g,q3⟩=>?_) hs;subst ex;obtain rfl:u=Value.ref a:=rx;exact d_setItem hu I3 g ry rv λs4 I4=>⟨σ,H4,I4,q3⟩
end
theorem dk_empty {P:Program}{w:World}{H:Hp}(h:Heap)(hb:sysModules<h.objs.size):ObjOk P w H (h.push { cls:=.type "dict",data:=.dict #[] }) h.objs.size (.dK []):=
 ⟨be _,beq_eq_false_iff_ne.mpr (bP (aO hb)),[],.nil,Heap.DictOf.new h⟩
def tDNewK:TE:=λ_ H Q=>∀p,H p=none->Q (.ref p) (upd H p (.dK []))
section
variable {X:Cx}{pos:Pos}
theorem pe_dnewK:PE X (.Dict [] [] pos) tDNewK:=λpins s σ H Q I h=>
 wpAny_Dict_empty ⟨.ref s.heap.objs.size,_,I.laid (a:=s.heap.objs.size) (o:=.dK []) (t':=s.toks) (λ_ _ q=>ah _ q) (aj _) (dk_empty s.heap I.big),rfl,h _ (I.hok.fresh (aj _))⟩
end
structure M2 (X:Cx)(o:Expr)(m:Str)(apos:Pos)(e f:Expr)(cpos:Pos):Prop where
 base:attributeBase o m X.env (eval o X.env)=eval o X.env
 few:((backTo cpos (starEach [e,f] X.env)).all (λx=>!x.1) && (backToKw cpos (keywordEach [] X.env)).all (λx=>x.1.isSome)
  && decide (([e,f]:List Expr).length+([]:List Keyword).length+(if ([]:List Keyword).isEmpty then 0 else 1)<30))=true
 line:(apos.endLine == cpos.line)=true
 trees:backTo cpos (starEach [e,f] X.env)=[(false,eval e X.env),(false,eval f X.env)]
def IsD (H:Hp)(a:Addr):Prop:=(∃kvs,Rd H a (.dK kvs))\/∃kvs,Rd H a (.dT kvs)
theorem isD_at {X:Cx}{pins:List (Addr×Obj)}{σ:St}{H:Hp}{s:Shared}{a:Addr}(I:Inv X pins σ H s)(d:IsD H a) :
  s.TypeIs (.ref a) "dict"/\(∀b,Value.ref a=.ref b->∃ob,s.heap.get? b=some ob/\ob.dict=none)/\(a == sysModules)=false:=by
 rcases d with⟨kvs,e⟩|⟨kvs,e⟩
 ·obtain⟨_,hd,vs,_,dd⟩:=dk_rd I.hok e;refine⟨dd.typeIs,λb q=>?_,hd⟩;cases q;obtain⟨ob,_,_,h1,h2,_⟩:=dd;exact⟨ob,h1,h2.2.1⟩
 ·obtain⟨_,hd,xs,_,dd⟩:=dt_rd I.hok e;refine⟨dd.typeIs,λb q=>?_,hd⟩;cases q;obtain⟨ob,_,_,h1,h2,_⟩:=dd;exact⟨ob,h1,h2.2.1⟩
section
variable {X:Cx}{pins:List (Addr×Obj)}{σ:St}{H:Hp}{s:Shared}{a:Addr}{y d:V}{u r:Value}{o:Option V}{A:Around}{E:Value->Shared->Prop}
theorem d_get2 {Q:Value->Shared->Prop}(hu:A.units+1<cLine)(I:Inv X pins σ H s)(g:DGet H a y o)(ry:RelV y u)(rd:RelV d r)(h:∀w' s',Inv X pins σ H s' -> RelV (o.getD d) w' -> Q w' s') :
  wpAny (model X.prog X.w) A (call (.builtin "dict.get") [.ref a,u,r]) Q E s:=by
 rcases g with⟨kvs,k,e,ey,l⟩|⟨kvs,k,b,e,ey,eb,l⟩
 ·subst ey;obtain⟨z,hd,vs,rel,dd⟩:=dk_rd I.hok e;refine call_meetsIn dC dd.typeIs eY (eJ _ _ _) (meets_dict_get_default (mixKind X.prog X.w) a (kV_is ry) hd r) ⟨_,dd.mapOf,h _ _ (I.tok _) ?_⟩;rw[l];exact(rel.val k).getD rd
 ·subst ey;cases (show u=Value.ref b from ry);obtain⟨z,hd,xs,rel,dd⟩:=dt_rd I.hok e;refine call_meetsIn dC dd.typeIs eY (eJ _ _ _) (meetsH_dict_get_default (tupleKind (mixKind X.prog X.w)) a b hd r) ⟨d8 hu,k,xs,key_of I.hok eb,dd,h _ _ (I.tok _) ?_⟩;rw[l];exact(rel.val k).getD rd
end
def tDGet2 (td ty tx:TE):TE:=λσ H Q=>td σ H λx H1=>∃a,x=.ref a/\IsD H1 a/\ty σ H1 λy H2=>tx σ H2 λz H3=>∃o,DGet H3 a y o/\Q (o.getD z) H3
section
variable {X:Cx}{o e f:Expr}{apos cpos:Pos}{td ty tx:TE}
theorem pe_dget2 (hu:X.A.units+1<cLine)(ho:PE X o td)(he:PE X e ty)(hf:PE X f tx)(m:M2 X o "get" apos e f cpos):PE X (.Call (.Attribute o "get" apos) [e,f] [] cpos) (tDGet2 td ty tx):=by
 intro pins s σ H Q I h;refine wpAny_Call_method m.base m.few m.line PySem.F.plainAttrs_dict dC PySem.F.type_dict_get (thn (ho pins s σ H _ I h) λu s1 ⟨x,H1,I1,rx,a,ex,d,q1⟩=>?_);subst ex;obtain rfl:u=Value.ref a:=rx;obtain⟨t1,t2,_⟩:=isD_at I1 d;refine⟨t1,t2,?_⟩;rw[m.trees];refine dn rfl (dL (dZ (thn (he pins s1 σ H1 _ I1 q1) λiv s2 ⟨y,H2,I2,ry,q2⟩=>
  dZ (thn (hf pins s2 σ H2 _ I2 q2) λfv s3 ⟨z,H3,I3,rz,ov,g,q3⟩=>Calls.spliced_nil ?_))))
 exact d_get2 hu I3 g ry rz λw' s4 I4 rw'=>⟨_,H3,I4,rw',q3⟩
end
end L2
namespace L3
open L2
def qO (Z:En)(i:Nat):List (Int×Int):=match Z[i]? with
 |some (.od kvs)=>kvs
 |_=>[]
def Lw (Z:En)(i:Nat):Prop:=Z[i]?=some (.od (qO Z i))
def iw (kvs:List (Int×Int))(k:Int):Option Int:=(kvs.find? λq=>decide (q.1=k)).map (·.2)
def uo (kvs:List (Int×Int))(k v:Int):List (Int×Int):=if kvs.any (λq=>decide (q.1=k)) then kvs.map λq=>if q.1=k then(k,v) else q else kvs++[(k,v)]
section
variable {K:Fg}{G:Gx}{B:Bs}{σ:L2.St}{H H':Hp}{Z:En}{O:Addr->Bool}{i:Nat}{a:Addr}
theorem Rep.newD (R:Rep K G B σ H Z O)(kvs:List (Int×Int))(ha:H a=none):Rep K G B (σ.set i (some (.ref a))) (upd H a (encD kvs)) (Z.set i (.od kvs)) (hide a O):=by
 have s:Same H (upd H a (encD kvs)):=same_new ha _;have ho:=R.same.free ha;refine⟨R.same.trans s,R.cd,λb z=>je b (R.hid b z),λb z y=>?_,λb z=>?_,λj q e=>?_,λj q e=>?_,λj k q r b e1 e2 e3 e4=>?_,by rw[aT,aT];exact R.len,λj xs ys e=>?_,λj q e=>?_,λj kvs' e=>?_,λj k q r b e1 e2 e3 e4=>?_⟩
 ·by_cases c:b=a
  ·subst c;rw[upd_same]at y;cases y
  ·rw[hide_ne c]at z;rw[upd_ne c]at y;exact R.dom b z y
 ·by_cases c:b=a
  ·subst c;exact .inr ho
  ·rw[hide_ne c]at z;exact R.vis b z
 ·rcases gA e with⟨rfl,e,l⟩|⟨n,e⟩
  ·cases e
  ·obtain⟨v,e1,e2⟩:=R.fr j q e;exact⟨v,by rw[gO n];exact e1,At.mono (jX s ha) _ _ e2⟩
 ·rcases gA e with⟨rfl,e,l⟩|⟨n,e⟩
  ·cases e
  ·obtain⟨b,us,e1,e2,e3,e4,e5⟩:=R.ow j q e;exact⟨b,us,by rw[gO n];exact e1,je b e2,e3,s _ _ e4,e5.mono (jX s ha)⟩
 ·rcases gA e1 with⟨rfl,e,l⟩|⟨n,e⟩
  ·cases e
  ·rcases gA e2 with⟨rfl,e',l'⟩|⟨n',e'⟩
   ·cases e'
   ·rw[gO n]at e3;rw[gO n']at e4;exact R.inj j k q r b e e' e3 e4
 ·rcases gA e with⟨rfl,e,l⟩|⟨n,e⟩
  ·cases e
  ·obtain⟨D,a1,b1,q⟩:=R.o2 j xs ys e;refine⟨D,a1,b1,by rw[gO n];exact q.at_,je _ q.oD,je _ q.oa,je _ q.ob,q.nD,q.na,q.nb,s _ _ q.hD,s _ _ q.ha,s _ _ q.hb,q.ab,λk r c e1 e2=>?_,λk xs' ys' e1=>?_⟩
   ·rcases gA e1 with⟨_,e',_⟩|⟨n',e'⟩
    ·cases e'
    ·rw[gO n']at e2;exact q.un k r c e' e2
   ·rcases gA e1 with⟨_,e',_⟩|⟨n',e'⟩
    ·cases e'
    ·exact q.one k xs' ys' e'
 ·rcases gA e with⟨rfl,e,l⟩|⟨n,e⟩
  ·cases e
  ·obtain⟨v,e1,e2⟩:=R.rd j q e;exact⟨v,by rw[gO n];exact e1,At.mono ((jX s ha).trans (mH yt)) _ _ e2⟩
 ·rcases gA e with⟨rfl,e,l⟩|⟨n,e⟩
  ·cases e;exact⟨a,mW (by rw[R.len];exact l),hide_self,ho,upd_same⟩
  ·obtain⟨b,e1,e2,e3,e4⟩:=R.od j kvs' e;exact⟨b,by rw[gO n];exact e1,je b e2,e3,s _ _ e4⟩
 ·have old:∀(m:Nat) q,Z[m]?=some (.od q)->σ[m]?=some (some (.ref a))->False:=λm q e z=>by obtain⟨b,e1,_,_,e4⟩:=R.od m q e;rw[z]at e1;cases e1;rw[ha]at e4;cases e4
  rcases gA e1 with⟨rfl,e,l⟩|⟨n,e⟩
  ·rcases gA e2 with⟨rfl,e',l'⟩|⟨n',e'⟩
   ·rfl
   ·rw[mW (by rw[R.len];exact l)]at e3;cases e3;rw[gO n']at e4;exact(old k r e' e4).elim
  ·rcases gA e2 with⟨rfl,e',l'⟩|⟨n',e'⟩
   ·rw[mW (by rw[R.len];exact l')]at e4;cases e4;rw[gO n]at e3;exact(old j q e e3).elim
   ·rw[gO n]at e3;rw[gO n']at e4;exact R.oi j k q r b e e' e3 e4
theorem Rep.Jy (R:Rep K G B σ H Z O){kvs kvs':List (Int×Int)}(e:Z[i]?=some (.od kvs))(ea:σ[i]?=some (some (.ref a))):Rep K G B σ (upd H a (encD kvs')) (Z.set i (.od kvs')) O:=by
 obtain⟨a',e1,e2,e3,e4⟩:=R.od i kvs e;rw[ea]at e1;cases e1;have hl:i<Z.length:=(aD.mp e).1;refine⟨λb o z=>?_,R.cd,R.hid,λb z y=>?_,R.vis,λj q ej=>?_,λj q ej=>?_,λj k q r b j1 j2 j3 j4=>?_,by rw[aT];exact R.len,λj xs ys ej=>?_,λj q ej=>?_,λj q ej=>?_,λj k q r b j1 j2 j3 j4=>?_⟩
 ·rw[upd_ne (ne_of_none z e3)];exact R.same b o z
 ·by_cases c:b=a
  ·subst c;rw[upd_same]at y;cases y
  ·rw[upd_ne c]at y;exact R.dom b z y
 ·rw[nQ e2];rcases gA ej with⟨_,e',_⟩|⟨_,e'⟩
  ·cases e'
  ·exact R.fr j q e'
 ·rw[nQ e2];rcases gA ej with⟨rfl,e',_⟩|⟨n,e'⟩
  ·cases e'
  ·obtain⟨b,ws,f1,f2,f3,f4,f5⟩:=R.ow j q e';refine⟨b,ws,f1,f2,f3,?_,f5⟩;rw[upd_ne]
   ·exact f4
   ·intro z;subst z;rw[e4]at f4;cases f4
 ·rcases gA j1 with⟨_,e',_⟩|⟨_,y1⟩
  ·cases e'
  ·rcases gA j2 with⟨_,e',_⟩|⟨_,y2⟩
   ·cases e'
   ·exact R.inj j k q r b y1 y2 j3 j4
 ·rcases gA ej with⟨rfl,e',_⟩|⟨n,e'⟩
  ·cases e'
  ·obtain⟨D,a1,b1,q⟩:=R.o2 j xs ys e';have nd:∀{c:Addr} {us:List V},H c=some (.lst us)->c≠a:=λh z=>by subst z;rw[e4]at h;cases h
   refine⟨D,a1,b1,q.at_,q.oD,q.oa,q.ob,q.nD,q.na,q.nb,by rw[upd_ne (nd q.hD)];exact q.hD,by rw[upd_ne (nd q.ha)];exact q.ha,by rw[upd_ne (nd q.hb)];exact q.hb,q.ab,λk r c e1 e2=>?_,λk xs' ys' e1=>?_⟩
   ·rcases gA e1 with⟨_,e',_⟩|⟨_,e1⟩
    ·cases e'
    ·exact q.un k r c e1 e2
   ·rcases gA e1 with⟨_,e',_⟩|⟨n',e'⟩
    ·cases e'
    ·exact q.one k xs' ys' e'
 ·rw[nQ (BK R.cd e2 e3)];rcases gA ej with⟨_,e',_⟩|⟨_,e'⟩
  ·cases e'
  ·exact R.rd j q e'
 ·rcases gA ej with⟨rfl,e',_⟩|⟨n,e'⟩
  ·cases e';exact⟨a,ea,e2,e3,upd_same⟩
  ·obtain⟨b,f1,f2,f3,f4⟩:=R.od j q e';refine⟨b,f1,f2,f3,?_⟩;rw[upd_ne]
   ·exact f4
   ·intro z;subst z;exact n (R.oi i j kvs q b e e' ea f1)
 ·have back:∀(m:Nat) q,(Z.set i (.od kvs'))[m]?=some (.od q)->∃q',Z[m]?=some (.od q'):=λm q z=>by
   rcases gA z with⟨rfl,_,_⟩|⟨_,z⟩
   ·exact⟨kvs,e⟩
   ·exact⟨q,z⟩
  obtain⟨q',y1⟩:=back j q j1;obtain⟨r',y2⟩:=back k r j2;exact R.oi j k q' r' b y1 y2 j3 j4
end
end L3
namespace L2
section
variable {X:Cx}{pins:List (Addr×Obj)}{σ:St}{H:Hp}{s:Shared}{a:Addr}{kvs:List (Key×V)}{o:Obj}
theorem Inv.QD (I:Inv X pins σ H s)(e:H a=some (.dK kvs)):∃o,s.heap.get? a=some o/\Inv X pins σ (upd H a (.frz o (.dK kvs))) s:=by
 have ok:=I.hok a _ e;obtain⟨_,_,vs,_,o,es,ep,ho,_⟩:=id ok;refine⟨o,ho,?_⟩;have nn:∀{b:Addr},H b=none->b≠a:=λq z=>by rw[z,e]at q;cases q
 have ne:∀{b:Addr} {u:HO},H b=some u->(∀l,u ≠ .dK l)->b≠a:=λq n z=>by rw[z,e]at q;exact n _ (aw q).symm
 refine⟨I.ok,I.os,I.bare,⟨I.base.keep,I.base.slot,λb ob q n x=>?_,I.base.there,λb xs q=>?_,λb ob u q=>?_,λb ps q=>?_⟩,I.loc,I.cell,by rw[upd_ne (nn I.free)];exact I.free,λx c q=>?_,λp hp=>?_,λb u q=>?_,I.len⟩
 ·have z:=I.base.free b ob q n x;rw[upd_ne (nn z)];exact z
 ·have z:=I.base.tups b xs q;rw[upd_ne (ne z λ_ y=>by cases y)];exact z
 ·have z:=I.base.frzs b ob u q;rw[upd_ne (ne z λ_ y=>by cases y)];exact z
 ·obtain⟨m,z⟩:=I.base.tbls b ps q;exact⟨m,by rw[upd_ne (ne z λ_ y=>by cases y)];exact z⟩
 ·have z:=I.freeC x c q;rw[upd_ne (nn z)];exact z
 ·obtain⟨a1,a2,a3⟩:=I.pin p hp;exact⟨a1,by rw[upd_ne (nn a2)];exact a2,a3⟩
 ·by_cases c:b=a
  ·subst c;rw[upd_same]at q;cases q;exact⟨ho,ok⟩
  ·rw[upd_ne c]at q;exact(I.hok b u q).stay (λ_ _ _ q=>q) (λd q=>by rw[upd_ne (ne q λ_ y=>by cases y)];exact q) (λd xs q=>by rw[upd_ne (ne q λ_ y=>by cases y)];exact q) λd _ _ q=>by rw[upd_ne (ne q λ_ y=>by cases y)];exact q
def PJ (o:Obj):Nat:=match o.data with
 | .dict _ ep=>ep
 |_=>0
theorem rE (I:Inv X pins σ H s)(e:H a=some (.frz o (.dK kvs))):(a == sysModules)=false/\kvs.length<=sizeLine/\∃vs,KV kvs vs/\Heap.DictAt (mixKind X.prog X.w) s.heap a vs (PJ o):=by
 obtain⟨ho,z,hd,vs,rel,o',es,ep,ho',r1,r2,r3⟩:=I.hok a _ e;rw[ho]at ho';cases ho';have q:PJ o=ep:=by unfold PJ;rw[r2]
 exact⟨hd,z,vs,rel,o,es,ho,r1,by rw[q];exact r2,r3⟩
theorem Ak {k:Key}{v:Value}(h:keyIs k v=true):RelV (kV k) v:=by
 rcases keyIs_shape h with⟨i,t,rfl,rfl⟩|⟨x,t,rfl,rfl⟩
 ·exact⟨t,rfl⟩
 ·exact⟨t,rfl⟩
theorem Kl {vs:List (Key×Value)}(r:KV kvs vs){i:Nat}(h:i<kvs.length):∃q v,kvs[i]?=some q/\vs[i]?=some (q.1,v):=by
 have hl:=r.length;refine⟨kvs[i],(vs[i]'(by lia)).2,aB h,?_⟩;rw[aB (show i<vs.length by lia)];have e:(kvs.map (·.1))[i]?=(vs.map (·.1))[i]?:=by rw[r.keys]
 rw[au,au,aB h,aB (show i<vs.length by lia)]at e;have e:kvs[i].1=(vs[i]'(by lia)).1:=aw e;rw[e]
end
def Oh (a:Addr)(o:Obj)(kvs:List (Key×V)):It:=
 ⟨λi H=>H a=some (.frz o (.dK kvs))/\i<kvs.length,λi H x H'=>H'=H/\∃q,kvs[i]?=some q/\x=kV q.1,λi H=>H a=some (.frz o (.dK kvs))/\kvs.length<=i⟩
theorem CK {P:Program}{w:World}{K:Fg}{tg:Expr}(a it:Addr)(o:Obj)(kvs:List (Key×V)):Turn P w K tg (Oh a o kvs) [it] it (λi h=>h.IsKeyIter it a i kvs.length (PJ o)) where
 mem:=by simp
 obj:=λi h st b hb=>by
  have e:b=it:=by simpa using hb
  subst e;obtain⟨o,e,c,d⟩:=st;exact⟨o,e,λv z=>by rw[d]at z;cases z⟩
 keep:=λi h h' st k=>by obtain⟨o,e,r⟩:=st;exact⟨o,k it (by simp) o e,r⟩
 item:=by intro X hP hw hK hc i pins s σ H E I hf st hg;subst hP hw hK;obtain⟨e,hi⟩:=hg;obtain⟨_,_,vs,rel,dd⟩:=rE I e;have hl:=rel.length;rw[hl]at st;obtain⟨q,v,eq,ev⟩:=Kl rel hi;obtain⟨f0,f1,f2,f3,f4,f5⟩:=hf it (by simp);refine wpAny_pyNext_dict_item st dd ev λkey h' hk st' sb=>?_;have I1:Inv X pins σ H { s with heap:=h' }:=I.turned (t':=s.toks) (λb o hb e=>(sb.2 b hb).trans e) f0 f1 f3 f4 f5;obtain⟨o',e',c',d'⟩:=id st';exact⟨key,rfl,go_of (s:={ s with heap:=h' }) e' c' d' (by decide) ⟨kV q.1,H,I1,Ak hk,⟨rfl,q,eq,rfl⟩,by rw[hl];exact st',λb hb=>(hf b hb).1⟩⟩
 done:=by intro X hP hw hK hc i pins s σ H E I hf st hg;subst hP hw hK;obtain⟨e,hi⟩:=hg;obtain⟨_,_,vs,rel,dd⟩:=rE I e;have hl:=rel.length;rw[hl]at st;obtain⟨f0,f1,f2,f3,f4,f5⟩:=hf it (by simp);exact wpAny_pyNext_dict_end (I.ok.hd hc) st dd (cL (by lia)) λh' eb=>⟨rfl,I.turned (t':=s.toks) (λb o hb e=>eb b o hb e) f0 f1 f3 f4 f5⟩
 self:=λA i s Q E st h=>by refine wpAny_pyIter_slot st.typeIs c9 (wpAny_call_entry c9 st.typeIs PySem.F.entry_dict_keyiterator_iter ?_ (PySem.F.args_dict_keyiterator_iter_1 _));unfold Builtin.«dict_keyiterator.__iter__»;exact aV ⟨_,rfl,_,_,st.typeIs,PySem.F.slot_dict_keyiterator_next.lookup,h⟩
def OJ (tl:TE):TI:=λσ H R=>tl σ H λx H1=>∃a o kvs,x=.ref a/\H1 a=some (.frz o (.dK kvs))/\R (Oh a o kvs) H1
theorem Jw {X:Cx}{tg l:Expr}{tl:TE}(hl:PE X l tl):PI X tg l (OJ tl):=by
 intro pins s σ H R I h;refine thn (hl pins s σ H _ I h) λv s1 ⟨x,H1,I1,r1,q1⟩=>?_;obtain⟨a,o,kvs,e,hq,q⟩:=q1;subst e;cases r1;obtain⟨hd,_,vs,rel,dd⟩:=rE I1 hq;refine wpAny_pyIter_dict hd dd ?_;refine⟨s1.heap.objs.size,[s1.heap.objs.size],_,_,H1,rfl,I1.kept (t':=s1.toks) λb o e=>ah _ e,CK a _ o kvs,?_,λb hb=>?_,q⟩
 ·rw[rel.length];exact⟨_,aP _ rfl,rfl,rfl⟩
 have e:b=s1.heap.objs.size:=by simpa using hb
 subst e;exact I1.fpOk (aj _) (I1.hok.fresh (aj _))
theorem DW {a:Addr}{o:Obj}{kvs:List (Key×V)}{g:TG}{tb:TS}{D:Ends}{σ:St}{H:Hp}(Pv:Nat->St->Hp->Prop)(h0:Pv 0 σ H)(hl:∀i σ H,Pv i σ H->H a=some (.frz o (.dK kvs)))
  (hs:∀i q σ H,kvs[i]?=some q->Pv i σ H->g (kV q.1) σ H λσ2 H2=>tb { D with nx:=Pv (i+1),ct:=Pv (i+1),bk:=D.nx } σ2 H2) (hd:∀σ H,Pv kvs.length σ H->D.nx σ H) :
  ∃W:Nat->Nat->St->Hp->Prop,(∃m,W 0 m σ H)/\∀i m σ H,W i m σ H ->
   ((Oh a o kvs).stop i H/\D.nx σ H)\/((Oh a o kvs).go i H/\∃N:St->Hp->Prop,(∀σ' H',N σ' H' -> ∃m',m'<m/\W (i+1) m' σ' H')/\∀x H',(Oh a o kvs).yld i H x H' -> g x σ H' λσ2 H2=>tb { D with nx:=N,ct:=N,bk:=D.nx } σ2 H2):=by
 refine⟨λi m σ H=>m=kvs.length-i/\i<=kvs.length/\Pv i σ H,⟨kvs.length,by simp,be _,h0⟩,?_⟩;rintro i m σ H ⟨rfl,hi,p⟩;have q:=hl i σ H p;by_cases hlt:i<kvs.length
 ·refine .inr ⟨⟨q,hlt⟩,Pv (i+1),λσ' H' p'=>⟨kvs.length-(i+1),by lia,rfl,hlt,p'⟩,λx H' y=>?_⟩;obtain⟨e,z,ez,ex⟩:=y;subst e ex;exact hs i z σ _ ez p
 ·have e:i=kvs.length:=by lia
  subst e;exact .inl ⟨⟨q,aj _⟩,hd σ H p⟩
end L2
namespace L3
open L2
def JH (n:Int):Nat:=if 0<=n then 2*n.toNat else 2*(-n).toNat-1
theorem zX {a b:Int}(h:JH a=JH b):a=b:=by unfold JH at h;split at h<;>split at h<;>lia
def Ai (a b:Nat):Nat:=2^a*(2*b+1)
theorem wy:∀{a b c d:Nat},Ai a b=Ai c d->a=c/\b=d
 |0,b,0,d,h=>by unfold Ai at h;lia
 |0,b,c+1,d,h=>by unfold Ai at h;rw[cp,bN (2^c) 2,cV]at h;lia
 |a+1,b,0,d,h=>by unfold Ai at h;rw[cp,bN (2^a) 2,cV]at h;lia
 |a+1,b,c+1,d,h=>by unfold Ai at h;rw[cp,cp,bN (2^a) 2,bN (2^c) 2,cV,cV]at h;have:=wy (a:=a) (b:=b) (c:=c) (d:=d) (by unfold Ai;lia);exact⟨by lia,this.2⟩
theorem Ag (a b:Nat):0<Ai a b:=Nat.mul_pos (dy (by decide)) (by lia)
def Dl:List (Int×Int)->Nat
 |[]=>0
 |q::l=>Ai (JH q.1) (Ai (JH q.2) (Dl l))
theorem vp:∀{l m:List (Int×Int)},Dl l=Dl m->l=m
 |[],[],_=>rfl
 |[],q::m,h=>by have:=Ag (JH q.1) (Ai (JH q.2) (Dl m));have h:0=Ai _ _:=h;lia
 |q::l,[],h=>by have:=Ag (JH q.1) (Ai (JH q.2) (Dl l));have h:Ai _ _=0:=h;lia
 |q::l,r::m,h=>by obtain⟨h1,h2⟩:=wy h;obtain⟨h3,h4⟩:=wy h2;rw[vp h4,Prod.ext (zX h1) (zX h3)]
def lJ (kvs:List (Int×Int)):PV:=.ob 2 ((Dl kvs:Nat):Int)
open Classical in
def sU:PV->List (Int×Int)
 | .ob 2 z=>if h:∃l,((Dl l:Nat):Int)=z then h.choose else[]
 |_=>[]
open Classical in
theorem lF (kvs:List (Int×Int)):sU (lJ kvs)=kvs:=by have h:∃l,((Dl l:Nat):Int)=((Dl kvs:Nat):Int):=⟨kvs,rfl⟩;have e:sU (lJ kvs)=h.choose:=gf h;rw[e];exact vp (by have:=h.choose_spec;lia)
def QT (H:Hp)(a:Addr)(z:Int):Prop:=∃o kvs,((Dl kvs:Nat):Int)=z/\H a=some (.frz o (encD kvs))
class QK (G:Gx):Prop where
 into:∀H a z,QT H a z->G.ob 2 H a z
 get:∀H a z,G.ob 2 H a z->QT H a z
def QB (KA:Hp->Addr->Int->Prop)(mono:∀{H H':Hp} {a:Addr} {z:Int},KA H a z->Same H H' -> KA H' a z):Gx:=
 ⟨λk H a z=>(k=0/\KA H a z)\/(k≠0/\((k=1/\∃C:Addr,z=((C:Nat):Int)/\H a=some (uw a (.ref C)))\/(k=2/\QT H a z))),λ_ _ _ _ _ s h=>h.elim (λz=>.inl ⟨z.1,mono z.2 s⟩) λz=>.inr ⟨z.1,z.2.elim (λz=>.inl ⟨z.1,let ⟨C,e,q⟩:=z.2;⟨C,e,s _ _ q⟩⟩) λ⟨e,o,kvs,c,q⟩=>.inr ⟨e,o,kvs,c,s _ _ q⟩⟩⟩
theorem jC {KA:Hp->Addr->Int->Prop}{mono:∀{H H':Hp} {a:Addr} {z:Int},KA H a z->Same H H' -> KA H' a z}:Ie (QB KA mono):=by
 refine⟨λH a C h=>.inr ⟨by decide,.inl ⟨rfl,C,rfl,h⟩⟩,λH a z h=>?_⟩;rcases h with⟨h,_⟩|⟨_,⟨_,h⟩|⟨h,_⟩⟩
 ·exact absurd h (by decide)
 ·exact h
 ·exact absurd h (by decide)
instance {KA:Hp->Addr->Int->Prop}{mono:∀{H H':Hp} {a:Addr} {z:Int},KA H a z->Same H H' -> KA H' a z}:QK (QB KA mono):=by
 refine⟨λH a z h=>.inr ⟨by decide,.inr ⟨rfl,h⟩⟩,λH a z h=>?_⟩;rcases h with⟨h,_⟩|⟨_,⟨h,_⟩|⟨_,h⟩⟩
 ·exact absurd h (by decide)
 ·exact absurd h (by decide)
 ·exact h
theorem vI {K:Fg}{G:Gx}[gn:QK G]{H:Hp}{kvs:List (Int×Int)}{v:V}(h:At K G H (lJ kvs) v):∃a o,v=.ref a/\H a=some (.frz o (encD kvs)):=by obtain⟨a,rfl,h⟩:=h;obtain⟨o,l,c,q⟩:=gn.get _ _ _ h;rw[vp (show Dl l=Dl kvs by lia)]at q;exact⟨a,o,rfl,q⟩
theorem pP (kvs:List (Int×Int)):(kvs.map λq=>((Sum.inl q.1,V.int q.2):Key×V)).length=kvs.length:=aa _
theorem wz (k:Int):∀kvs:List (Int×Int),valV (kvs.map λq=>((Sum.inl q.1,V.int q.2):Key×V)) (Sum.inl k)=(iw kvs k).map V.int
 |[]=>rfl
 |q::l=>by
  rw[aA];by_cases e:q.1=k
  ·rw[valV_pos (by show(Sum.inl q.1:Key)=_;rw[e])];simp[iw,bI,e]
  ·rw[valV_neg (λz=>e (fI z)),wz k l];simp[iw,bI,e]
theorem JQ (k v:Int)(kvs:List (Int×Int)):putK (kvs.map λq=>((Sum.inl q.1,V.int q.2):Key×V)) (Sum.inl k) (.int v)=(uo kvs k v).map λq=>((Sum.inl q.1,V.int q.2):Key×V):=by
 have an:((kvs.map λq=>((Sum.inl q.1,V.int q.2):Key×V)).any λkv=>decide (kv.1=Sum.inl k))=kvs.any λq=>decide (q.1=k):=by rw[List.any_map];refine congrArg (λf=>kvs.any f) (funext λq=>?_);show decide ((Sum.inl q.1:Key)=Sum.inl k)=_;exact decide_eq_decide.mpr ⟨λz=>fI z,λz=>by rw[z]⟩
 unfold putK uo;rw[an];by_cases c:(kvs.any λq=>decide (q.1=k))=true
 ·rw[ae c,ae c,d7,d7];refine fO λq _=>?_;show(if (Sum.inl q.1:Key)=Sum.inl k then _ else _)=(λq=>((Sum.inl q.1,V.int q.2):Key×V)) (if q.1=k then(k,v) else q);by_cases e:q.1=k
  ·rw[ae (by rw[e]),ae e];show(Sum.inl q.1,V.int v)=(Sum.inl k,V.int v);rw[e]
  ·rw[af (λz=>e (fI z)),af e]
 ·rw[af c,af c,bF];rfl
def iQ (ns:List Int):List Int:=ns.mergeSort λa b=>decide (a<=b)
theorem lA (ns:Li):(iQ ns).Perm ns:=List.mergeSort_perm _ _
theorem Fb (ns:Li):(iQ ns).Pairwise (λa b=>a<=b):=(List.pairwise_mergeSort (le:=λa b:Int=>decide (a<=b)) (λa b c h k=>aM (Int.le_trans (cU h) (cU k))) (λa b=>by rcases Int.le_total a b with h|h<;>simp[h]) ns).imp λh=>cU h
theorem DY {ns ms:Li}(p:ms.Perm ns)(s:ms.Pairwise (λa b=>a<=b)):ms=iQ ns:=List.Perm.eq_of_pairwise (λ_ _ _ _ h k=>Int.le_antisymm h k) s (Fb ns) (p.trans (lA ns).symm)
theorem Ao:∀{l:Lv} {ns:Li},l.length=ns.length->(∀(j:Nat) v,l[j]?=some v->∃n t,ns[j]?=some n/\v=.int n t)->IntsAre l ns
 |[],[],_,_=>.nil
 |[],_::_,h,_=>by cases h
 |_::_,[],h,_=>by cases h
 |v::l,n::ns,h,k=>by obtain⟨m,t,e,rfl⟩:=k 0 v rfl;cases e;exact .cons n t (Ao (by simpa using h) λj v e=>k (j+1) v e)
theorem zE {X:Cx}(hc:X.calm=true):CallR X (.builtin "sorted") (λxs H Q=>∃(a:Addr) (o:Obj) (kvs:List (Int×Int)),xs=[.ref a]/\H a=some (.frz o (encD kvs))/\kvs.length<64/\∀D,H D=none->Q (.ref D) (upd H D (.lst ((iQ (kvs.map (·.1))).map V.int)))):=by
 intro pins s σ H xs us Q I r h;obtain⟨a,o,kvs,rfl,e,l64,q⟩:=h;obtain⟨u,rfl,rx⟩:=vals1 r;cases rx;obtain⟨hd,_,vs,rel,dd⟩:=rE I e;have vl:vs.length=kvs.length:=by rw[<- rel.length,pP]
 refine call_function_entry_kw kind_sorted plain_sorted entry_sorted (args_sorted1 _) ?_;unfold Builtin.«sorted»;refine ak (m:=checkCount "sorted" 1 1 _) (aV (ak (W.kdu_collect (W.kdl_dict hd) (I.ok.hd hc) dd (by rw[dR];lia) λh1 tk acc kp it=>?_)));have al:acc.toList.length=kvs.length:=by have:=it.1;rw[dP];lia
 have small:acc.toList.length<=sizeLine:=by rw[dR];lia
 have ia:IntsAre acc.toList (kvs.map (·.1)):=Ao (by rw[aa];exact al) λj v ev=>by
  obtain⟨k,x,ek,hk⟩:=it.2 j v (by rw[<- fk];exact ev);have jl:j<(kvs.map λq=>((Sum.inl q.1,V.int q.2):Key×V)).length:=by have:=(aD.mp ev).1;rw[pP];lia
  obtain⟨z,y,e1,e2⟩:=Kl rel jl;rw[ek]at e2;cases e2;rw[au]at e1;cases en:kvs[j]? with
  |none=>rw[en]at e1;cases e1
  |some n=>rw[en]at e1;cases e1;obtain⟨t,rfl⟩:∃t,v=Value.int n.1 t:=Ak (k:=Sum.inl n.1) hk;exact⟨n.1,t,by rw[au,en];rfl,rfl⟩
 refine ak (wpAny_newList ?_ small);have I2:=I.kept (h':=h1) (t':=tk) kp;have hD:(h1.push (seqObj "list" acc.toList.toArray 0)).get? h1.objs.size=some (seqObj "list" acc.toList.toArray 0):=aP _ rfl;have HD:H h1.objs.size=none:=I2.hok.fresh (aj _);have fD:=Be.of I2 (aj _);refine ak (cQ (wpAny_call_entry slot_list_sort ⟨_,hD,rfl⟩ entry_list_sort (list_sort_tree hD ia (by lia) λout ns' io pm so=>⟨_,rfl,aV ⟨_,rfl,?_⟩⟩)));have e1:=DY pm so;subst e1;obtain⟨c,eD⟩:=sortedHeap_at (out:=out) hD;have I1:=I.kept (h':=sortedHeap (h1.push (seqObj "list" acc.toList.toArray 0)) h1.objs.size acc.toList out) (t':=tk) λb o eb=>by have lt:=ai (kp b o eb);have e2:=ah (seqObj "list" acc.toList.toArray 0) (kp b o eb);rw[sortedHeap_old (aO lt) (ai e2)];exact e2
 have rv:=vals_ints io;exact⟨.ref h1.objs.size,_,CQ (its:=out.toList) I1 fD HD (by rw[Array.toArray_toList];exact eD) rv (by rw[aa,(lA _).length_eq,aa,dR];lia),rfl,q _ HD⟩
section
variable {X:Cx}{G:Gx}[gn:QK G]{Er:ER}{pos p px pos' apos cpos:Pos}{e ke:Expr}{C Ck Ce:En->Prop}{gk ge:En->Int}{i:Nat}{x:Str}{f:FS}
theorem G3 {i:Nat}{x:Str}(hN:X.N.Nodup)(hi:X.N[i]?=some x)(hx:Loc X.env.scope x)(hs:swapsWith (.Dict [] [] p) (some (.Name x pos')) pos.line X.env=pure false:=by rfl)
  (hf:X.fn x=true\/X.env.scope.names.lookup x=some .local:=by walk_at "w"):PS X (.Assign [.Name x pos'] (.Dict [] [] p) pos) (ts X.K G Er λP Z=>P.nx (Z.set i (.od []))):=
 toS (ps_set hN hi hx pe_dnewK hs hf) λB σ H Z O P D R c w a ha=>w.nx _ _ _ ⟨hide a O,R.newD [] ha⟩ c
theorem JD (i:Nat){x:Str}{n:Int}{kk:Nat}(hr:X.A.units+1<cLine)(hk:PE X ke (jj X.K G Ck gk))(m:M2 X (.Name x px) "get" apos ke (.Constant (.int n) kk p) cpos:=by exact⟨rfl,rfl,rfl,rfl⟩)(hN:X.N[i]?=some x:=by rfl)(hv:Vis X.env.scope x:=by walk_at "v")
  (hd:(x == ("__debug__":Str))=false:=by decide) (hcd:(x == ("__classdict__":Str))=false:=by decide) :
  PE X (.Call (.Attribute (.Name x px) "get" apos) [ke,.Constant (.int n) kk p] [] cpos) (jj X.K G (λZ=>Lw Z i/\Ck Z) λZ=>(iw (qO Z i) (gk Z)).getD n):=
 mY (pe_dget2 hr (pe_var hN hv hd hcd) hk pe_int m) λB σ H Z O Q R c q=>by obtain⟨a,e1,e2,e3,e4⟩:=R.od i _ c.1;refine⟨_,e1,a,rfl,.inl ⟨_,.inl e4⟩,B,Z,O,R,c.2,λv H1 s1 a1=>?_⟩;have a1:v=.int (gk Z):=a1;subst a1;refine⟨_,DGet.k (k:=Sum.inl (gk Z)) (s1 _ _ e4),q _ H1 s1 ?_⟩;rw[wz];show _=V.int ((iw (qO Z i) (gk Z)).getD n);cases iw (qO Z i) (gk Z)<;>rfl
theorem Ds (i:Nat){x:Str}(hr:X.A.units+1<cLine)(hk:PE X ke (jj X.K G Ck gk))(he:PE X e (jj X.K G Ce ge))(hs:swapsWith e (some (.Subscript (.Name x px) ke pos')) pos.line X.env=pure false:=by rfl)(hN:X.N[i]?=some x:=by rfl)(hv:Vis X.env.scope x:=by walk_at "v")
  (hd:(x == ("__debug__":Str))=false:=by decide) (hcd:(x == ("__classdict__":Str))=false:=by decide) :
  PS X (.Assign [.Subscript (.Name x px) ke pos'] e pos) (ts X.K G Er λP Z=>Ce Z/\Lw Z i/\Ck Z/\(qO Z i).length<1000/\P.nx (Z.set i (.od (uo (qO Z i) (gk Z) (ge Z))))):=
 toS (ps_dput hr (pe_var hN hv hd hcd) hk he hs) λB σ H Z O P D R c w=>by obtain⟨c1,c2,c3,c4,c5⟩:=c;refine⟨B,Z,O,R,c1,λv H1 s1 a1=>?_⟩;have a1:v=.int (ge Z):=a1;subst a1;have R1:=R.grow s1;obtain⟨a,e1,e2,e3,e4⟩:=R1.od i _ c2;refine⟨_,e1,B,Z,O,R1,c3,λk H2 s2 a2=>?_⟩;have a2:k=.int (gk Z):=a2;subst a2;refine⟨a,_,rfl,DPut.k (k:=Sum.inl (gk Z)) (s2 _ _ e4) (by rw[pP];exact small1000 (bM c4)),?_⟩;have R2:=(R1.grow s2).Jy (kvs':=uo (qO Z i) (gk Z) (ge Z)) c2 e1;rw[JQ];exact w.nx _ _ _ ⟨O,R2⟩ c5
theorem FW (i:Nat){x:Str}(hN:X.N[i]?=some x:=by rfl)(hv:Vis X.env.scope x:=by walk_at "v")
  (hd:(x == ("__debug__":Str))=false:=by decide) (hcd:(x == ("__classdict__":Str))=false:=by decide):PS X (.Return (some (.Name x px)) pos) (ts X.K G Er λP Z=>Lw Z i/\P.rt (lJ (qO Z i))):=
 λpins s σ H D I ⟨B,Z,P,⟨O,R⟩,c,w⟩=>by
  obtain⟨a,e1,e2,e3,e4⟩:=R.od i _ c.1;obtain⟨o,_,I'⟩:=I.QD e4;refine ps_ret (pe_var hN hv hd hcd) pins s σ _ D I' ⟨_,e1,w.rt _ _ _ (λb u z=>?_) ?_ c.2⟩
  ·rw[upd_ne (ne_of_none z e3)];exact R.same b u z
  ·refine⟨a,rfl,gn.into _ _ _ ⟨o,_,rfl,?_⟩⟩;rw[lB]
   ·exact upd_same
   ·cases z:B.Oc a with
    |false=>rfl
    |true=>exact absurd e3 (R.cd a z)
theorem xJ (i:Nat){x:Str}(hr:X.A.units+1<cLine)(hk:PE X ke (jj X.K G Ck gk))(hs:NoSl ke:=by intro _ _;rfl)(hN:X.N[i]?=some x:=by rfl)(hv:Vis X.env.scope x:=by walk_at "v")
  (hd:(x == ("__debug__":Str))=false:=by decide) (hcd:(x == ("__classdict__":Str))=false:=by decide) :
  PE X (.Subscript (.Name x px) ke pos) (jj X.K G (λZ=>Ck Z/\∃kvs v,Z[i]?=some (.fr (lJ kvs))/\iw kvs (gk Z)=some v) λZ=>(iw (sU (pJ Z i)) (gk Z)).getD 0):=
 mY (pe_dget hr (pe_var hN hv hd hcd) hk hs) λB σ H Z O Q R c q=>by
  obtain⟨c1,kvs,v,c2,c3⟩:=c;obtain⟨u,e1,e2⟩:=R.fr i _ c2;refine⟨u,e1,B,Z,O,R,c1,λk H1 s1 a1=>?_⟩;have a1:k=.int (gk Z):=a1;subst a1;obtain⟨a,o,rfl,e3⟩:=vI e2;have gp:pJ Z i=lJ kvs:=by unfold pJ;rw[c2]
  refine⟨a,_,rfl,.inl ⟨_,Sum.inl (gk Z),.inr ⟨o,s1 _ _ (lU e3).2⟩,rfl,?_⟩,q (.int v) H1 s1 ?_⟩
  ·rw[wz,c3];rfl
  ·show V.int v=V.int ((iw (sU (pJ Z i)) (gk Z)).getD 0);rw[gp,lF,c3];rfl
theorem Hr (i:Nat){x:Str}(hc:X.calm=true)(hm:X.mg "sorted"=none)(hg:Gl X "sorted":=by rfl)(he:starEach [.Name x px] X.env=[(false,eval (.Name x px) X.env)]:=by rfl)(hN:X.N[i]?=some x:=by rfl)(hv:Vis X.env.scope x:=by walk_at "v")
  (hd:(x == ("__debug__":Str))=false:=by decide) (hcd:(x == ("__classdict__":Str))=false:=by decide) :
  PE X (.Call (.Name "sorted" p) [.Name x px] [] pos) (vA X.K G (λZ=>∃kvs,Z[i]?=some (.fr (lJ kvs))/\kvs.length<64) λZ=>iQ ((sU (pJ Z i)).map (·.1))):=
 yc (pe_callB (zE hc) hg hm uN (pa_cons (pe_var hN hv hd hcd) pa_nil he) (by decide) (by decide) he rfl) λB σ H Z O Q R c q=>by
  obtain⟨kvs,c2,l64⟩:=c;obtain⟨u,e1,e2⟩:=R.fr i _ c2;obtain⟨a,o,rfl,e3⟩:=vI e2;have gp:pJ Z i=lJ kvs:=by unfold pJ;rw[c2]
  refine⟨_,e1,a,o,kvs,rfl,(lU e3).2,l64,λD hD=>q D _ (same_new hD _) hD ?_⟩;rw[upd_same];show _=some (HO.lst ((iQ ((sU (pJ Z i)).map (·.1))).map V.int));rw[gp,lF]
theorem CJ (j:Nat){y:Str}{k:Nat}{x:Str}{body:List Stmt}(hp:PassesOwn (model X.prog X.w) X.A X.env X.xe)(hc:X.calm=true)(hN:X.N.Nodup)(hi:X.N[k]?=some x)(hx:Loc X.env.scope x)
  (hb:PSs X body (ts X.K G Er f)) (hfs:∀x,foldedSetIterable (.Name y p) X.env x=pure x:=by intro _;rfl) (hf:X.fn x=true\/X.env.scope.names.lookup x=some .local:=by walk_at "w") (hNy:X.N[j]?=some y:=by rfl) (hv:Vis X.env.scope y:=by walk_at "v")
  (hd:(y == ("__debug__":Str))=false:=by decide) (hcd:(y == ("__classdict__":Str))=false:=by decide) :
  PS X (.For (.Name x px) (.Name y p) body [] pos) (ts X.K G Er λP Z=>∃kvs,Z[j]?=some (.fr (lJ kvs))/\∃W:Nat->En->Prop,W 0 Z/\(∀i n Z',kvs[i]?=some n->W i Z' -> f (P.lp (W (i+1))) (Z'.set k (.fr (.int n.1))))/\∀Z',W kvs.length Z' -> P.nx Z'):=
 toS (ps_for hp hc (Jw (pe_var hNy hv hd hcd)) (pg_name hN hi hx hf) hb hfs) λB σ H Z O P D R c w=>by
  obtain⟨kvs,cj,W,w0,st,nd⟩:=c;obtain⟨u,e1,e2⟩:=R.fr j _ cj;obtain⟨a,o,rfl,e3⟩:=vI e2;have w1:=nM R w;refine⟨_,e1,a,o,_,rfl,(lU e3).2,DW (λi σ H'=>∃Z',qg X.K G (B.at H O) σ H' Z'/\W i Z') ⟨Z,⟨O,R.rebase⟩,w0⟩ ?_ ?_ ?_⟩
  ·rintro i σ H' ⟨Z',⟨O',R'⟩,_⟩;exact((Rep.pX B H O).trans R'.same) _ _ e3
  ·rintro i y σ H' hy ⟨Z',⟨O',R'⟩,hw⟩;rw[au]at hy;cases en:kvs[i]? with
   |none=>rw[en]at hy;cases hy
   |some n=>rw[en]at hy;have hy:((Sum.inl n.1,V.int n.2):Key×V)=y:=aw hy;subst hy;exact⟨_,_,_,⟨O',R'.set (p:=.int n.1) rfl⟩,st i n Z' en hw,⟨λσ' H' Z' R' h=>⟨Z',R',h⟩,w1.rt,w1.rl,w1.rn,w1.nx,λσ' H' Z' R' h=>⟨Z',R',h⟩,w1.er⟩⟩
  ·rintro σ H' ⟨Z',R',hw⟩;rw[pP]at hw;exact w1.nx σ H' Z' R' (nd Z' hw)
end
end L3
end
namespace iU
open PySem L2 L3 PyProof.Rows FM
abbrev oK:Stmt:=top 13
theorem ug:FnScope ["numbers"] ["numbers"] (defScope oK):=qb
abbrev u6:Stmt:=top 14
theorem tW:FnScope ["kind","f","numbers"] ["kind","f"] (defScope u6):=qb
abbrev wZ:Stmt:=top 15
theorem Cj:FnScope ["kind","f","number"] ["kind","f","number"] (defScope wZ):=qb
abbrev z7:Stmt:=top 16
theorem Ei:FnScope ["kind","f"] ["kind","f"] (defScope z7):=qb
abbrev uI:Stmt:=top 17
theorem jh:FnScope ["kind","f","g","rest","divisor","quotient","gap","often","at","number"] ["kind","f","g"] (defScope uI):=qb
abbrev yD:Stmt:=top 19
theorem j8:FnScope ["kind","f","g","before","rest","behind"] ["kind","f","g"] (defScope yD):=qb
abbrev m8:Stmt:=top 20
theorem qp:FnScope ["kind","f"] ["kind","f"] (defScope m8):=qb
abbrev oG:Stmt:=top 21
theorem rP:FnScope ["kind","f"] ["kind","f"] (defScope oG):=qb
abbrev pq:Stmt:=top 23
theorem gR:FnScope ["kind","f","left","pairs","factor","found","g","often"] ["kind","f"] (defScope pq):=qb
abbrev mZ:Stmt:=top 24
theorem gM:FnScope ["kind","f","deeper","layer","pairs","often","next_layer","g"] ["kind","f"] (defScope mZ):=qb
abbrev tK:Stmt:=top 27
theorem nJ:FnScope ["number","divisor"] ["number"] (defScope tK):=qb
abbrev yg:Stmt:=top 28
theorem iH:FnScope ["number","size","before","rest","share_before","share","often","rest_behind","share_behind"] ["number","size"] (defScope yg):=qb
abbrev lH:Stmt:=top 29
theorem oW:FnScope ["number"] ["number"] (defScope lH):=qb
abbrev uH:Stmt:=top 33
theorem zB:FnScope ["_law_script","_law_k"] ["_law_script","_law_k"] (defScope uH):=qb
abbrev Br:Stmt:=top 34
theorem Gu:FnScope ["_law_found"] ["_law_found"] (defScope Br):=qb
abbrev oH:Stmt:=top 35
theorem kW:FnScope ["_law_number","_law_by"] ["_law_number"] (defScope oH):=qb
abbrev ue:Stmt:=top 36
theorem nu:FnScope ["_law_cell","_law_number"] ["_law_cell"] (defScope ue):=qb
abbrev ph:Stmt:=top 37
theorem lQ:FnScope ["_law_row","_law_root","_law_prime","_law_found","_law_k"] ["_law_row","_law_root","_law_prime"] (defScope ph):=qb
abbrev w6:Stmt:=top 38
theorem jJ:FnScope ["_law_script","_law_prime","_law_many","_law_step","_law_start","_law_counts_here","_law_cell","_law_root"] ["_law_script","_law_prime"] (defScope w6):=qb
abbrev Kg:Stmt:=top 39
theorem qu:FnScope ["_law_counts_here","_law_prime","_law_found","_law_often","_law_row","_law_root"] ["_law_counts_here","_law_prime"] (defScope Kg):=qb
abbrev Bo:Stmt:=top 40
theorem w5:FnScope ["_law_found","_law_due_here","_law_one"] ["_law_found","_law_due_here"] (defScope Bo):=qb
abbrev sI:Stmt:=top 41
theorem xP:FnScope ["_law_kept"] ["_law_kept"] (defScope sI):=qb
abbrev vg:Stmt:=top 42
theorem oY:FnScope ["_law_kind","_law_row","_law_kept","e"] ["_law_kind","_law_row"] (defScope vg):=qb
abbrev uC:Stmt:=top 43
theorem jH:FnScope ["_law_script","_law_prime","_law_kind","_law_counts_here","_law_row","_law_root","_law_k","_law_handed","_law_due_here","_law_kept"] ["_law_script"] (defScope uC):=qb
abbrev qR:Stmt:=inClass (top 30) 0
theorem vK:FnScope ["self","size"] ["self","size"] (defScope qR):=qb
abbrev pC:Stmt:=inClass (top 30) 1
theorem uq:FnScope ["self","number"] ["self","number"] (defScope pC):=qb
abbrev qQ:Stmt:=inClass (top 30) 5
theorem wN:FnScope ["self","a","b"] ["self","a","b"] (defScope qQ):=qb
abbrev pR:Stmt:=inClass (top 31) 0
theorem uA:FnScope ["self","prime"] ["self","prime"] (defScope pR):=qb
structure Top (K:Fg)(mg:Mg)(cFE:Addr)(cNN:Addr)(cBA:Addr)(cBL:Addr)(cBP:Addr)(cBT:Addr)(cHP:Addr)(cNW:Addr)(cNP:Addr)(cNO:Addr)(cK:Addr)(cR:Addr):Prop where
 uh:mL K mg "cut_noughts" oK ["numbers"]
 CV:mL K mg "trimmed" u6 ["kind","f"]
 Gg:mL K mg "scaled" wZ ["kind","f","number"]
 IK:mL K mg "slope" z7 ["kind","f"]
 Df:mL K mg "divided" uI ["kind","f","g"]
 Ho:mL K mg "common" yD ["kind","f","g"]
 qU:mL K mg "with_lead_one" m8 ["kind","f"]
 uy:mL K mg "turned_lead" oG ["kind","f"]
 pA:mL K mg "free_parts" pq ["kind","f"]
 qX:mL K mg "seen_by_slope" mZ ["kind","f"]
 zH:mL K mg "is_prime" tK ["number"]
 GX:mL K mg "turned" yg ["number","size"]
 pB:mL K mg "refuse_no_prime" lH ["number"]
 Cm:mL K mg "_law_cell_at" uH ["_law_script","_law_k"]
 Jf:mL K mg "_law_whole" Br ["_law_found"]
 uz:mL K mg "_law_divided" oH ["_law_number"]
 zf:mL K mg "_law_prime_by" ue ["_law_cell"]
 vQ:mL K mg "_law_times_root" ph ["_law_row","_law_root","_law_prime"]
 Es:mL K mg "_law_counts" w6 ["_law_script","_law_prime"]
 Nt:mL K mg "_law_due" Kg ["_law_counts_here","_law_prime"]
 JX:mL K mg "_law_right" Bo ["_law_found","_law_due_here"]
 zm:mL K mg "_law_no_other" sI ["_law_kept"]
 CZ:mL K mg "_law_refused" vg ["_law_kind","_law_row"]
 vD:zK K mg "free_parts"
 jW:mg "len"=none
 rH:mg "range"=none
 gJ:mg "isinstance"=none
 Mr:mg "bool"=none
 Pn:mg "int"=none
 wg:mg "list"=none
 Oj:mg "max"=none
 qN:mg "enumerate"=none
 JS:mg "tuple"=none
 ye:mg "sorted"=none
 Ox:mg "sum"=none
 vG:mg "ValueError"=none
 q8:∃tk,mg "LARGEST_PRIME"=some (.int 9973 tk)
 uT:W.kitOne K (.type "int") (.type "int")=some true
 rR:W.kitOne K (.type "int") (.type "bool")=some false
 lG:W.kitOne K (.type "list") (.type "list")=some true
 oA:W.kitOne K (.type "tuple") (.type "tuple")=some true
 Bj:W.kitOne K (.ref cNN) (.type "ValueError")=some true
 Bv:W.kitOne K (.ref cNN) (.ref cNN)=some true
 qK:W.kitOne K (.ref cNN) (.ref cBA)=some false
 p7:W.kitOne K (.ref cNN) (.ref cBL)=some false
 m6:W.kitOne K (.ref cNN) (.ref cBP)=some false
 pO:W.kitOne K (.ref cNN) (.ref cBT)=some false
 oF:W.kitOne K (.ref cNN) (.ref cHP)=some false
 pG:W.kitOne K (.ref cNN) (.ref cNW)=some false
 p8:W.kitOne K (.ref cNN) (.ref cNP)=some false
 qT:W.kitOne K (.ref cNN) (.ref cNO)=some false
 pQ:mg "ForgeError"=some (.ref cFE)
 tM:mg "Nought"=some (.ref cNN)
 Ep:xU K cNN
 jm:BX K cNN
 xQ:mg "BadAsk"=some (.ref cBA)
 uQ:mg "BadLift"=some (.ref cBL)
 p6:mg "BadProduct"=some (.ref cBP)
 u9:mg "BadText"=some (.ref cBT)
 sW:mg "HasParts"=some (.ref cHP)
 uF:mg "NoPower"=some (.ref cNW)
 uO:mg "NoPrime"=some (.ref cNP)
 tU:mg "NoOver"=some (.ref cNO)
 DX:xU K cNO
 G8:mg "Kind"=some (.ref cK)
 Bq:mg "Rests"=some (.ref cR)
 mq:Cls K cR
 jK:NoAttr K cR "size"
 Qs:W.exmOne K (.ref cNN) (.ref cFE)=some true
 yq:∃f fd,Fun K "__init__" "Kind.__init__" qR f fd/\Binds K fd ["self","size"] []/\Ax K cK "__init__" f
 vR:∃f fd,Fun K "plain" "Kind.plain" pC f fd/\Binds K fd ["self","number"] []/\Meth K cR "plain" f
 yp:∃f fd,Fun K "over" "Kind.over" qQ f fd/\Binds K fd ["self","a","b"] []/\Meth K cR "over" f
 wj:∃f fd,Fun K "__init__" "Rests.__init__" pR f fd/\Binds K fd ["self","prime"] []/\Mk K cR f
section
variable {w:World}{K:Fg}{h:Heap}{mg:Mg}{fa f C:Addr}{od an:Option Addr}{sl:Array (Option Value)}{oc kV dc pm cd ct:Value}{x q:Str}{st:Stmt}{ps:List Str}{cFE:Addr}{cNN:Addr}{cBA:Addr}{cBL:Addr}{cBP:Addr}{cBT:Addr}{cHP:Addr}{cNW:Addr}{cNP:Addr}{cNO:Addr}{cK:Addr}{cR:Addr}
theorem Oq (X:K.In h)(G:h.Ns mainGlobals mg)(a:W.nsIn K mainGlobals x=some (some (.ref f)))(l:K.lookup f=some ⟨oc,od,.func (W.fnOf x x (defArgs st) (defBody st) (defScope st) .none kV dc pm an cd ct),sl⟩)(c:W.codeIn K cd x=true)(k:W.keepIn K (.ref f)=true)(b:∀(kV dc pm:Value) (an:Option Addr) (cd ct:Value) (us:Lv),us.length=ps.length->bindArgs (W.fnOf x x (defArgs st) (defBody st) (defScope st) .none kV dc pm an cd ct) ⟨us,[]⟩=pure (ps.zip us)):mL K mg x st ps:=.mk' (fun_mk l c k) ((fun_mk l c k).binds b) (bg X G a)
theorem O6 {ar:Arguments}{bo:List Stmt}{sc:Scope}{dv:Value}(X:K.In h)(G:h.Ns mainGlobals mg)(a:W.nsIn K mainGlobals x=some (some (.ref f)))(l:K.lookup f=some ⟨oc,od,.func (W.fnOf x x ar bo sc dv kV dc pm an cd ct),sl⟩)(c:yM K cd (x++".<locals>."++"<lambda>")=true):zK K mg x:=⟨f,oc,od,_,sl,bg X G a,l,Cq c⟩
theorem Oa {v:Int}{tk:Tok}(X:K.In h)(G:h.Ns mainGlobals mg)(a:W.nsIn K mainGlobals x=some (some (.int v tk))):∃tk,mg x=some (.int v tk):=⟨_,bg X G a⟩
theorem K7 {C0:Addr}(g0:W.findIn K (.ref C0) x=some (some (.ref f)))(l:K.lookup f=some ⟨oc,od,.func (W.fnOf x q (defArgs st) (defBody st) (defScope st) .none kV dc pm an cd ct),sl⟩)(c:W.codeIn K cd q=true)(k:W.keepIn K (.ref f)=true)(n:W.isFn K (.ref f)=true)(b:∀(kV dc pm:Value) (an:Option Addr) (cd ct:Value) (us:Lv),us.length=ps.length->bindArgs (W.fnOf x q (defArgs st) (defBody st) (defScope st) .none kV dc pm an cd ct) ⟨us,[]⟩=pure (ps.zip us)):∃f fd,Fun K x q st f fd/\Binds K fd ps []/\Meth K C0 x f:=⟨_,_,fun_mk l c k,(fun_mk l c k).binds b,⟨g0,n,k⟩⟩
theorem Nj (g:W.findIn K (.ref C) "__init__"=some (some (.ref f)))(l:K.lookup f=some ⟨oc,od,.func (W.fnOf x q (defArgs st) (defBody st) (defScope st) .none kV dc pm an cd ct),sl⟩)(c:W.codeIn K cd q=true)(k:W.keepIn K (.ref f)=true)(m:W.makesIn K C=true)(n:W.isFn K (.ref f)=true)(kc:W.keepIn K (.ref C)=true)(b:∀(kV dc pm:Value) (an:Option Addr) (cd ct:Value) (us:Lv),us.length=ps.length->bindArgs (W.fnOf x q (defArgs st) (defBody st) (defScope st) .none kV dc pm an cd ct) ⟨us,[]⟩=pure (ps.zip us)):∃f fd,Fun K x q st f fd/\Binds K fd ps []/\Mk K C f:=⟨_,_,fun_mk l c k,(fun_mk l c k).binds b,m,g,n,kc⟩
theorem N8 (g:W.findCls K (.ref C) (.type "type") "__init__"=some (.val (.ref f)))(l:K.lookup f=some ⟨oc,od,.func (W.fnOf x q (defArgs st) (defBody st) (defScope st) .none kV dc pm an cd ct),sl⟩)(c:W.codeIn K cd q=true)(k:W.keepIn K (.ref f)=true)(m:W.specialIn K (.ref C) "__getattribute__"=some (some (.builtin "type.__getattribute__")))(n:W.readsIn K C (.type "type")=true)(b:∀(kV dc pm:Value) (an:Option Addr) (cd ct:Value) (us:Lv),us.length=ps.length->bindArgs (W.fnOf x q (defArgs st) (defBody st) (defScope st) .none kV dc pm an cd ct) ⟨us,[]⟩=pure (ps.zip us)):∃f fd,Fun K x q st f fd/\Binds K fd ps []/\Ax K C "__init__" f:=⟨_,_,fun_mk l c k,(fun_mk l c k).binds b,m,n,g,k⟩
theorem Nk (h:W.findIn K (.ref C) x=some none):NoAttr K C x:=h
theorem Nu (h:W.excIn K C Qw "ValueError.__new__"=true):xU K C:=h
def Rc:Prop:=∀{P:Program} {w:World} {K:Fg} {mg:Mg} {base:Heap} {cFE:Addr} {cNN:Addr} {cBA:Addr} {cBL:Addr} {cBP:Addr} {cBT:Addr} {cHP:Addr} {cNW:Addr} {cNP:Addr} {cNO:Addr} {cK:Addr} {cR:Addr},Top K mg cFE cNN cBA cBL cBP cBT cHP cNW cNP cNO cK cR->∀{f:Addr} {fd:FuncData},Fun K "law" "law" uC f fd->FnOk P w K mg base CX0 10 f fd ["_law_script"] (qi K)
theorem am {r:W.OpenLaw}(AM:Rc)(X:K.In h)(G:h.Ns mainGlobals mg)(hfa:mg "law"=some (.ref fa))(T:Top K mg cFE cNN cBA cBL cBP cBT cHP cNW cNP cNO cK cR)(a:W.nsIn K mainGlobals "law"=some (some (.ref f)))(l:K.lookup f=some ⟨oc,od,.func (W.fnOf "law" "law" (defArgs uC) (defBody uC) (defScope uC) .none kV dc pm an cd ct),sl⟩)(c:W.codeIn K cd "law"=true)(k:W.keepIn K (.ref f)=true):∃fd:FuncData,(∀(s:Shared) (v:Value),BindsTo s fd ⟨[v],[]⟩ [("_law_script",v)])/\∀base:Heap,K.In base->base.Ns mainGlobals mg->FnOk r.prog w K mg base CX0 10 fa fd ["_law_script"] (qi K):=by have e:=hfa.symm.trans (bg X G a);cases e;exact⟨_,λs v=>.of_eq rfl,λbase _ _=>AM T (fun_mk l c k)⟩
theorem Rh {Q:List Value->Prop}(h:∀a,Q [a]):∀us:List Value,us.length=1->Q us:=λus hl=>match us,hl with | [a],_=>h a
theorem Rj {Q:List Value->Prop}(h:∀a b,Q [a,b]):∀us:List Value,us.length=2->Q us:=λus hl=>match us,hl with | [a,b],_=>h a b
theorem Rf {Q:List Value->Prop}(h:∀a b c,Q [a,b,c]):∀us:List Value,us.length=3->Q us:=λus hl=>match us,hl with | [a,b,c],_=>h a b c
end
theorem walk {l:W.OpenLaw}{q:Program}{loose:Ls}{XP:(Str->Option Value)->Heap->Prop}{YP:World->Heap->Prop}{d:DefRec}{K:Params->Fg}(hn:l.most=some 63)(hdf:d.params.defaults=[])
  (hY:∀(w:World) (h:Heap),YP w h->(K w.params).In h) (hL:∀(w:World) (h:Heap),YP w h->yC (K w.params) h)
  (F:∀(w:World) (mg:Mg) (fa:Addr) (h:Heap),(K w.params).In h->h.Ns mainGlobals mg->mg d.name=some (.ref fa) ->
   ∃fd:FuncData,(∀(s:Shared) (u:Value),BindsTo s fd ⟨[u],[]⟩ [("_law_script",u)])/\∀base:Heap,(K w.params).In base->base.Ns mainGlobals mg->FnOk l.prog w (K w.params) mg base CX0 10 fa fd ["_law_script"] (qi (K w.params))) :
  W.WalkO q loose XP YP l.row.toRowW d [] (λf vs=>PySem.call f vs):=
 L2.Gb (n:=63) (k:=10) (x:="_law_script") (CX:=λ_=>CX0) (sp:=λw=>qi (K w.params)) hn (by decide) hdf ⟨rfl,by decide,by decide⟩ hY F hL (λ_ _ a ns hl hb hS=>⟨a,ns,rfl,hS,hl,hb,λ_=>rfl⟩) λ_ _ _ _ _ z=>z
end iU
section
local macro_rules | `(tactic| o_head $H) => `(tactic| (refine PySem.W.holds_open (q := iU.view) (loose := []) (Xt := fun s => PySem.W.xlAt iU.view [] s && PySem.W.recOk (PySem.W.RowW.records PySem.Challenge.rw_factorforge_k24_squares_of_roots.row.toRowW) s) (XP := PySem.W.XL iU.view []) (Yf := PySem.W.Hook.obs $H) (Ya := PySem.W.Hook.val $H) (YP := PySem.W.Hook.says $H) (N := 20000) ?hl (PySem.W.Hook.of $H) (PySem.W.Hook.keeps $H) (fun s e => PySem.W.xl_of s (Bool.and_eq_true_iff.mp e).1) PySem.W.XL.keeps (by rfl) (by rfl) (by rfl) (fun s e => PySem.W.recFacts_of (Bool.and_eq_true_iff.mp e).2) (by rfl) (by first | assumption | decide +kernel) (by decide +kernel) ⟨rfl, rfl, rfl, rfl, rfl, by decide +kernel⟩ ?hw ?hc; (case hl => (intro w; exact iU.fin w (by kernel_rfl)))))
local macro_rules | `(tactic| walk_at "bnd") => `(tactic| (first | exact fun _ _ _ _ _ _ => iU.Rh fun _ => rfl | exact fun _ _ _ _ _ _ => iU.Rj fun _ _ => rfl | exact fun _ _ _ _ _ _ => iU.Rf fun _ _ _ => rfl))
open PySem PySem.W PyProof.Rows
set_option maxRecDepth 100000 in
set_option maxHeartbeats 0 in
theorem iU.pre (AM:iU.Rc):PySem.Challenge.rw_factorforge_k24_squares_of_roots.Holds:=by
 w_on;o_law;k_head;(rotate_left;rotate_right);(· w_witness2)
 k_fill
 refine iU.walk (l:=PySem.Challenge.rw_factorforge_k24_squares_of_roots) rfl rfl (λw h Y=>PySem.W.km_in_of Y) (λw h Y=>L3.Ej (by kernel_rfl) (PySem.W.km_tabs_of Y)) ?F
 case F=>
  intro w mg fa h KX G hmg
  refine' iU.am AM KX G hmg ?T ?a ?l ?c ?k
  case a=>k_is
  case l=>k_is
  case c=>k_is
  case k=>k_is
  case T=>
   constructor
   case pQ=>(refine' bg KX G ?a;(case a=>k_is))
   case tM=>(refine' bg KX G ?a;(case a=>k_is))
   case xQ=>(refine' bg KX G ?a;(case a=>k_is))
   case uQ=>(refine' bg KX G ?a;(case a=>k_is))
   case p6=>(refine' bg KX G ?a;(case a=>k_is))
   case u9=>(refine' bg KX G ?a;(case a=>k_is))
   case sW=>(refine' bg KX G ?a;(case a=>k_is))
   case uF=>(refine' bg KX G ?a;(case a=>k_is))
   case uO=>(refine' bg KX G ?a;(case a=>k_is))
   case tU=>(refine' bg KX G ?a;(case a=>k_is))
   case G8=>(refine' bg KX G ?a;(case a=>k_is))
   case Bq=>(refine' bg KX G ?a;(case a=>k_is))
   all_goals first|(refine' iU.Oq KX G ?a ?l ?c ?k ?b;(case a=>k_is);(case l=>k_is);(case c=>k_is);(case k=>k_is);(case b=>walk_at "bnd"))|(refine' iU.O6 KX G ?a ?l ?c;(case a=>k_is);(case l=>k_is);(case c=>kernel_rfl))|(refine' PySem.W.mg_none_of KX G ?a;(case a=>k_is))|(refine' iU.Oa KX G ?a;(case a=>k_is))|(refine' iU.K7 ?g0 ?l ?c ?k ?n ?b;(case g0=>k_is);(case l=>k_is);(case c=>k_is);(case k=>k_is);(case n=>k_is);(case b=>walk_at "bnd"))|(refine' iU.Nj ?g ?l ?c ?k ?m ?n ?kc ?b;(case g=>k_is);(case l=>k_is);(case c=>k_is);(case k=>k_is);(case m=>k_is);(case n=>k_is);(case kc=>k_is);(case b=>walk_at "bnd"))|(refine' iU.N8 ?g ?l ?c ?k ?m ?n ?b;(case g=>k_is);(case l=>k_is);(case c=>k_is);(case k=>k_is);(case m=>k_is);(case n=>k_is);(case b=>walk_at "bnd"))|(refine' iU.Nk ?a;(case a=>k_is))|(refine' iU.Nu ?a;(case a=>k_exc))|kit_is|kts_exm|(constructor<;>k_is)
end
namespace iU
open PySem L2 L3 PyProof.Rows FM
local macro_rules | `(tactic| walk_at "pn0") => `(tactic| first | omega | (dsimp only; omega) | (dsimp only [List.length_cons, List.length_nil]; omega) | (simp [L2.gI, L2.start] <;> omega))
local macro_rules | `(tactic| walk_at "pn1") => `(tactic| first | exact tT | rfl | assumption | decide | decide +kernel | exact L2.jZ (by decide) | exact L2.o7 (by decide) | exact ⟨by decide, by decide +kernel⟩ | exact ⟨by decide, by decide, by decide⟩ | walk_at "pn0" | exact L2.jZ ⟨by walk_at "pn0", by walk_at "pn0"⟩ | exact L2.o7 ⟨by walk_at "pn0", by walk_at "pn0"⟩)
local macro_rules | `(tactic| walk_at "pn") => `(tactic| first | (refine ⟨?_, ?_⟩ <;> walk_at "pn") | walk_at "pn1" | (intro _; walk_at "pn"))
local macro_rules | `(tactic| walk_at "xs1") => `(tactic| first | exact tT | exact (rfl : _ = some _) | exact (rfl : L3.isI _ _) | exact (rfl : L3.Qo _ _) | exact (rfl : L3.isF _ _) | exact (rfl : L3.Qi _ _) | exact (rfl : L3.Nb _ _) | exact (Or.inl rfl : L3.zj _ _) | exact (Or.inr (Or.inl rfl) : L3.zj _ _) | exact (Or.inr (Or.inr rfl) : L3.zj _ _) | walk_at "pn1")
local macro_rules | `(tactic| walk_at "xs") => `(tactic| first | (refine And.intro ?_ ?_ <;> walk_at "xs") | walk_at "xs1")
section
variable {P:Program}{w:World}{K:Fg}{mg:Mg}{base:Heap}{cFE cNN cBA cBL cBP cBT cHP cNW cNP cNO cK cR:Addr}
theorem xW (T:Top K mg cFE cNN cBA cBL cBP cBT cHP cNW cNP cNO cK cR):Ok P w K mg base 1 "is_prime" ["number"] (PP 1 yes Qk):=by
 refine mL.ok T.zH nJ (λvs H Q E h=>?_) (λf cdv A outer s H vs Q E hr h=>?_)
 ·obtain⟨ns,hl,rfl,_⟩:=h;rw[aa,hl];rfl
 obtain⟨ns,hl,rfl,hp,k⟩:=h;obtain⟨n,rfl⟩:=Jd hl;refine⟨_,(pss_cons (sE (pw_orP (Hf (iD 0) lV) (pw_or1P (K6 (iD 0) (I8 (by rfl) T.q8)))).pt
 (pss_one (ps_ret pe_bl))
 pss_nil)
 (pss_cons (vP (i:=1) nJ.nd rfl (Or.inl rfl) lV)
 (pss_cons (uE aQ (Hy (Hv (iD 1) (iD 1)) (iD 0))
 (pss_cons (sE (DP (GJ (iD 0) (iD 1)) lV)
 (pss_one (ps_ret pe_bl))
 pss_nil)
 (pss_one (Iz (i:=1) nJ.nd rfl (Or.inl rfl) lV wX))))
 (pss_one (ps_ret pe_bl))))),?_⟩
 have k:Q (.bl (uW n)) H:=k;refine⟨by walk_at "pn",λh=>?_,λh=>?_⟩
 ·have h:n<2\/9973<n:=h;rw[qd (λq=>by have:=q.1;have:=q.2.1;lia)]at k;exact k
 have h:¬(n<2\/9973<n):=h;refine⟨by walk_at "pn",λd0 e0=>?_⟩;have e0:d0=2:=e0;subst e0;refine⟨λσ H'=>∃d,σ=[some (.int n),some (.int d)]/\H'=H/\2<=d/\d<=10000/\uV n d,λσ _=>(10001-gI σ 1).toNat,⟨2,rfl,rfl,by lia,by lia,λe h1 h2=>by lia⟩,?_⟩;rintro σ H' ⟨d,rfl,rfl,h2,h3,cl⟩;refine⟨⟨⟨rfl,rfl,jZ ⟨?_,?_⟩⟩,rfl⟩,λc=>?_,λc=>?_⟩
 ·show -(2:Int)^64<d;lia
 ·show d<(2:Int)^64;lia
 ·have c:d*d<=n:=c;have:=Ko h2;refine⟨⟨⟨rfl,rfl,by show(0:Int)<d;lia⟩,tT⟩,λhit=>?_,λhit=>?_⟩
  ·have hit:n % d=0:=hit;rw[qd (λq=>q.2.2 d h2 c hit)]at k;exact k
  ·have hit:¬n % d=0:=hit;refine⟨rfl,tT,tT,λm e=>?_⟩;have e:m=d+1:=e;subst e;exact⟨⟨d+1,rfl,rfl,by lia,by lia,cl.next hit⟩,by show(10001-(d+1)).toNat<(10001-d).toNat;lia⟩
 ·have c:¬d*d<=n:=c;rw[pK (.out cl h2 (by lia) (by lia) c)]at k;exact k
abbrev Gr (cR:Addr):Gx:=QB (KR cR) (λh s=>h.same s)
theorem Ri (H:Hp)(a dx:Addr)(p:Int)(hp:FM.iG p)(h:H a=some (.ins cR dx [("size",.int p)])):(Gr cR).ob 0 H a p:=by
 have hm:∀m∈rO,List.lookup m [("size",V.int p)]=none:=λm hm=>by
  have key:∀m∈rO,(m == ("size":Str))=false:=by decide +kernel
  rw[List.lookup_cons,key m hm];rfl
 exact .inl ⟨rfl,by have:=hp.1;lia,dx,_,h,rfl,hm⟩
def El:Sp:=λvs H Q _=>∃n:Int,vs=[.int n]/\iG n/\Q .non H
theorem oU (T:Top K mg cFE cNN cBA cBL cBP cBT cHP cNW cNP cNO cK cR):Ok P w K mg base 2 "refuse_no_prime" ["number"] El:=by
 refine mL.ok T.pB oW (λvs H Q E h=>?_) (λf cdv A outer s H vs Q E hr h=>?_)
 ·obtain⟨c,rfl,_⟩:=h;rfl
 obtain⟨n,rfl,hn,k⟩:=h;refine⟨_,(pss_one (sE (Iv (QM (Ij (xW T) hr (Ha (iD 0) Ip))))
 (pss_one ps_never)
 pss_nil)),?_⟩
 refine⟨⟨⟨rfl,tT⟩,tT⟩,λq=>?_,λq=>?_⟩
 ·have q:¬uW n=true:=q;exact(q (pK hn)).elim
 ·exact k
def Jj (K:Fg):Sp:=λvs H Q _=>∃(p C dx:Addr) (z:Int),vs=[.ref p,.int z]/\H p=some (.ins C dx [])/\Cls K C/\NoAttr K C "size"/\Q .non (upd H p (.ins C dx [("size",.int z)]))
theorem wJ (T:Top K mg cFE cNN cBA cBL cBP cBT cHP cNW cNP cNO cK cR):Q6 P w K mg base CX0 1 "Kind" cK "__init__" ["self","size"] (Jj K):=by
 obtain⟨f,fd,F,b,c⟩:=T.yq;refine⟨f,fd,F.ok vK (λvs H Q E h=>?_) (λcdv A outer s H vs Q E hr h=>?_),b,c,T.G8⟩
 ·obtain⟨p,C,dx,z,rfl,_⟩:=h;rfl
 obtain⟨p,C,dx,z,rfl,hp,cl,na,k⟩:=h;refine⟨_,(pss_one (ps_fld (pv 0) (iD 1) rfl)),?_⟩;exact⟨rfl,_,rfl,p,C,dx,[],rfl,hp,cl,na,by decide,k⟩
theorem Ea (T:Top K mg cFE cNN cBA cBL cBP cBT cHP cNW cNP cNO cK cR):Qv P w K mg base CX0 3 "Rests" cR ["self","prime"] (DG cR):=by
 obtain⟨f,fd,F,b,c⟩:=T.wj;refine⟨f,fd,F.ok uA (λvs H Q E h=>?_) (λcdv A outer s H vs Q E hr h=>?_),b,c,T.Bq⟩
 ·obtain⟨x,dx,p,rfl,_⟩:=h;rfl
 obtain⟨x,dx,p,rfl,hp,hx,k⟩:=h;refine⟨_,(pss_cons (ps_expr (nj (oU T) hr (pa_cons (iD 1) pa_nil)))
 (pss_one (ps_expr (JR (wJ T) hr pass0 (pa_cons (pv 0) (pa_cons (iD 1) pa_nil)))))),?_⟩
 exact⟨rfl,p,rfl,hp,_,rfl,rfl,x,cR,dx,p,rfl,hx,T.mq,T.jK,k⟩
def JK:Int->List Int->Int:=λz ns=>match ns with
 |[n]=>pl z n
 |_=>0
abbrev Qy:Int->List Int->Prop:=λ_ _=>True
theorem sy (T:Top K mg cFE cNN cBA cBL cBP cBT cHP cNW cNP cNO cK cR):KM P w K mg base 1 (KR cR) "plain" 1 Qy JK:=by
 refine⟨λH a z ka=>?_⟩;obtain⟨q0,dx,fs,e,hz,hm⟩:=ka;refine⟨cR,dx,fs,["self","number"],e,hm "plain" (by decide +kernel),?_⟩;obtain⟨f,fd,F,b,m1⟩:=T.vR;refine⟨f,fd,F.ok uq (λvs H Q E h=>?_) (λcdv A outer s H vs Q E hr h=>?_),b,m1,T.mq⟩
 ·obtain⟨ns,hl,rfl,_⟩:=h;show(ns.map V.int).length+1=2;rw[aa,hl]
 ·obtain⟨ns,hl,rfl,⟨_,dx',fs',e',hz',_⟩,_,k⟩:=h;obtain⟨n,rfl⟩:=Jd hl;have k:Q (.int (pl z n)) H:=k;rw[jU q0]at k;refine⟨_,(pss_one (ps_ret (pe_op op_mod (iD 1) (pe_fld (pv 0) rfl)))),?_⟩;exact⟨rfl,_,rfl,a,cR,dx',fs',_,rfl,e',T.mq,T.jK,hz',_,_,rfl,rfl,q0,k⟩
theorem Rb (T:Top K mg cFE cNN cBA cBL cBP cBT cHP cNW cNP cNO cK cR):QZ K (Gr cR):=by
 refine⟨λH a z h=>?_⟩;rcases h with⟨_,h⟩|⟨h,_⟩
 ·obtain⟨_,dx,fs,e,hz,_⟩:=h;exact⟨cR,dx,fs,e,T.mq,T.jK,hz⟩
 ·exact absurd h (by decide)
def Bl:List Int->List Int->Prop:=λ_ is=>match is with
 |[k]=>0<=k
 |_=>False
def G9:List Int->List Int->Int:=λxs is=>match is with
 |[k]=>xs.getD k.toNat 0
 |_=>0
theorem yX (T:Top K mg cFE cNN cBA cBL cBP cBT cHP cNW cNP cNO cK cR):Ok P w K mg base 1 "_law_cell_at" ["_law_script","_law_k"] (spS K 1 Bl G9):=by
 refine mL.ok T.Cm zB (λvs H Q E h=>?_) (λf cdv A outer s H vs Q E hr h=>?_)
 ·obtain⟨a,xs,is,hl,rfl,_⟩:=h;show(is.map V.int).length+1=2;rw[aa,hl]
 obtain⟨sa,ns,is,hl,rfl,hS,hp,k⟩:=h;obtain⟨i,rfl⟩:=Jd hl;have hp:0<=i:=hp;have k:Q (.int (ns.getD i.toNat 0)) H:=k;refine⟨_,(pss_cons (sE (Hf (iD 1) (KY 0 sa (ns.map V.int) T.jW))
 (pss_one (ps_ret (Jr 0 sa ns (iD 1) (λ_ _=>rfl))))
 pss_nil)
 (pss_one (ps_ret lV))),?_⟩
 have el:(ns.map V.int).length=ns.length:=aa _;refine⟨⟨rfl,⟨rfl,hS⟩⟩,λq=>?_,λq=>?_⟩
 ·have q:i<((ns.map V.int).length:Int):=q;refine⟨⟨rfl,rfl,hS,?_,?_⟩,?_⟩
  ·show -(ns.length:Int)<=i;lia
  ·show i<(ns.length:Int);lia
  ·show Q (.int (ns.getD (if 0<=i then i else i+ns.length).toNat 0)) H;rw[ae hp];exact k
 ·have q:¬i<((ns.map V.int).length:Int):=q;have e:ns.getD i.toNat 0=0:=by rw[gQ,cL (by lia)];rfl
  rw[e]at k;exact⟨tT,k⟩
theorem jr (T:Top K mg cFE cNN cBA cBL cBP cBT cHP cNW cNP cNO cK cR):Ok P w K mg base 1 "_law_cell_at" ["_law_script","_law_k"] (DK K (Gr cR) (L3.Pk 1 Bl) λas=>G9 (O2 as) (lE as.tail)):=Ol (yX T)
theorem ym (T:Top K mg cFE cNN cBA cBL cBP cBT cHP cNW cNP cNO cK cR):Ok P w K mg base 1 "_law_whole" ["_law_found"] (zz K (Gr cR) (λas=>∃n,as=[.int n]) λ_=>true):=by refine HQ T.Jf Gu (λas ⟨c,h⟩=>by rw[h];rfl) (λf cdv A outer s H E hr=>⟨_,(gG (iu (rT (mF T.gJ (xv 0) (nW (by rfl) T.Pn MJ)) (pe_one (yJ (mF T.gJ (xv 0) (nW (by rfl) T.Mr Jk))))))),λas hp=>?_⟩);obtain⟨n,rfl⟩:=hp;have h1:jN K (.int n) (.ty "int")=true:=kJ rfl rfl T.uT;have h2:jN K (.int n) (.ty "bool")=false:=kJ rfl rfl T.rR;refine⟨⟨⟨rfl,tT,_,_,_,rfl,rfl,T.uT⟩,λ_=>⟨rfl,tT,_,_,_,rfl,rfl,T.rR⟩⟩,?_⟩;show PV.bl (decide (jN K (.int n) (.ty "int")=true/\¬jN K (.int n) (.ty "bool")=true))=PV.bl true;rw[h1,h2];rfl
theorem zg (h:ns≠[])(h0:ns.getD (ns.length-1) 0=0):ik ns.dropLast=ik ns:=by
 have e:ns=ns.dropLast++[0]:=by
  have e1:=cG h;have e2:ns.getLast h=0:=by rw[eK];rw[gQ,aB (by have:=lP h;lia)]at h0;exact h0
  rw[e2]at e1;exact e1.symm
 rw[e,oV,List.dropLast_concat]
theorem zr (h:¬(ns≠[]/\ns.getD (ns.length-1) 0=0)):ik ns=ns:=by
 by_cases c:ns=[]
 ·rw[c];rfl
 ·have h0:¬ns.getD (ns.length-1) 0=0:=λz=>h ⟨c,z⟩;have e1:=cG c;have e2:ns.getLast c≠0:=by rw[eK];rw[gQ,aB (by have:=lP c;lia)]at h0;exact h0
  rw[<- e1,t8 _ e2]
theorem nq (T:Top K mg cFE cNN cBA cBL cBP cBT cHP cNW cNP cNO cK cR):Ok P w K mg base 1 "cut_noughts" ["numbers"] (Q0 (λ_=>True) ik):=by
 refine mL.ok T.uh ug (λvs H Q E h=>?_) (λf cdv A outer s H vs Q E hr h=>?_)
 ·obtain⟨a,ns,rfl,_⟩:=h;rfl
 obtain⟨a,ns,rfl,hH,_,q⟩:=h;refine⟨_,(pss_one (ps_while aQ (pw_and (pt_truth (pv 0) (λ_=>rfl)) (pw_and1 (pt_cmpR op_eq (IV 0 (M5 lV) (λ_ _=>rfl)) lV (nomark _)))).pt
 (pss_one (ps_expr (pe_bm0 df PySem.F.slot_list_pop PySem.F.type_list_pop mt_pop (pv 0)))))),?_⟩
 refine⟨λm σ H'=>σ=[some (.ref a)]/\∃ms,m=ms.length/\H'=upd H a (.lst (ms.map V.int))/\ik ms=ik ns,⟨ns.length,rfl,ns,rfl,?_,rfl⟩,?_⟩
 ·funext b;by_cases c:b=a
  ·rw[c,upd_same,hH]
  ·rw[upd_ne c]
 rintro m σ H' ⟨rfl,ms,rfl,rfl,hm⟩;refine⟨_,rfl,_,.inl ⟨_,SqL.of upd_same,rfl⟩,?_⟩;by_cases c:ms=[]
 ·subst c;refine iteF ?_;refine iteF ?_;refine q _ (λb o hb e=>?_) ?_
  ·rw[upd_ne hb];exact e
  ·rw[upd_same,<- hm];rfl
 ·have hlen:=lP c;have e1:(!(ms.map V.int).isEmpty)=true:=by cases ms<;>simp at c ⊢
  rw[e1];refine iteT ?_;refine⟨tT,a,ms,ms.getD (ms.length-1) 0,rfl,SqL.of upd_same,?_,?_⟩
  ·have z:=getD_at (ns:=ms) (i:=-1) (by lia) (by lia);show atI (ms.map V.int) (-1)=_;rw[z,af (by lia)];have:(-1+(ms.length:Int)).toNat=ms.length-1:=by lia
   rw[this]
  refine⟨tT,rfl,_,rfl,?_⟩;by_cases d:ms.getD (ms.length-1) 0=0
  ·have e2:decide (V.int (ms.getD (ms.length-1) 0)=V.int 0)=true:=aM (by rw[d]);rw[e2];refine iteT ?_;refine⟨λσ H'=>σ=[some (.ref a)]/\H'=upd H a (.lst (ms.dropLast.map V.int)),?_,?_⟩
   ·rintro σ' H' ⟨rfl,rfl⟩;refine⟨ms.dropLast.length,by rw[fA];lia,rfl,_,rfl,rfl,?_⟩;rw[<- hm];exact zg c d
   ·refine⟨_,rfl,.inl ⟨rfl,_,SqL.of upd_same⟩,a,_,V.int (ms[ms.length-1]'(by lia)),rfl,rfl,upd_same,?_,rfl,?_⟩
    ·rw[aa,au,aB (by lia)];rfl
    ·rw[upd_upd,List.map_dropLast]
  ·have e2:decide (V.int (ms.getD (ms.length-1) 0)=V.int 0)=false:=aH (by intro z;exact d (by injection z));rw[e2];refine iteF ?_;refine q _ (λb o hb e=>?_) ?_
   ·rw[upd_ne hb];exact e
   ·rw[upd_same,<- hm,zr λz=>d z.2]
theorem jf (T:Top K mg cFE cNN cBA cBL cBP cBT cHP cNW cNP cNO cK cR):Ok P w K mg base 2 "trimmed" ["kind","f"] (Ks K (Gr cR) (λas=>∃z f,as=[.ob 0 z,.ints f]/\f.length<=1000) λas=>match as with
  |[.ob 0 z,.ints f]=>ik (f.map (pl z))
  |_=>[]):=by
 refine Ng T.CV tW (λas ⟨a,b,h,_⟩=>by rw[h];rfl) (λf cdv A outer s H E hr=>⟨_,(gq (Jc (i:=2) tW.nd rfl rfl (N':=["number","kind"]) (cap:=[some 0]) (zV rfl rfl rfl rfl ⟨⟨rfl,.inr (.inl rfl),QX,.inl rfl,_,rfl,rfl⟩,tT⟩ ⟨rfl,tT⟩ rfl) rfl (xl 1) (λ_ _ _=>(DR 0)) (λ_ _ _=>(xF 1 (sy T) hr (gm (xn 0) gF))) rfl)
 (gq (Ab 2 (nq T) hr)
 (gG (yu 2)))),λas hp=>?_⟩)
 obtain⟨z,f,rfl,hf⟩:=hp;refine⟨⟨rfl,hf,λn _=>⟨rfl,⟨rfl,tT⟩,tT,tT⟩⟩,λns e=>?_⟩;have e:ns=f.map (pl z):=e;refine⟨rfl,tT,rfl,?_⟩;show ik ns=ik (f.map (pl z));rw[e]
theorem Cu (T:Top K mg cFE cNN cBA cBL cBP cBT cHP cNW cNP cNO cK cR):Ok P w K mg base 3 "scaled" ["kind","f","number"] (Ks K (Gr cR) (λas=>∃z f n,as=[.ob 0 z,.ints f,.int n]/\f.length<=1000/\n.natAbs<2^9000/\∀m∈f,m.natAbs<2^9000) λas=>match as with
  |[.ob 0 z,.ints f,.int n]=>Tz z (f.map λm=>n*m)
  |_=>[]):=by
 refine Ng T.Gg Cj (λas ⟨a,b,c,h,_⟩=>by rw[h];rfl) (λf cdv A outer s H E hr=>⟨_,(gG (pU (xf (jf T) hr (gm (xv 0) (gm (jt (K1 (N':=["one","number"]) (cap:=[some 2]) (zV rfl rfl rfl rfl ⟨⟨rfl,.inr (.inl rfl),QX,.inl rfl,_,rfl,rfl⟩,tT⟩ ⟨rfl,tT⟩ rfl) rfl (xl 1) (λ_ _ _=>(DR 0)) (λ_ _ _=>(jF (xn 1) (xn 0))))) gF))))),λas hp=>?_⟩);obtain⟨z,f,n,rfl,hf,hn,hm⟩:=hp;refine⟨⟨⟨rfl,⟨rfl,hf,λm hm'=>⟨rfl,rfl,qj (n:=9000) (m:=9000) hn (hm m hm')⟩⟩,tT⟩,z,_,rfl,?_⟩,rfl⟩;show(f.map λm=>n*m).length<=1000;rw[aa];exact hf
def jc (f g:List Int):List Int:=(List.range (max f.length g.length)).map λn=>f.getD n 0+g.getD n 0
theorem gH (f g:Li)(n:Nat):(jc f g).getD n 0=f.getD n 0+g.getD n 0:=by
 unfold jc;by_cases h:n<max f.length g.length
 ·rw[gW (by rw[aa,aE];exact h),bO,bG]
 ·rw[gD (by rw[aa,aE];lia),gD (by lia),gD (by lia)];rfl
open Classical in
def tu (n z:Int):Int:=if h:∃x:Int,0<=x/\x<z/\x*n % z=1 then Classical.choose h else 0
theorem Fx (hz:2<=z)(h0:0<=x)(h1:x<z)(h2:x*n % z=1):tu n z=x:=by
 have ex:∃x:Int,0<=x/\x<z/\x*n % z=1:=⟨x,h0,h1,h2⟩;have e:tu n z=Classical.choose ex:=by unfold tu;rw[gf ex]
 obtain⟨y0,y1,y2⟩:=dD ex;rw[e];generalize Classical.choose ex=y at y0 y1 y2;have a1:(y*(x*n)) % z=y:=by rw[dA,h2,bR,Int.emod_emod,bB y0 y1]
 have a2:(x*(y*n)) % z=x:=by rw[dA,y2,bR,Int.emod_emod,bB h0 h1]
 exact(a1.symm.trans (by rw[eA y x n])).trans a2
theorem Bm (hz:2<=z)(h:∃x:Int,0<=x/\x<z/\x*n % z=1):0<=tu n z/\tu n z<z/\tu n z*n % z=1:=by obtain⟨x,h0,h1,h2⟩:=h;rw[Fx hz h0 h1 h2];exact⟨h0,h1,h2⟩
theorem Aa (hz:2<=z)(h:Int.gcd n z=1):∃x:Int,0<=x/\x<z/\x*n % z=1:=by
 have run:∀(m:Nat) (b r sb s:Int),r.toNat<=m->Eu n z b r sb s->∃x:Int,0<=x/\x<z/\x*n % z=1:=by
  intro m
  induction m with
  |zero=>
   intro b r sb s hm I;have:=I.r0;have e:r=0:=by lia
   subst e;have gc:=I.end;exact⟨sb % z,bx _ (by lia),bj _ (by lia),I.one hz (by lia)⟩
  |succ m ih=>
   intro b r sb s hm I;by_cases c:r=0
   ·subst c;have gc:=I.end;exact⟨sb % z,bx _ (by lia),bj _ (by lia),I.one hz (by lia)⟩
   ·have I2:=I.step c;have:=I2.rb;have:=I2.r0;have:=I.r0;exact ih _ _ _ _ (by lia) I2
 exact run _ _ _ _ _ (aj _) (Eu.start hz)
def wF (C:Addr):List PV->Rs:=λas=>match as with
 |[.int n,.int z]=>if Int.gcd n z=1 then .val (.int (tu n z)) else .err C
 |_=>.err C
theorem zb {x z:Int}(h:(x.natAbs:Int)<=z)(hz:z.natAbs<2^9000):x.natAbs<2^9000:=by
 generalize 2^9000=B at *
 lia
theorem Dh (T:Top K mg cFE cNN cBA cBL cBP cBT cHP cNW cNP cNO cK cR):NP P w K mg base 1 "turned" ["number","size"] (Nv K (Gr cR) (λas=>∃n z,as=[.int n,.int z]/\2<=z/\z.natAbs<2^9000) (wF cNO)):=by
 refine Q7 T.GX iH (λas ⟨n,z,h,_⟩=>by rw[h];rfl) (λf cdv A outer s H E hr=>⟨_,(gq (gP (i:=2) iH.nd rfl (Or.inl rfl) (xn 1))
 (gq (gP (i:=3) iH.nd rfl (Or.inl rfl) (jx (xn 0) (xn 1)))
 (gq (gP (i:=4) iH.nd rfl (Or.inl rfl) gw)
 (gq (gP (i:=5) iH.nd rfl (Or.inl rfl) gw)
 (gq (j9 PassesOwn.leaving (Bc (xn 3) gw)
 (gq (gP (i:=6) iH.nd rfl (Or.inl rfl) (sZ (xn 2) (xn 3)))
 (gq (gP (i:=7) iH.nd rfl (Or.inl rfl) (kO (xn 2) (jF (xn 6) (xn 3))))
 (gq (gP (i:=8) iH.nd rfl (Or.inl rfl) (kO (xn 4) (jF (xn 6) (xn 5))))
 (gq (gP (i:=2) iH.nd rfl (Or.inl rfl) (xn 3))
 (gq (gP (i:=3) iH.nd rfl (Or.inl rfl) (xn 7))
 (gq (gP (i:=4) iH.nd rfl (Or.inl rfl) (xn 5))
 (gG (gP (i:=5) iH.nd rfl (Or.inl rfl) (xn 8))))))))))
 (gq (jq (Bc (xn 2) gw)
 (gG (uZ Nq rfl T.DX (by rfl) T.tU (gm Eg gF)))
 iT)
 (gG (iu (jx (xn 4) (xn 1)))))))))),λas hp=>?_⟩)
 obtain⟨n,z,rfl,hz,hz9⟩:=hp;refine⟨rfl,λb0 e0=>?_⟩;have e0:b0=z:=e0;subst e0;refine⟨⟨rfl,rfl,by show 0<b0;lia⟩,λr0 er=>?_⟩;have er:r0=n % b0:=er;refine⟨tT,λz0 ez=>?_⟩;have ez:z0=0:=ez;subst ez;refine⟨tT,λo0 eo=>?_⟩;have eo:o0=1:=eo;subst eo;refine⟨λZ=>∃b r sb s o rb sbh,Z=[.fr (.int n),.fr (.int b0),.fr (.int b),.fr (.int r),.fr (.int sb),.fr (.int s),o,rb,sbh]/\Eu n b0 b r sb s,λZ=>(xR Z 3).toNat,⟨b0,r0,0,1,.un,.un,.un,rfl,by rw[er];exact Eu.start hz⟩,?_⟩;rintro Z ⟨b,r,sb,s,o,rb,sbh,rfl,I⟩;have sm:=I.id;have sbz:=I.bz;have rlt:=I.rb;have rnn:=I.r0;have s9:s.natAbs<2^9000:=zb (z:=b0) (by
  have h1:(s.natAbs:Int)*1<=(s.natAbs:Int)*b:=aR (by lia) (by lia);have h2:0<=(sb.natAbs:Int)*r:=fG (by lia) rnn;lia) hz9
 have r9:r.natAbs<2^9000:=zb (z:=b0) (by lia) hz9;refine⟨⟨rfl,tT⟩,λc=>?_,λc=>?_⟩
 ·have c:¬r=0:=c;have q0:0<=b / r:=Int.ediv_nonneg (by lia) (by lia);have q1:b / r<=b:=Int.ediv_le_self _ (by lia);have q9:(b / r).natAbs<2^9000:=zb (z:=b0) (by lia) hz9;refine⟨⟨rfl,rfl,by show 0<r;lia,(Nat.log2_lt (by show r.natAbs≠0;lia)).mpr r9⟩,λq eq=>?_⟩;have eq:q=b / r:=eq;subst eq;refine⟨⟨rfl,rfl,rfl,qj q9 r9⟩,λr1 e1=>?_⟩;refine⟨⟨rfl,rfl,rfl,qj q9 s9⟩,λs1 e2=>?_⟩;have f1:r1=b-b / r*r:=e1;have f2:s1=sb-b / r*s:=e2;clear e1 e2;refine⟨rfl,λb' eb=>?_⟩;have eb:b'=r:=eb;subst eb;refine⟨rfl,λr2 e3=>?_⟩;have e3:r2=r1:=e3;subst e3;refine⟨rfl,λs2 e4=>?_⟩;have e4:s2=s:=e4;subst e4;refine⟨rfl,λs3 e5=>?_⟩;have e5:s3=s1:=e5;subst e5;have I2:=I.step c;rw[<- f1,<- f2]at I2;refine⟨⟨_,_,_,_,_,_,_,rfl,I2⟩,?_⟩;show r2.toNat<b'.toNat;have:=I2.rb;have:=I2.r0;lia
 ·have c:¬¬r=0:=c;have c:r=0:=by lia
  subst c;have gc:=I.end;refine⟨⟨rfl,tT⟩,λhb=>?_,λhb=>?_⟩
  ·have hb:¬b=1:=hb;refine⟨⟨tT,tT⟩,?_⟩;show wF cNO [.int n,.int b0]=.err cNO;show(if Int.gcd n b0=1 then _ else _)=_;rw[af (by lia)]
  ·have hb:¬¬b=1:=hb;have hb:b=1:=by lia
   refine⟨⟨rfl,rfl,by show 0<b0;lia⟩,?_⟩;show wF cNO [.int n,.int b0]=.val (.int (sb % b0));show(if Int.gcd n b0=1 then _ else _)=_;rw[ae (by lia),Fx hz (bx _ (by lia)) (bj _ (by lia)) (I.one hz hb)]
theorem nF (z a b:Int):pl z a=pl z b ↔ z ∣ a-b:=by
 unfold pl;split
 ·rename_i h;subst h;rw[Int.zero_dvd];lia
 ·rw[cY,Int.dvd_iff_emod_eq_zero]
theorem n8 (ha:pl z a=a)(hb:pl z b=b)(h:z ∣ a-b):a=b:=by rw[<- ha,<- hb];exact(nF z a b).mpr h
theorem kh (z a:Int):z ∣ pl z a-a:=(nF z _ _).mp (yF z a)
def gB (xs:List Int):Int:=xs.getD (xs.length-1) 0
theorem qH:∀{N:Nat},(∀j,j<N->z ∣ f j)->z ∣ sm N f
 |0,_=>aI z
 |N+1,h=>bJ (qH λj hj=>h j (by lia)) (h N (by lia))
theorem zp:∀{N:Nat},i<N->(∀j,j<N->j≠i->z ∣ f j)->z ∣ sm N f-f i
 |0,h,_=>by lia
 |N+1,h,k=>by
  show z ∣ sm N f+f N-f i;by_cases c:i=N
  ·subst c;have e:sm i f+f i-f i=sm i f:=by lia
   rw[e];exact qH λj hj=>k j (by lia) (by lia)
  ·have e:sm N f+f N-f i=(sm N f-f i)+f N:=by lia
   rw[e];exact bJ (zp (by lia) λj hj hne=>k j (by lia) hne) (k N (by lia) (by lia))
theorem HB:∀{N:Nat},(∀i,i<N->i≠k->f i=g i)->sm N f=sm N g+if k<N then f k-g k else 0
 |0,_=>by show(0:Int)=0+_;rw[af (by lia)];rfl
 |N+1,h=>by
  show sm N f+f N=sm N g+g N+_;rw[HB (f:=f) (g:=g) (k:=k) λi hi hne=>h i (by lia) hne];by_cases c:k=N
  ·subst c;rw[af (by lia),ae (by lia)];lia
  ·rw[h N (by lia) (by lia)];by_cases d:k<N
   ·rw[ae d,ae (by lia)];lia
   ·rw[af d,af (by lia)];lia
theorem yV (hd:0<d.length)(up:∀j,i<j->z ∣ E.getD j 0):z ∣ cm E d (i+(d.length-1))-E.getD i 0*gB d:=by
 have h:=zp (z:=z) (f:=λj=>E.getD j 0*d.getD (i+(d.length-1)-j) 0) (i:=i) (N:=i+(d.length-1)+1) (by lia) λj hj hne=>by
  rcases Nat.lt_or_gt_of_ne hne with c|c
  ·rw[gD (show d.length<=i+(d.length-1)-j by lia),bd];exact aI z
  ·exact br (up j c)
 have e:i+(d.length-1)-i=d.length-1:=by lia
 rw[e]at h;exact h
theorem Pu (hd:0<d.length)(nz:∀x,z ∣ x*gB d->z ∣ x)(h:∀n,S+(d.length-1)<=n->z ∣ cm E d n):∀i,S<=i->z ∣ E.getD i 0:=by
 have key:∀k i,S<=i->E.length<=i+k->z ∣ E.getD i 0:=by
  intro k
  induction k with
  |zero=>intro i _ hk;rw[gD (by lia)];exact aI z
  |succ k ih=>intro i hi hk;have one:=yV (z:=z) (E:=E) hd (i:=i) λj hj=>ih j (by lia) (by lia);refine nz _ ?_;have:=Int.dvd_sub (h (i+(d.length-1)) (by lia)) one;rw[Int.sub_sub_self]at this;exact this
 exact λi hi=>key E.length i hi (by lia)
theorem Mf (hg:g<q.length)(h0:q.getD g 0=0)(n:Nat):cm (q.set g c) d n=cm q d n+if g<=n then c*d.getD (n-g) 0 else 0:=by
 unfold cm;rw[HB (f:=λi=>(q.set g c).getD i 0*d.getD (n-i) 0) (g:=λi=>q.getD i 0*d.getD (n-i) 0) (k:=g) λi hi hne=>by
  rw[n6 _ _ _ _ hg,af hne]]
 congr 1;by_cases k:g<n+1
 ·rw[ae k,ae (by lia)];rw[n6 _ _ _ _ hg,ae rfl,h0];lia
 ·rw[af k,af (by lia)]
def wD (a b:List Int):List Int:=(List.range (max a.length b.length)).map λi=>a.getD i 0-b.getD i 0
theorem mC (a b:Li)(n:Nat):(wD a b).getD n 0=a.getD n 0-b.getD n 0:=by
 unfold wD;by_cases h:n<max a.length b.length
 ·rw[gW (by rw[aa,aE];exact h),bO,bG]
 ·rw[gD (by rw[aa,aE];lia),gD (xs:=a) (by lia),gD (xs:=b) (by lia)];rfl
theorem DQ (f g:Nat->Int):∀N,sm N (λi=>f i-g i)=sm N f-sm N g
 |0=>rfl
 |N+1=>by show sm N (λi=>f i-g i)+(f N-g N)=sm N f+f N-(sm N g+g N);rw[DQ f g N];lia
theorem Hw (a b d:Li)(n:Nat):cm (wD a b) d n=cm a d n-cm b d n:=by unfold cm;rw[<- DQ];exact ig λi _=>by rw[mC,fM]
theorem km {xs:Li}{L:Nat}(hf:gZ xs)(h:∀n,L<=n->xs.getD n 0=0):xs.length<=L:=by
 by_cases c:xs.length<=L
 ·exact c
 ·exact absurd (h (xs.length-1) (by lia)) (hf λe=>by rw[e]at c;exact c (be _))
def nR (z:Int)(d r:List Int)(c:Int):List Int:=ik ((List.range r.length).map λn=>if r.length-d.length<=n then pl z (r.getD n 0-c*d.getD (n-(r.length-d.length)) 0) else r.getD n 0)
theorem qy (hd:d.length<=r.length)(n:Nat):(nR z d r c).getD n 0=if r.length-d.length<=n then pl z (r.getD n 0-c*d.getD (n-(r.length-d.length)) 0) else r.getD n 0:=by
 unfold nR;rw[pN];by_cases h:n<r.length
 ·rw[gW (by rw[aa,aE];exact h),bO,bG]
 ·rw[gD (by rw[aa,aE];lia),ae (by lia),gD (xs:=r) (by lia),gD (xs:=d) (by lia),bd,aW,jO]
def Cv (z:Int)(ov:Int->Int->Option Int)(d:List Int):Nat->List Int->List Int->Option (List Int×List Int)
 |0,q,r=>some (q,r)
 |n+1,q,r=>if r.length<d.length then some (q,r) else match ov (gB r) (gB d) with
  |none=>none
  |some c=>Cv z ov d n (q.set (r.length-d.length) c) (nR z d r c)
structure qG (z:Int)(f d q r:List Int):Prop where
 eq:∀n,z ∣ cm q d n+r.getD n 0-f.getD n 0
 rr:∀n,pl z (r.getD n 0)=r.getD n 0
 rf:gZ r
 qr:∀n,pl z (q.getD n 0)=q.getD n 0
 ql:q.length=f.length+1-d.length
 rl:r.length<=f.length
 q0:∀n,n+d.length<=r.length->q.getD n 0=0
 qt:r.length<f.length->q.getD (f.length-d.length) 0≠0
theorem qG.start (hf:gZ f)(hr:∀n,pl z (f.getD n 0)=f.getD n 0):qG z f d (List.replicate (f.length+1-d.length) 0) f:=by
 have g0:∀n,(List.replicate (f.length+1-d.length) (0:Int)).getD n 0=0:=λn=>by
  by_cases h:n<f.length+1-d.length
  ·rw[gW (by rw[bA];exact h),List.getElem_replicate]
  ·rw[gD (by rw[bA];lia)]
 refine⟨λn=>?_,hr,hf,λn=>?_,bA,aj _,λn _=>g0 n,λh=>absurd h (bC _)⟩
 ·have e:cm (List.replicate (f.length+1-d.length) 0) d n=0:=pL λi _=>by rw[g0,bv]
  rw[e];have:(0:Int)+f.getD n 0-f.getD n 0=0:=by lia
  rw[this];exact aI z
 ·rw[g0,jO]
theorem qG.step {z:Int}{f d q r:Li}{c:Int}(I:qG z f d q r)(hd:0<d.length)(hl:d.length<=r.length)(hc:pl z (c*gB d)=gB r)(hp:pl z c=c):qG z f d (q.set (r.length-d.length) c) (nR z d r c)/\(nR z d r c).length<r.length:=by
 have hg:r.length-d.length<q.length:=by rw[I.ql];have:=I.rl;lia
 have h0:q.getD (r.length-d.length) 0=0:=I.q0 _ (by lia);have rne:r≠[]:=λe=>by rw[e]at hl;exact absurd hl (by show ¬d.length<=0;lia)
 have l0:gB r≠0:=I.rf rne;have hc2:c≠0:=λe=>by rw[e,bv,jO]at hc;exact l0 hc.symm
 have hlen:(nR z d r c).length<r.length:=by
  have:(nR z d r c).length<=r.length-1:=by
   refine km (lY _) λn hn=>?_;rw[qy hl,ae (by lia)];by_cases k:n=r.length-1
   ·subst k;have e1:r.length-1-(r.length-d.length)=d.length-1:=by lia
    rw[e1];show pl z (gB r-c*gB d)=0;rw[<- jO z];refine(nF z _ _).mpr ?_;have h1:=kh z (c*gB d);rw[hc]at h1;rw[aW];exact h1
   ·rw[gD (xs:=r) (by lia),gD (xs:=d) (by lia),bd,aW,jO]
  lia
 refine⟨⟨λn=>?_,λn=>?_,lY _,λn=>?_,by rw[aT];exact I.ql,by have:=I.rl;lia,λn hn=>?_,λ_=>?_⟩,hlen⟩
 ·rw[Mf hg h0,qy hl];have e:=I.eq n;by_cases k:r.length-d.length<=n
  ·rw[ae k,ae k];have p:=kh z (r.getD n 0-c*d.getD (n-(r.length-d.length)) 0);have s:=bJ e p;generalize pl z (r.getD n 0-c*d.getD (n-(r.length-d.length)) 0)=u at s ⊢;generalize c*d.getD (n-(r.length-d.length)) 0=v at s ⊢;have q:cm q d n+v+u-f.getD n 0=cm q d n+r.getD n 0-f.getD n 0+(u-(r.getD n 0-v)):=by lia
   rw[q];exact s
  ·rw[af k,af k,bq];exact e
 ·rw[qy hl];split
  ·exact yF z _
  ·exact I.rr n
 ·rw[n6 _ _ _ _ hg];split
  ·exact hp
  ·exact I.qr n
 ·rw[n6 _ _ _ _ hg,af (by lia)];exact I.q0 n (by lia)
 ·rw[n6 _ _ _ _ hg];split
  ·exact hc2
  ·have:=I.rl;exact I.qt (by lia)
theorem yW (hd:0<d.length)(hov:∀a c,pl z a=a->ov a (gB d)=some c->pl z (c*gB d)=a/\pl z c=c):∀(fuel:Nat) (q r:Li),qG z f d q r->r.length<fuel ->
  (∀Q R,Cv z ov d fuel q r=some (Q,R)->qG z f d Q R/\R.length<d.length)/\(Cv z ov d fuel q r=none->∃q' r',qG z f d q' r'/\d.length<=r'.length/\ov (gB r') (gB d)=none)
 |0,_,_,_,h=>by lia
 |n+1,q,r,I,h=>by
  unfold Cv;by_cases c:r.length<d.length
  ·rw[ae c];refine⟨λQ R e=>?_,λe=>by cases e⟩;cases e;exact⟨I,c⟩
  ·rw[af c];cases o:ov (gB r) (gB d) with
   |none=>exact⟨(λQ R e=>by cases e),λ_=>⟨q,r,I,by lia,o⟩⟩
   |some x=>obtain⟨h1,h2⟩:=hov (gB r) x (I.rr _) o;obtain⟨J,hl⟩:=I.step hd (by lia) h1 h2;exact yW hd hov n _ _ J (by lia)
def qw (z:Int)(d r:List Int)(c:Int)(i:Nat)(row:List Int):Prop:=row.length=r.length/\∀n,row.getD n 0=if r.length-d.length<=n/\n-(r.length-d.length)<i then pl z (r.getD n 0-c*d.getD (n-(r.length-d.length)) 0) else r.getD n 0
theorem zL (z:Int)(d r:Li)(c:Int):qw z d r c 0 r:=⟨rfl,λn=>by rw[af (by lia)]⟩
theorem CW (h:qw z d r c i row)(hl:d.length<=r.length)(hi:i<d.length):qw z d r c (i+1) (row.set (r.length-d.length+i) (pl z (row.getD (r.length-d.length+i) 0-c*d.getD i 0))):=by
 obtain⟨h1,h2⟩:=h;refine⟨by rw[aT];exact h1,λn=>?_⟩;rw[n6 _ _ _ _ (by lia)];by_cases k:n=r.length-d.length+i
 ·subst k;rw[ae rfl,ae (by lia),h2,af (by lia),show r.length-d.length+i-(r.length-d.length)=i by lia]
 ·rw[af k,h2];by_cases q:r.length-d.length<=n/\n-(r.length-d.length)<i
  ·rw[ae q,ae (by lia)]
  ·rw[af q,af (by lia)]
theorem Hd (h:qw z d r c d.length row)(hl:d.length<=r.length):ik row=nR z d r c:=by
 unfold nR;refine xV λn=>?_;rw[h.2 n];by_cases k:n<r.length
 ·rw[gW (xs:=(List.range r.length).map _) (by rw[aa,aE];exact k),bO,bG];by_cases q:r.length-d.length<=n
  ·rw[ae ⟨q,by lia⟩,ae q]
  ·rw[af (by lia),af q]
 ·rw[gD (xs:=(List.range r.length).map _) (by rw[aa,aE];lia),af (by lia),gD (by lia)]
theorem g8 (z:Int)(f:Li):gZ (Tz z f):=lY _
theorem jz (z:Int)(f:Li)(n:Nat):pl z ((Tz z f).getD n 0)=(Tz z f).getD n 0:=by rw[iJ,yF]
theorem wK (ns:Li)(h:0<ns.length):ns.getD (jP ns.length (-1)) 0=gB ns:=by
 have e:jP ns.length (-1)=ns.length-1:=by unfold jP;rw[af (by lia)];lia
 rw[e];rfl
theorem t7 (f g:Nat->Int):∀N,sm N (λi=>f i+g i)=sm N f+sm N g
 |0=>rfl
 |N+1=>by show sm N (λi=>f i+g i)+(f N+g N)=sm N f+f N+(sm N g+g N);rw[t7 f g N];lia
theorem nY (l:Int)(f:Nat->Int):∀n,sm n (λi=>l*f i)=l*sm n f
 |0=>(bd l).symm
 |n+1=>by show sm n (λi=>l*f i)+l*f n=l*(sm n f+f n);rw[nY l f n,fP]
theorem jM (o:Int)(q d:Li)(i:Nat):cm (o::q) d i=o*d.getD i 0+if i=0 then 0 else cm q d (i-1):=by
 unfold cm;rw[j6];have e1:((o::q).getD 0 0:Int)=o:=rfl;rw[e1,fY];congr 1;by_cases c:i=0
 ·subst c;rfl
 ·rw[af c];obtain⟨k,rfl⟩:∃k,i=k+1:=⟨i-1,by lia⟩;refine ig λj hj=>?_;have e2:((o::q).getD (j+1) 0:Int)=q.getD j 0:=rfl;have e3:k+1-(j+1)=k-j:=by lia
  have e4:k+1-1-j=k-j:=by lia
  rw[e2,e3,e4]
theorem jg (d:Li)(n:Nat):cm [] d n=0:=pL λi _=>by rw[gD (be _),bv]
theorem ww (h:∀n,f.getD n 0=0)(n:Nat):cm f g n=0:=pL λi _=>by rw[h i,bv]
theorem pZ (h:∀n,f.getD n 0=f'.getD n 0)(k:∀n,g.getD n 0=g'.getD n 0)(n:Nat):cm f g n=cm f' g' n:=ig λi _=>by rw[h,k]
theorem Ju (ha:∀i,a.getD i 0=o*g.getD i 0+if i=0 then 0 else u.getD (i-1) 0)(n:Nat):cm a h n=o*cm g h n+if n=0 then 0 else cm u h (n-1):=by
 unfold cm;have e:sm (n+1) (λi=>a.getD i 0*h.getD (n-i) 0)=sm (n+1) λi=>o*(g.getD i 0*h.getD (n-i) 0)+(if i=0 then 0 else u.getD (i-1) 0)*h.getD (n-i) 0:=ig λi _=>by rw[ha,dw,bH]
 rw[e,t7,nY];congr 1;rw[j6];have e0:(if (0:Nat)=0 then(0:Int) else u.getD (0-1) 0)*h.getD (n-0) 0=0:=by rw[ae rfl,bv]
 rw[e0,c8];by_cases c:n=0
 ·subst c;rfl
 ·rw[af c];obtain⟨k,rfl⟩:∃k,n=k+1:=⟨n-1,by lia⟩;refine ig λj _=>?_;have e3:k+1-(j+1)=k+1-1-j:=by lia
  rw[af (by lia),e3];rfl
theorem iV (g h:Li):∀(f:Li) (n:Nat),cm (gC f g) h n=cm f (gC g h) n
 |[],n=>by rw[jg,ww];intro i;rw[gr,jg]
 |o::q,n=>by
  rw[jM,Ju (u:=gC q g) (g:=g) (o:=o) (λi=>by
   rw[gr,jM];congr 1;by_cases c:i=0
   ·rw[ae c,ae c]
   ·rw[af c,af c,gr])]
  rw[gr];congr 1;by_cases c:n=0
  ·rw[ae c,ae c]
  ·rw[af c,af c,iV g h q]
def mu (f g:List Int):List Int:=ik (gC f g)
def jb (p:Int)(d a b:List Int):Prop:=∃Q:List Int,∀n,p ∣ a.getD n 0-b.getD n 0-cm Q d n
theorem jb.refl (p:Int)(d a:Li):jb p d a a:=⟨[],λn=>by rw[jg,cq];exact aI p⟩
theorem jb.of (h:∀n,p ∣ a.getD n 0-b.getD n 0):jb p d a b:=⟨[],λn=>by rw[jg,aW];exact h n⟩
theorem lK (a b d:Li)(n:Nat):cm (jc a b) d n=cm a d n+cm b d n:=by unfold cm;rw[<- t7];exact ig λi _=>by rw[gH,dw]
theorem Kz (a d:Li)(n:Nat):cm (a.map λx=>-x) d n = -cm a d n:=by have h:=nY (-1) (λi=>a.getD i 0*d.getD (n-i) 0) (n+1);unfold cm;rw[dU]at h;rw[<- h];exact ig λi _=>by rw[kZ _ (by decide),dU,Int.neg_mul]
theorem jb.symm (h:jb p d a b):jb p d b a:=by
 obtain⟨Q,h⟩:=h;refine⟨Q.map λx=>-x,λn=>?_⟩;rw[Kz];have e:b.getD n 0-a.getD n 0 - -cm Q d n = -(a.getD n 0-b.getD n 0-cm Q d n):=by lia
 rw[e];exact bu.mpr (h n)
theorem jb.trans (h:jb p d a b)(k:jb p d b c):jb p d a c:=by
 obtain⟨Q,h⟩:=h;obtain⟨S,k⟩:=k;refine⟨jc Q S,λn=>?_⟩;rw[lK];have e:a.getD n 0-c.getD n 0-(cm Q d n+cm S d n)=(a.getD n 0-b.getD n 0-cm Q d n)+(b.getD n 0-c.getD n 0-cm S d n):=by lia
 rw[e];exact bJ (h n) (k n)
theorem rB (h:∀n,p ∣ a.getD n 0-b.getD n 0)(n:Nat):p ∣ cm a c n-cm b c n:=by rw[<- Hw];exact qH λi _=>by rw[mC];exact br (h i)
theorem jb.mul (h:jb p d a b)(c:Li):jb p d (gC a c) (gC b c):=by
 obtain⟨Q,h⟩:=h;refine⟨gC Q c,λn=>?_⟩;have k:=rB (p:=p) (a:=wD a b) (b:=gC Q d) (c:=c) (λi=>by rw[mC,gr];exact h i) n;rw[Hw]at k;have e:cm (gC Q c) d n=cm (gC Q d) c n:=by rw[iV,iV];exact pZ (λ_=>rfl) (λi=>by rw[gr,gr,gK]) n
 rw[gr,gr,e];exact k
theorem jb.comm (p:Int)(d a b:Li):jb p d (gC a b) (gC b a):=.of λn=>by rw[gr,gr,gK,cq];exact aI p
theorem jb.CT (h:jb p d a b)(k:jb p d c e):jb p d (gC a c) (gC b e):=
 (h.mul c).trans (((jb.comm p d b c).trans (k.mul b)).trans (jb.comm p d e b))
theorem jb.yG (p:Int)(d a b c:Li):jb p d (gC (gC a b) c) (gC a (gC b c)):=.of λn=>by rw[gr,gr,iV,cq];exact aI p
theorem jb.Tz (p:Int)(d a:Li):jb p d a (FM.Tz p a):=.of λn=>by
 rw[iJ];have:=kh p (a.getD n 0);have e:a.getD n 0-pl p (a.getD n 0) = -(pl p (a.getD n 0)-a.getD n 0):=by lia
 rw[e];exact bu.mpr this
theorem jb.one (p:Int)(d a:Li):jb p d (gC a [1]) a:=.of λn=>by
 rw[gr,gK,jM];by_cases c:n=0
 ·rw[ae c,bt,bq,cq];exact aI p
 ·rw[af c,jg,bt,bq,cq];exact aI p
structure KD (p:Int)(d r:List Int):Prop where
 form:gZ r
 red:∀n,pl p (r.getD n 0)=r.getD n 0
 len:r.length<d.length
theorem nA (nz:∀x,p ∣ x*gB d->p ∣ x)(hr:KD p d r)(hs:KD p d s)(h:jb p d r s):r=s:=by
 obtain⟨Q,h⟩:=h;have hd:0<d.length:=bc (be _) hr.len;have l1:=hr.len;have l2:=hs.len;have top:=Pu (z:=p) (E:=Q) (S:=0) hd nz λn hn=>by
  have:=h n;rw[gD (xs:=r) (by lia),gD (xs:=s) (by lia)]at this;have e:(0:Int)-0-cm Q d n = -cm Q d n:=by lia
  rw[e]at this;exact bu.mp this
 refine jA hr.form hs.form λn=>n8 (hr.red n) (hs.red n) ?_;have k:=h n;have c:p ∣ cm Q d n:=qH λi _=>br (top i (be _));have e:r.getD n 0-s.getD n 0=(r.getD n 0-s.getD n 0-cm Q d n)+cm Q d n:=by lia
 rw[e];exact bJ k c
open Classical in
def rm (p:Int)(d a:List Int):List Int:=if h:∃r,KD p d r/\jb p d a r then Classical.choose h else[]
theorem Ob (nz:∀x,p ∣ x*gB d->p ∣ x)(hr:KD p d r)(h:jb p d a r):rm p d a=r:=by
 have ex:∃r,KD p d r/\jb p d a r:=⟨r,hr,h⟩;have e:rm p d a=Classical.choose ex:=by unfold rm;rw[gf ex]
 obtain⟨h1,h2⟩:=dD ex;rw[e];exact nA nz h1 hr (h2.symm.trans h)
def pw (a:List Int):Nat->List Int
 |0=>[1]
 |k+1=>gC (pw a k) a
theorem pw_mod (h:jb p d a b):∀k,jb p d (pw a k) (pw b k)
 |0=>.refl p d [1]
 |k+1=>(pw_mod h k).CT h
def Lj:Int->List Int->Prop:=λz ns=>match ns with
 |[a,b]=>2<=z/\z.natAbs<2^9000/\a.natAbs<2^9000
 |_=>False
def BZ (C:Addr):Int->List Int->Int ⊕ Addr:=λz ns=>match ns with
 |[a,b]=>if Int.gcd b z=1 then .inl (pl z (a*tu b z)) else .inr C
 |_=>.inr C
theorem MK (g:Int.gcd y z=1):BZ C z [x,y]=.inl (pl z (x*tu y z)):=ae g
theorem Qc (g:¬Int.gcd y z=1):BZ C z [x,y]=.inr C:=af g
theorem xX (T:Top K mg cFE cNN cBA cBL cBP cBT cHP cNW cNP cNO cK cR):Q5 P w K mg base 2 (KR cR) "over" 2 Lj (BZ cNO):=by
 refine⟨λH a z ka=>?_⟩;obtain⟨q0,dx,fs,e,hz,hm⟩:=id ka;obtain⟨f,fd,Fu,b,m1⟩:=T.yp;refine⟨cR,dx,fs,["self","a","b"],e,hm "over" (by decide +kernel),f,fd,?_,b,m1,T.mq⟩;obtain⟨oc,od,kV,doc,pm,an,cdv,ct,osl,rfl,lk,hcd⟩:=Fu.ex;refine fn_of lk hcd wN (λvs H Q E h=>?_) λA outer s H vs Q E hr h=>?_
 ·obtain⟨ns,hl,rfl,_⟩:=h;show(ns.map V.int).length+1=3;rw[aa,hl]
 obtain⟨ns,hl,rfl,ka2,hp,k,ke⟩:=h;obtain⟨x,y,rfl⟩:=Qn hl;obtain⟨hz2,h9,hx⟩:=hp;obtain⟨_,dx2,fs2,e2,hz',_⟩:=id ka2;obtain⟨C3,dx3,fs3,ps3,e3,l3,M3⟩:=(sy (P:=P) (w:=w) (base:=base) T).ex H a z ka2;obtain⟨f3,fd3,F3,b3,mm3,c3⟩:=M3.ex;refine⟨_,(pss_one (ps_ret (pe_meth (pv 0) c3 mm3 F3 hr b3 .nil pass0 (pa_cons (pe_op vM (iD 1) (wR (Dh T) Og hr (pa_cons (iD 2) (pa_cons (pe_fld (pv 0) rfl) pa_nil)))) pa_nil)))),?_⟩;refine⟨_,rfl,a,dx3,fs3,rfl,e3,l3,rfl,rfl,_,rfl,a,cR,dx2,fs2,_,rfl,e2,T.mq,T.jK,hz',[.int y,.int z],λ_=>false,(λ_ z=>by cases z),⟨_,_,rfl,rfl,_,_,rfl,rfl,rfl⟩,⟨y,z,rfl,hz2,h9⟩,λp hp v H1 s1 a1=>?_,λer her H1 s1=>?_⟩
 ·have hp:wF cNO [.int y,.int z]=.val p:=hp;by_cases g:Int.gcd y z=1
  ·rw[show wF cNO [.int y,.int z]=.val (.int (tu y z)) from ae g]at hp;cases hp;have a1:v=.int (tu y z):=a1;subst a1;obtain⟨t0,t1,_⟩:=Bm hz2 (Aa hz2 g);have tb:(tu y z).natAbs<2^9000:=by
    generalize 2^9000=B at *
    lia
   refine⟨x,tu y z,rfl,rfl,qj (n:=9000) (m:=9000) hx tb,[x*tu y z],rfl,rfl,ka2.same s1,tT,?_⟩;exact k _ (MK g) H1 s1
  ·rw[show wF cNO [.int y,.int z]=.err cNO from af g]at hp;cases hp
 ·have her:wF cNO [.int y,.int z]=.err er:=her;by_cases g:Int.gcd y z=1
  ·rw[show wF cNO [.int y,.int z]=.val (.int (tu y z)) from ae g]at her;cases her
  ·rw[show wF cNO [.int y,.int z]=.err cNO from af g]at her;cases her;exact ke cNO (Qc g) H1 s1
def Gh (z a b:Int):Option Int:=some (pl z (a*tu b z))
theorem hov (z2:2<=z)(g:Int.gcd b z=1)(a c:Int)(ha:pl z a=a)(h:Gh z a b=some c):pl z (c*b)=a/\pl z c=c:=by
 have e:=aw h;subst e;obtain⟨_,_,t⟩:=Bm z2 (Aa z2 g);refine⟨?_,yF _ _⟩;rw[GQ];have e1:pl z (a*tu b z*b)=pl z (a*pl z (tu b z*b)):=by rw[Jq,bH]
 rw[e1,jU (n:=tu b z*b) (by lia),t,bR,ha]
def K4 (z:Int)(fo d:List Int):Option (List Int×List Int):=Cv z (Gh z) d (fo.length+1) (List.replicate (fo.length+1-d.length) 0) fo
def sH (z:Int)(fo d:List Int):PV:=match K4 z fo d with
 |none=>.non
 |some p=>.tup [.ints p.1,.ints p.2]
structure KH (p:Int)(g:List Int):Prop where
 pr:iG p
 len:g.length<=200
 ne:Tz p g≠[]
 gcd:Int.gcd (gB (Tz p g)) p=1
theorem KH.nz (h:KH p g)(x:Int)(hx:p ∣ x*gB (Tz p g)):p ∣ x:=by
 obtain⟨t,_,_,ht⟩:=Aa h.pr.1 h.gcd;have h1:=dW ht;have h2:p ∣ x*gB (Tz p g)*t:=br hx;have h3:p ∣ x*(1-t*gB (Tz p g)):=a9 h1;have e1:x=x*gB (Tz p g)*t+x*(1-t*gB (Tz p g)):=by rw[cx,bR,bV t,<- bH];lia
 rw[e1];exact bJ h2 h3
theorem vZ (h:KH p g)(f:Li):∃q,K4 p (Tz p f) (Tz p g)=some (q,rm p (Tz p g) f)/\KD p (Tz p g) (rm p (Tz p g) f)/\jb p (Tz p g) f (rm p (Tz p g) f):=by
 have hd:=lP h.ne;have p2:2<=p:=h.pr.1;obtain⟨h1,h2⟩:=yW (z:=p) (ov:=Gh p) (f:=Tz p f) (d:=Tz p g) hd (λa c ha hc=>hov p2 h.gcd a c ha hc) ((Tz p f).length+1) _ _ (qG.start (g8 p f) (jz p f)) (cy _);cases o:Cv p (Gh p) (Tz p g) ((Tz p f).length+1) (List.replicate ((Tz p f).length+1-(Tz p g).length) 0) (Tz p f) with
 |none=>obtain⟨_,_,_,_,z⟩:=h2 o;cases z
 |some x=>
  obtain⟨q,r⟩:=x;obtain⟨I,hl⟩:=h1 q r o;have ir:KD p (Tz p g) r:=⟨I.rf,I.rr,hl⟩;have er:jb p (Tz p g) f r:=(jb.Tz p (Tz p g) f).trans ⟨q,λn=>by
   have k:=I.eq n;have e:(Tz p f).getD n 0-r.getD n 0-cm q (Tz p g) n = -(cm q (Tz p g) n+r.getD n 0-(Tz p f).getD n 0):=by lia
   rw[e];exact bu.mpr k⟩
  have em:=Ob h.nz ir er;rw[em];exact⟨q,o,ir,er⟩
theorem Io (hl:d.length<=r.length):Cv z (Gh z) d (n+1) q r=Cv z (Gh z) d n (q.set (r.length-d.length) (pl z (gB r*tu (gB d) z))) (nR z d r (pl z (gB r*tu (gB d) z))):=by
 conv=>lhs;unfold Cv
 rw[af (by lia)];rfl
theorem Ig (hl:r.length<d.length):Cv z (Gh z) d (n+1) q r=some (q,r):=by unfold Cv;rw[ae hl]
theorem wQ (hp:iG p)(h:pl p m=m):0<=m/\m<9973:=by have:=Pb (z:=p) (n:=m) (by have:=hp.1;lia);have:=hp.2.1;lia
theorem mQ (T:Top K mg cFE cNN cBA cBL cBP cBT cHP cNW cNP cNO cK cR):Ok P w K mg base 3 "divided" ["kind","f","g"] (HJ K (Gr cR) (λas=>∃p f g,as=[.ob 0 p,.ints f,.ints g]/\KH p g/\f.length<=200) λas=>match as with
  |[.ob 0 p,.ints f,.ints g]=>sH p (Tz p f) (Tz p g)
  |_=>.non):=by
 refine HQ T.Df jh (λas ⟨a,b,c,h,_⟩=>by rw[h];rfl) (λf cdv A outer s H E hr=>⟨_,(gq (pM (i:=3) jh.nd rfl (Or.inl rfl) (xf (jf T) hr (gm (xv 0) (gm (xl 1) gF))))
 (gq (gU (i:=4) jh.nd rfl (Or.inl rfl) (jt (xf (jf T) hr (gm (xv 0) (gm (xl 2) gF)))))
 (gq (jq (lO (pW 4))
 (gG uL)
 iT)
 (gq (pM (i:=5) jh.nd rfl (Or.inl rfl) (MF (mO (gm gw gF)) (lN (kO (jT 3 T.jW) (jT 4 T.jW)) gw) (λ_=>rfl)))
 (gq (j9 aQ (OD (jT 3 T.jW) (jT 4 T.jW))
 (gq (gP (i:=6) jh.nd rfl (Or.inl rfl) (kO (jT 3 T.jW) (jT 4 T.jW)))
 (gq (gP (i:=7) jh.nd rfl (Or.inl rfl) (BL (O7 (z6 0 (xX T) hr (gm (mV 3 (zO gw) (λ_ _=>rfl)) (gm (mV 4 (zO gw) (λ_ _=>rfl)) gF))))))
 (gq (qx 5 (xn 6) (xn 7))
 (gq (Do (k:=8) (j:=9) aQ rfl (by rfl) T.qN (xl 4) (pg_tup rfl (pgs_cons (pg_name (i:=8) jh.nd rfl (Or.inl rfl)) (pgs_cons (pg_name (i:=9) jh.nd rfl (Or.inl rfl)) pgs_nil)))
 (gG (qx 3 (lN (xn 6) (xn 8)) (xF 0 (sy T) hr (gm (kO (mV 3 (lN (xn 6) (xn 8)) (λ_ _=>rfl)) (jF (xn 7) (xn 9))) gF)))))
 (gG (Ab 3 (nq T) hr)))))))
 (jo 3 (jo 5 (gG (iu (rW (gm (xl 5) (gm (xl 3) gF)))))))))))),λas hp=>?_⟩)
 obtain⟨z,f,g,rfl,ok,hfl⟩:=hp;have hgl:=ok.len;have p2:2<=z:=ok.pr.1;have h9:z.natAbs<2^9000:=by
  have:z.natAbs<=2^14:=by have:=ok.pr.2.1;lia
  exact bc this (bL (by decide) (by decide))
 refine⟨⟨⟨rfl,rfl,tT⟩,z,f,rfl,by lia⟩,λfo efo=>?_⟩;have efo:fo=Tz z f:=efo;refine⟨⟨⟨rfl,rfl,tT⟩,z,g,rfl,by lia⟩,λd ed=>?_⟩;have ed:d=Tz z g:=ed;have lf:fo.length<=200:=by rw[efo];exact aG (oX _ _) hfl
 have lg:d.length<=200:=by rw[ed];exact aG (oX _ _) hgl
 have ff:gZ fo:=by rw[efo];exact g8 z f
 have fr:∀n,pl z (fo.getD n 0)=fo.getD n 0:=by rw[efo];exact jz z f
 have dr:∀n,pl z (d.getD n 0)=d.getD n 0:=by rw[ed];exact jz z g
 have dne:¬d=[]:=by rw[ed];exact ok.ne
 have gc:Int.gcd (gB d) z=1:=by rw[ed];exact ok.gcd
 have hd:=lP dne;have goal:∀q r,K4 z fo d=some (q,r)->PV.tup [.ints q,.ints r]=sH z (Tz z f) (Tz z g):=λq r h=>by rw[<- efo,<- ed];unfold sH;rw[h]
 have pr:=ok.pr;clear efo ed ok;refine iR (Z':=[.fr (.ob 0 z),.fr (.ints f),.fr (.ints g),.ow (.ints fo),.fr (.ints d),.un,.un,.un,.un,.un]) rfl ?_;refine⟨.inl rfl,λq=>?_,λ_=>?_⟩
 ·have q:¬¬d=[]:=q;exact q dne
 refine⟨⟨⟨⟨tT,tT⟩,tT⟩,⟨⟨.inr (.inl rfl),.inl rfl⟩,tT⟩,?_,?_⟩,λq0 eq0=>?_⟩
 ·show -(2:Int)^63<=(fo.length:Int)-(d.length:Int)+1;lia
 ·show((fo.length:Int)-(d.length:Int)+1).toNat<=1000;lia
 have eq0:q0=List.replicate ((fo.length:Int)-(d.length:Int)+1).toNat 0:=eq0;have en:((fo.length:Int)-(d.length:Int)+1).toNat=fo.length+1-d.length:=by lia
 rw[en]at eq0;refine⟨λZ=>∃q r v6 v7 v8 v9 fuel,Z=[.fr (.ob 0 z),.fr (.ints f),.fr (.ints g),.ow (.ints r),.fr (.ints d),.ow (.ints q),v6,v7,v8,v9]/\qG z fo d q r/\r.length<fuel/\Cv z (Gh z) d fuel q r=K4 z fo d,λZ=>(getL Z 3).length,⟨q0,fo,.un,.un,.un,.un,fo.length+1,rfl,by rw[eq0];exact qG.start ff fr,cy _,by rw[eq0];rfl⟩,?_⟩;rintro Z ⟨q,r,v6,v7,v8,v9,fuel,rfl,I,hfu,hdv⟩;refine⟨⟨.inr (.inl rfl),.inl rfl⟩,λk=>?_,λk=>?_⟩
 ·have k:(d.length:Int)<=(r.length:Int):=k;have hl:d.length<=r.length:=by lia
  have rl:=I.rl;obtain⟨fuel,rfl⟩:∃n,fuel=n+1:=⟨fuel-1,by lia⟩;rw[Io hl]at hdv;refine⟨⟨.inr (.inl rfl),.inl rfl⟩,λgap egap=>?_⟩;have egap:gap=(r.length:Int)-(d.length:Int):=egap;have egap:gap=((r.length-d.length:Nat):Int):=by lia
  subst egap;have lr:r.getD (jP r.length (-1)) 0=gB r:=wK r (by lia);have ld:d.getD (jP d.length (-1)) 0=gB d:=wK d hd;have fo_r:=MK (C:=cNO) (z:=z) (x:=gB r) gc;have rs:=wQ pr (I.rr (r.length-1));have r9:(gB r).natAbs<2^9000:=by
   have:(gB r).natAbs<=2^14:=by unfold gB;lia
   exact bc this (bL (by decide) (by decide))
  have eF:BZ cNO z [r.getD (jP r.length (-1)) 0,d.getD (jP d.length (-1)) 0]=.inl (pl z (gB r*tu (gB d) z)):=by rw[lr,ld];exact fo_r
  obtain⟨c,hc⟩:∃c,c=pl z (gB r*tu (gB d) z):=⟨_,rfl⟩;rw[<- hc]at eF hdv;refine⟨⟨⟨⟨rfl,⟨⟨.inr (.inl rfl),tT,by show -(r.length:Int) <= -1;lia,by show(-1:Int)<(r.length:Int);lia⟩,⟨.inl rfl,tT,by show -(d.length:Int) <= -1;lia,by show(-1:Int)<(d.length:Int);lia⟩,tT⟩,tT,?_⟩,?_⟩,?_⟩,λc' ec'=>?_⟩
  ·show Lj z [r.getD (jP r.length (-1)) 0,d.getD (jP d.length (-1)) 0];rw[lr];exact⟨p2,h9,r9⟩
  ·show(vL (BZ cNO z [r.getD (jP r.length (-1)) 0,d.getD (jP d.length (-1)) 0])).QV;rw[eF];exact tT
  ·show(vL (BZ cNO z [r.getD (jP r.length (-1)) 0,d.getD (jP d.length (-1)) 0])).get=.int (Nf (vL (BZ cNO z [r.getD (jP r.length (-1)) 0,d.getD (jP d.length (-1)) 0])).get);rw[eF];rfl
  have ec':c'=Nf (vL (BZ cNO z [r.getD (jP r.length (-1)) 0,d.getD (jP d.length (-1)) 0])).get:=ec';rw[eF]at ec';have ec':c'=c:=ec';subst ec';obtain⟨h1,h2⟩:=hov p2 gc _ _ (I.rr (r.length-1)) (show Gh z (gB r) (gB d)=some c' by rw[hc];rfl);obtain⟨J,hlt⟩:=I.step hd hl h1 h2;have cs:=wQ pr h2;have ql:=I.ql;refine iR (Z':=[.fr (.ob 0 z),.fr (.ints f),.fr (.ints g),.ow (.ints r),.fr (.ints d),.ow (.ints q),.fr (.int ((r.length-d.length:Nat):Int)),.fr (.int c'),v8,v9]) rfl ?_;have ix5:jP q.length ((r.length-d.length:Nat):Int)=r.length-d.length:=by unfold jP;rw[ae (by lia)];lia
  refine⟨rfl,rfl,rfl,⟨by show -(q.length:Int)<=((r.length-d.length:Nat):Int);lia,by show((r.length-d.length:Nat):Int)<(q.length:Int);lia⟩,?_⟩;refine iR (Z':=[.fr (.ob 0 z),.fr (.ints f),.fr (.ints g),.ow (.ints r),.fr (.ints d),.ow (.ints (q.set (r.length-d.length) c')),.fr (.int ((r.length-d.length:Nat):Int)),.fr (.int c'),v8,v9]) (by rw[<- ix5];rfl) ?_;refine⟨rfl,λi Z=>∃row v8 v9,Z=[.fr (.ob 0 z),.fr (.ints f),.fr (.ints g),.ow (.ints row),.fr (.ints d),.ow (.ints (q.set (r.length-d.length) c')),.fr (.int ((r.length-d.length:Nat):Int)),.fr (.int c'),v8,v9]/\qw z d r c' i row,⟨r,v8,v9,rfl,zL z d r c'⟩,?_,?_⟩
  ·rintro i n Z hn ⟨row,v8,v9,rfl,ht⟩;have hn:d[i]?=some n:=hn;have hi:=(aD.mp hn).1;have en:d.getD i 0=n:=getD_at' hn;have l1:-(row.length:Int)<=((r.length-d.length:Nat):Int)+(i:Int):=by lia
   have l2:((r.length-d.length:Nat):Int)+(i:Int)<(row.length:Int):=by rw[ht.1];lia
   have ix:jP row.length (((r.length-d.length:Nat):Int)+(i:Int))=r.length-d.length+i:=by unfold jP;rw[ae (by lia)];lia
   have ns:=wQ pr (dr i);rw[en]at ns;refine⟨⟨rfl,⟨⟨⟨.inr (.inl rfl),⟨rfl,rfl⟩,l1,l2⟩,rfl,rfl,jZ ⟨by show -(2:Int)^64<n;lia,by show n<(2:Int)^64;lia⟩⟩,tT⟩,tT,tT⟩,rfl,⟨rfl,rfl⟩,⟨l1,l2⟩,row.set (r.length-d.length+i) (pl z (row.getD (r.length-d.length+i) 0-c' * n)),.fr (.int i),.fr (.int n),?_,?_⟩
   ·rw[<- ix];rfl
   ·have:=CW ht hl hi;rw[en]at this;exact this
  ·rintro Z ⟨row,v8,v9,rfl,ht⟩;have ht:qw z d r c' d.length row:=ht;have et:=Hd ht hl;refine⟨rfl,tT,⟨q.set (r.length-d.length) c',nR z d r c',.fr (.int ((r.length-d.length:Nat):Int)),.fr (.int c'),v8,v9,fuel,?_,J,by lia,hdv⟩,?_⟩
   ·rw[<- et];rfl
   ·show(ik row).length<r.length;rw[et];exact hlt
 ·have k:¬(d.length:Int)<=(r.length:Int):=k;obtain⟨fuel,rfl⟩:∃n,fuel=n+1:=⟨fuel-1,by lia⟩;rw[Ig (by lia)]at hdv;exact⟨⟨rfl,rfl,tT⟩,goal q r hdv.symm⟩
def Bd (r:List Int):Prop:=∀m∈r,m.natAbs<2^9000
theorem Hg {m:Int}(h:0<=m/\m<9973):m.natAbs<2^9000:=by
 have:m.natAbs<=2^14:=by lia
 exact bc this (bL (by decide) (by decide))
theorem MT (h:KH p g)(f:Li):∃q,sH p (Tz p f) (Tz p g)=.tup [.ints q,.ints (rm p (Tz p g) f)]:=by obtain⟨q,e,_⟩:=vZ h f;exact⟨q,by unfold sH;rw[e]⟩
def m5:Nat->Int
 |0=>2
 |n+1=>if uW ((n:Int)+1)=true then(n:Int)+1 else m5 n
theorem uB:∀n,iG (m5 n)
 |0=>Lq
 |n+1=>by
  unfold m5;by_cases h:uW ((n:Int)+1)=true
  ·rw[ae h];exact Ib.mp h
  ·rw[af h];exact uB n
theorem CG {m:Int}(h:2<=m)(hp:uW m=true):m5 m.toNat=m:=by
 obtain⟨k,rfl⟩:∃k:Nat,m=(k:Int)+1:=⟨(m-1).toNat,by lia⟩;have e:((k:Int)+1).toNat=k+1:=by lia
 rw[e];unfold m5;rw[ae hp]
theorem zA {m:Int}(h:2<=m)(hp:¬uW m=true):m5 m.toNat=m5 (m-1).toNat:=by
 obtain⟨k,rfl⟩:∃k:Nat,m=(k:Int)+1:=⟨(m-1).toNat,by lia⟩;have e:((k:Int)+1).toNat=k+1:=by lia
 have e2:((k:Int)+1-1).toNat=k:=by lia
 rw[e,e2];show(if uW ((k:Int)+1)=true then(k:Int)+1 else m5 k)=m5 k;rw[af hp]
def Om:List Int->Prop:=λns=>match ns with
 |[n]=>2<=n/\n<=9973
 |_=>False
theorem rN (T:Top K mg cFE cNN cBA cBL cBP cBT cHP cNW cNP cNO cK cR):Ok P w K mg base 1 "_law_divided" ["_law_number"] (PP 1 Om λns=>!Qk ns):=by
 refine mL.ok T.uz kW (λvs H Q E h=>?_) (λf cdv A outer s H vs Q E hr h=>?_)
 ·obtain⟨ns,hl,rfl,_⟩:=h;rw[aa,hl];rfl
 obtain⟨ns,hl,rfl,hp,k⟩:=h;obtain⟨n,rfl⟩:=Jd hl;have h:2<=n/\n<=9973:=hp;refine⟨_,(pss_cons (vP (i:=1) kW.nd rfl (Or.inl rfl) lV)
 (pss_cons (uE aQ (Hy (Hv (iD 1) (iD 1)) (iD 0))
 (pss_cons (sE (DP (GJ (iD 0) (iD 1)) lV)
 (pss_one (ps_ret pe_bl))
 pss_nil)
 (pss_one (vP (i:=1) kW.nd rfl (Or.inl rfl) (KZ (iD 1) lV)))))
 (pss_one (ps_ret pe_bl)))),?_⟩
 have k:Q (.bl (!uW n)) H:=k;refine⟨by walk_at "pn",λd0 e0=>?_⟩;have e0:d0=2:=e0;subst e0;refine⟨λσ H'=>∃d,σ=[some (.int n),some (.int d)]/\H'=H/\2<=d/\d<=10000/\uV n d,λσ _=>(10001-gI σ 1).toNat,⟨2,rfl,rfl,by lia,by lia,λe h1 h2=>by lia⟩,?_⟩;rintro σ H' ⟨d,rfl,rfl,h2,h3,cl⟩;refine⟨⟨⟨rfl,rfl,jZ ⟨?_,?_⟩⟩,rfl⟩,λc=>?_,λc=>?_⟩
 ·show -(2:Int)^64<d;lia
 ·show d<(2:Int)^64;lia
 ·have c:d*d<=n:=c;have:=Ko h2;refine⟨⟨⟨rfl,rfl,by show(0:Int)<d;lia⟩,tT⟩,λhit=>?_,λhit=>?_⟩
  ·have hit:n % d=0:=hit;rw[qd (λq=>q.2.2 d h2 c hit)]at k;exact k
  ·have hit:¬n % d=0:=hit;refine⟨⟨rfl,tT⟩,λm e=>?_⟩;have e:m=d+1:=e;subst e;exact⟨⟨d+1,rfl,rfl,by lia,by lia,cl.next hit⟩,by show(10001-(d+1)).toNat<(10001-d).toNat;lia⟩
 ·have c:¬d*d<=n:=c;rw[pK (.out cl h2 (by lia) (by lia) c)]at k;exact k
theorem uf (T:Top K mg cFE cNN cBA cBL cBP cBT cHP cNW cNP cNO cK cR):Ok P w K mg base 1 "_law_divided" ["_law_number"] (zz K (Gr cR) (λas=>wB as/\as.length=1/\Om (lE as)) λas=>!Qk (lE as)):=N7 (rN T)
theorem JM (h:iG p){d:Nat}(hd:(d:Int) ∣ p):d=1\/(d:Int)=p:=by
 obtain⟨h2,_,hn⟩:=h;obtain⟨c,hc⟩:=hd;by_cases d1:d=1
 ·exact .inl d1
 have d0:d≠0:=λz=>by rw[z]at hc;simp at hc;lia
 have c0:0<c:=by
  rcases Int.lt_or_le 0 c with h|h
  ·exact h
  ·have:=bi (show(0:Int)<=d by lia) h;lia
 by_cases c1:c=1
 ·right;rw[hc,c1,bR]
 exfalso;by_cases le:(d:Int)<=c
 ·have sq:(d:Int)*d<=p:=by rw[hc];exact aR le (by lia)
  exact hn d (by lia) sq (by rw[hc];exact Int.mul_emod_right _ _)
 ·have sq:c*c<=p:=by rw[hc];exact Int.mul_le_mul_of_nonneg_right (by lia) (by lia)
  exact hn c (by lia) sq (by rw[hc];exact Int.mul_emod_left _ _)
theorem Aw {p b:Int}(h:iG p)(hb:¬b % p=0)(m:Nat):Int.gcd b (p^m)=1:=by
 have g1:Int.gcd b p=1:=by
  rcases JM h (d:=Int.gcd b p) (Int.gcd_dvd_right ..) with g|g
  ·exact g
  ·exfalso;have:=Int.gcd_dvd_left b p;rw[g]at this;exact hb (bU this)
 unfold Int.gcd at g1 ⊢;rw[Int.natAbs_pow];exact Nat.Coprime.pow_right m g1
theorem Qm:iG 3:=⟨by lia,by lia,λd h1 h2=>by have:=pH (d:=2) (e:=d) (by lia) h1;lia⟩
theorem Qu:iG 5:=⟨by lia,by lia,λd h1 h2=>by
 by_cases c:d=2
 ·rw[c];decide
 ·have:=pH (d:=3) (e:=d) (by lia) (by lia);lia⟩
theorem QL:iG 7:=⟨by lia,by lia,λd h1 h2=>by
 by_cases c:d=2
 ·rw[c];decide
 ·have:=pH (d:=3) (e:=d) (by lia) (by lia);lia⟩
def lR (c:Int):Int:=if c % 2=0 then([2,3,5,7]:List Int).getD (jP 4 (c / 2 % 4)) 0 else m5 (2+c / 2*48271 % 9972).toNat
theorem yP (c:Int):iG (lR c):=by
 unfold lR;split
 ·have k:c / 2 % 4=0\/c / 2 % 4=1\/c / 2 % 4=2\/c / 2 % 4=3:=by lia
  rcases k with k|k|k|k<;>rw[k]
  ·exact Lq
  ·exact Qm
  ·exact Qu
  ·exact QL
 ·exact uB _
theorem yo (T:Top K mg cFE cNN cBA cBL cBP cBT cHP cNW cNP cNO cK cR):Ok P w K mg base 2 "_law_prime_by" ["_law_cell"] (DK K (Gr cR) (λas=>∃c,as=[.int c]) λas=>match as with
  |[.int c]=>lR c
  |_=>0):=by
 refine HQ T.zf nu (λas ⟨c,h⟩=>by rw[h];rfl) (λf cdv A outer s H E hr=>⟨_,(gq (jq (Kh (jx (xn 0) gw) gw)
 (gG (iu (BL (jL (jt (mO (gm gw (gm gw (gm gw (gm gw gF)))))) (jx (sZ (xn 0) gw) gw) (λ_ _=>rfl)))))
 iT)
 (gq (gP (i:=1) nu.nd rfl (Or.inl rfl) (lN gw (jx (jF (sZ (xn 0) gw) gw) gw)))
 (gq (j9 aQ (pD (Le (uf T) hr (gm (xn 1) gF)))
 (gG (gP (i:=1) nu.nd rfl (Or.inl rfl) (kO (xn 1) gw))))
 (gG (iu (xn 1)))))),λas hp=>?_⟩)
 obtain⟨c,rfl⟩:=hp;refine⟨by walk_at "xs",λq=>?_,λq=>?_⟩
 ·have q:c % 2=0:=q;refine⟨⟨⟨⟨⟨tT,tT,tT,tT,tT⟩,tT⟩,by walk_at "xs",?_⟩,rfl⟩,?_⟩
  ·show -(4:Int)<=c / 2 % 4/\c / 2 % 4<4;lia
  ·show PV.int (([2,3,5,7]:List Int).getD (jP 4 (c / 2 % 4)) 0)=PV.int (lR c);unfold lR;rw[ae q]
 have q:¬c % 2=0:=q;refine⟨⟨tT,⟨by walk_at "xs",tT,jZ (by decide)⟩,tT,by show(0:Int)<9972;decide⟩,λn0 en0=>?_⟩;have en0:n0=2+c / 2*48271 % 9972:=en0;have goal:m5 n0.toNat=lR c:=by unfold lR;rw[af q,en0]
 have b0:2<=n0/\n0<=9973:=by lia
 clear en0;refine⟨λZ=>∃m,Z=[.fr (.int c),.fr (.int m)]/\2<=m/\m<=9973/\m5 m.toNat=lR c,λZ=>(xR Z 1).toNat,⟨n0,rfl,b0.1,b0.2,goal⟩,?_⟩;rintro Z ⟨m,rfl,g1,g2,g3⟩;refine⟨⟨⟨rfl,tT⟩,tT,rfl,⟨g1,g2⟩⟩,λr=>?_,λr=>?_⟩
 ·have r:(!uW m)=true:=r;have r:¬uW m=true:=by rw[Bool.not_eq_true']at r;rw[r];decide
  have m2:m≠2:=λz=>r (by rw[z];exact pK Lq);refine⟨⟨rfl,tT⟩,λu e=>?_⟩;have e:u=m-1:=e;subst e;exact⟨⟨m-1,rfl,by lia,by lia,by rw[<- zA g1 r];exact g3⟩,by show(m-1).toNat<m.toNat;lia⟩
 ·have r:¬(!uW m)=true:=r;have r:uW m=true:=by
   cases z:uW m with
   |true=>rfl
   |false=>exact absurd (by rw[z];rfl) r
  refine⟨rfl,?_⟩;show PV.int m=PV.int (lR c);rw[<- g3,CG g1 r]
theorem ni (f:Li)(n:Nat):cm f [1] n=f.getD n 0:=by
 rw[gK,jM];by_cases c:n=0
 ·rw[ae c,bt,bq]
 ·rw[af c,jg,bt,bq]
def Sm (a b:List Int):Prop:=∀n,a.getD n 0=b.getD n 0
theorem Sm.M8 (h:Sm a b):jb p d a b:=.of λn=>by rw[h n,cq];exact aI p
def yH (c:Int)(a:List Int):List Int:=a.map λx=>c*x
theorem iy (c:Int)(a:Li)(n:Nat):(yH c a).getD n 0=c*a.getD n 0:=kZ _ (bd c) a n
theorem jb.add (h:jb p d a b)(k:jb p d c e):jb p d (jc a c) (jc b e):=by
 obtain⟨Q,h⟩:=h;obtain⟨S,k⟩:=k;refine⟨jc Q S,λn=>?_⟩;rw[lK,gH,gH];have e:a.getD n 0+c.getD n 0-(b.getD n 0+e.getD n 0)-(cm Q d n+cm S d n)=(a.getD n 0-b.getD n 0-cm Q d n)+(c.getD n 0-e.getD n 0-cm S d n):=by lia
 rw[e];exact bJ (h n) (k n)
theorem jb.QG (c:Int)(h:jb p d a b):jb p d (yH c a) (yH c b):=by
 obtain⟨Q,h⟩:=h;refine⟨yH c Q,λn=>?_⟩;have e1:cm (yH c Q) d n=c*cm Q d n:=by unfold cm;rw[<- nY];exact ig λi _=>by rw[iy,bH]
 rw[e1,iy,iy,<- cx,<- cx];exact a9 (h n)
def Dv (p:Int)(d a:List Int):Prop:=jb p d a []
def Lc (p:Int)(f g r:List Int):Prop:=∃s t:List Int,∀n,p ∣ r.getD n 0-(cm s f n+cm t g n)
theorem Hh (f:Li)(n:Nat):cm [1] f n=f.getD n 0:=by rw[gK,ni]
theorem Jb (c:Int)(f:Li)(n:Nat):cm [c] f n=c*f.getD n 0:=by
 rw[jM];by_cases h:n=0
 ·rw[ae h,bq]
 ·rw[af h,jg,bq]
theorem Lc.left (p:Int)(f g:Li):Lc p f g f:=⟨[1],[],λn=>by rw[Hh,jg,bq,cq];exact aI p⟩
theorem Lc.right (p:Int)(f g:Li):Lc p f g g:=⟨[],[1],λn=>by rw[Hh,jg,c8,cq];exact aI p⟩
theorem Lc.add (h:Lc p f g r)(k:Lc p f g s):Lc p f g (jc r s):=by
 obtain⟨a,b,h⟩:=h;obtain⟨c,d,k⟩:=k;refine⟨jc a c,jc b d,λn=>?_⟩;rw[lK,lK,gH];have e:r.getD n 0+s.getD n 0-(cm a f n+cm c f n+(cm b g n+cm d g n))=(r.getD n 0-(cm a f n+cm b g n))+(s.getD n 0-(cm c f n+cm d g n)):=by lia
 rw[e];exact bJ (h n) (k n)
theorem Lc.congr (h:Lc p f g r)(k:∀n,p ∣ s.getD n 0-r.getD n 0):Lc p f g s:=by
 obtain⟨a,b,h⟩:=h;refine⟨a,b,λn=>?_⟩;have e:s.getD n 0-(cm a f n+cm b g n)=(s.getD n 0-r.getD n 0)+(r.getD n 0-(cm a f n+cm b g n)):=by lia
 rw[e];exact bJ (k n) (h n)
theorem Lc.mul (q:Li)(h:Lc p f g r):Lc p f g (gC q r):=by obtain⟨a,b,h⟩:=h;refine⟨gC q a,gC q b,λn=>?_⟩;have k:=rB (p:=p) (a:=r) (b:=jc (gC a f) (gC b g)) (c:=q) (λi=>by rw[gH,gr,gr];exact h i) n;rw[lK,gK r q,gK (gC a f) q,gK (gC b g) q]at k;rw[gr,iV,iV];exact k
theorem Lc.trans (hb:Lc p f g b)(hr:Lc p f g r)(hx:Lc p b r x):Lc p f g x:=by obtain⟨s,t,hx⟩:=hx;refine((hb.mul s).add (hr.mul t)).congr λn=>?_;rw[gH,gr,gr];exact hx n
theorem Dv.Bx (hf:Dv p d f)(hg:Dv p d g)(h:Lc p f g r):Dv p d r:=by
 obtain⟨s,t,h⟩:=h;have z:∀s:List Int,jb p d (gC [] s) []:=λs=>Sm.M8 λn=>by rw[gr,jg];rfl
 have k:∀{f:List Int},Dv p d f->∀s,jb p d (gC s f) []:=λ{f} hf s=>(jb.comm p d s f).trans ((jb.mul hf s).trans (z s));have e:jb p d r (jc (gC s f) (gC t g)):=.of λn=>by rw[gH,gr,gr];exact h n
 exact e.trans (((k hf s).add (k hg t)).trans (.refl p d _))
theorem Lc.dv (h:Lc p b [] f):Dv p b f:=by obtain⟨s,t,h⟩:=h;refine⟨s,λn=>?_⟩;have k:=h n;rw[gK t [],jg,bq]at k;show p ∣ f.getD n 0-0-cm s b n;rw[aW];exact k
theorem Dv.self (p:Int)(d:Li):Dv p d d:=(Lc.left p d []).dv
theorem kI:gZ []:=λh=>absurd rfl h
theorem vC (h:gB r=1):r≠[]:=λe=>by rw[e]at h;exact absurd h (by decide)
theorem Ew (fr:gZ r)(rr:∀n,pl p (r.getD n 0)=r.getD n 0)(r1:r=[]\/gB r=1)(fs:gZ s)(rs:∀n,pl p (s.getD n 0)=s.getD n 0)(s1:s=[]\/gB s=1)(h:Dv p r s)(k:Dv p s r):r=s:=by
 have nilE:∀{s:List Int},gZ s->(∀n,pl p (s.getD n 0)=s.getD n 0)->Dv p [] s->s=[]:=λ{s} fs rs h=>by obtain⟨Q,h⟩:=h;refine jA fs kI λn=>n8 (rs n) (by show pl p 0=0;exact jO p) ?_;have:=h n;rw[gK,jg,aW]at this;exact this
 rcases r1 with r1|r1
 ·subst r1;exact(nilE fs rs h).symm
 rcases s1 with s1|s1
 ·subst s1;exact nilE fr rr k
 have shorter:∀{r s:List Int},gZ r->(∀n,pl p (r.getD n 0)=r.getD n 0)->gB r=1->gB s=1->Dv p s r->s.length<=r.length:=λ{r s} fr rr r1 s1 k=>by
  by_cases c:s.length<=r.length
  ·exact c
  ·have nz:∀x,p ∣ x*gB s->p ∣ x:=λx h=>by rw[s1,bR]at h;exact h
   exact absurd (nA nz ⟨fr,rr,by lia⟩ ⟨kI,λn=>by show pl p 0=0;exact jO p,by show 0<s.length;lia⟩ k) (vC r1)
 have l1:=shorter fr rr r1 s1 k;have l2:=shorter fs rs s1 r1 h;have l0:=lP (vC r1);have nz:∀x,p ∣ x*gB s->p ∣ x:=λx h=>by rw[s1,bR]at h;exact h
 have e0:r.getD (r.length-1) 0=1:=r1;have e1:s.getD (s.length-1) 0=1:=s1;have le:r.length=s.length:=by lia
 have tl:(Tz p (wD r s)).length<=r.length-1:=km (g8 p _) λn hn=>by
  rw[iJ,mC];by_cases c:n=r.length-1
  ·rw[c,e0,le,e1];exact jO p
  ·rw[gD (xs:=r) (by lia),gD (xs:=s) (by lia)];exact jO p
 have d:jb p s (wD r s) []:=by
  have a:Sm (wD r s) (jc r (yH (-1) s)):=λn=>by rw[mC,gH,iy];lia
  exact a.M8.trans ((jb.add k ((Dv.self p s).QG (-1))).trans (.refl p s _))
 have z:=nA nz ⟨g8 p (wD r s),jz p _,by lia⟩ ⟨kI,λn=>by show pl p 0=0;exact jO p,by show 0<s.length;lia⟩ ((jb.Tz p s _).symm.trans d);refine jA fr fs λn=>n8 (rr n) (rs n) ?_;have e2:(Tz p (wD r s)).getD n 0=0:=by rw[z];rfl
 rw[iJ,mC]at e2;have:=kh p (r.getD n 0-s.getD n 0);rw[e2,Int.zero_sub]at this;exact bu.mp this
structure GC (p:Int)(f g r:List Int):Prop where
 form:gZ r
 red:∀n,pl p (r.getD n 0)=r.getD n 0
 one:r=[]\/gB r=1
 lc:Lc p f g r
 d1:Dv p r f
 d2:Dv p r g
theorem GC.Qf (h:GC p f g r)(k:GC p f g s):r=s:=
 Ew h.form h.red h.one k.form k.red k.one (Dv.Bx h.d1 h.d2 k.lc) (Dv.Bx k.d1 k.d2 h.lc)
open Classical in
def pick (A:List Int->Prop):List Int:=if h:∃r,A r then Classical.choose h else[]
def gc (p:Int)(f g:List Int):List Int:=pick (GC p f g)
theorem xY (h:GC p f g r):gc p f g=r:=by
 have ex:∃r,GC p f g r:=⟨r,h⟩;have e:gc p f g=Classical.choose ex:=by unfold gc pick;rw[gf ex]
 rw[e];exact(dD ex).Qf h
structure xu (p:Int)(f g b r:List Int):Prop where
 i1:Lc p f g b
 i2:Lc p f g r
 i3:Lc p b r f
 i4:Lc p b r g
theorem xu.symm (h:xu p f g b r):xu p b r f g:=⟨h.i3,h.i4,h.i1,h.i2⟩
theorem xu.gc (h:xu p f g b r)(k:GC p b r x):GC p f g x:=⟨k.form,k.red,k.one,Lc.trans h.i1 h.i2 k.lc,Dv.Bx k.d1 k.d2 h.i3,Dv.Bx k.d1 k.d2 h.i4⟩
theorem Aj (h:xu p f g b r):gc p f g=gc p b r:=by have e:GC p f g=GC p b r:=funext λx=>propext ⟨h.symm.gc,h.gc⟩;show pick (GC p f g)=pick (GC p b r);rw[e]
theorem xu.step (h:jb p r b c):xu p b r r c:=by
 obtain⟨Q,h⟩:=h;refine⟨.right p b r,⟨[1],yH (-1) Q,λn=>?_⟩,⟨Q,[1],λn=>?_⟩,.left p r c⟩
 ·have e:cm (yH (-1) Q) r n = -cm Q r n:=by have k:=nY (-1) (λi=>Q.getD i 0*r.getD (n-i) 0) (n+1);unfold cm;rw[dU]at k;rw[<- k];exact ig λi _=>by rw[iy,bH]
  rw[Hh,e];have e2:c.getD n 0-(b.getD n 0 + -cm Q r n) = -(b.getD n 0-c.getD n 0-cm Q r n):=by lia
  rw[e2];exact bu.mpr (h n)
 ·rw[Hh];have e2:b.getD n 0-(cm Q r n+c.getD n 0)=b.getD n 0-c.getD n 0-cm Q r n:=by lia
  rw[e2];exact h n
theorem xu.Jo (h:∀n,p ∣ f.getD n 0-b.getD n 0)(k:∀n,p ∣ g.getD n 0-r.getD n 0):xu p f g b r:=by
 have neg:∀{x y:Int},p ∣ x-y->p ∣ y-x:=λ{x y} h=>by
  have e:y-x = -(x-y):=by lia
  rw[e];exact bu.mpr h
 exact⟨(Lc.left p f g).congr λn=>neg (h n),(Lc.right p f g).congr λn=>neg (k n),(Lc.left p b r).congr h,(Lc.right p b r).congr k⟩
def qJ (p:Int)(b:List Int):Int:=if b=[] then 1 else pl p (1*tu (gB b) p)
def o5 (p:Int)(b:List Int):List Int:=Tz p (b.map λm=>qJ p b*m)
theorem pF (hp:iG p)(fb:gZ b)(rb:∀n,pl p (b.getD n 0)=b.getD n 0)(hb:b≠[]):Int.gcd (gB b) p=1:=by
 have h1:=fb hb;have h2:=rb (b.length-1);have p2:2<=p:=hp.1;rw[jU (by lia)]at h2;have h3:¬gB b % p=0:=by show ¬b.getD (b.length-1) 0 % p=0;rw[h2];exact h1
 have:=Aw hp h3 1;rw[f9]at this;exact this
theorem pY (fb:gZ b)(rb:∀n,pl p (b.getD n 0)=b.getD n 0):Tz p b=b:=jA (g8 p b) fb λn=>by rw[iJ,rb n]
theorem wk (hp:iG p)(fb:gZ b)(rb:∀n,pl p (b.getD n 0)=b.getD n 0):GC p b [] (o5 p b):=by
 by_cases hb:b=[]
 ·subst hb;have e:o5 p []=[]:=rfl;rw[e];exact⟨kI,rb,.inl rfl,.left p [] [],.self p [],.self p []⟩
 have p2:2<=p:=hp.1;have g:=pF hp fb rb hb;have one:pl p 1=1:=by rw[jU (by lia)];exact bB (by decide) (by lia)
 have e0:qJ p b=pl p (1*tu (gB b) p):=af hb;obtain⟨h1,_⟩:=hov p2 g 1 (qJ p b) one (by rw[e0];rfl);have ng:∀n,(o5 p b).getD n 0=pl p (qJ p b*b.getD n 0):=λn=>by unfold o5;rw[iJ,kZ _ (bd _)]
 have l0:=lP hb;have k1:(o5 p b).getD (b.length-1) 0=1:=(ng _).trans h1;have l1:(o5 p b).length<=b.length:=by unfold o5;refine aG (oX _ _) ?_;rw[aa];exact aj _
 have l2:b.length<=(o5 p b).length:=by
  by_cases c:b.length<=(o5 p b).length
  ·exact c
  ·rw[gD (by lia)]at k1;exact absurd k1 (by decide)
 have le:(o5 p b).length=b.length:=by lia
 generalize qJ p b=t at *
 have ht:p ∣ t*gB b-1:=by
  have:=kh p (t*gB b);rw[h1]at this;have e:t*gB b-1 = -(1-t*gB b):=by lia
  rw[e];exact bu.mpr this
 refine⟨g8 p _,jz p _,.inr ?_,⟨[t],[],λn=>?_⟩,⟨[gB b],λn=>?_⟩,.refl p _ _⟩
 ·show(o5 p b).getD ((o5 p b).length-1) 0=1;rw[le];exact k1
 ·rw[Jb,jg,bq,ng];exact kh p _
 ·rw[Jb,ng];show p ∣ b.getD n 0-0-gB b*pl p (t*b.getD n 0);have h2:=kh p (t*b.getD n 0);generalize pl p (t*b.getD n 0)=u at *
  generalize b.getD n 0=x at *
  generalize gB b=l at *
  have e:x-0-l*u = -((t*l-1)*x+l*(u-t*x)):=by rw[fM,cx,bt,bV t l,bH];lia
  rw[e];exact bu.mpr (bJ (br ht) (a9 h2))
theorem xm (hp:iG p)(fr:gZ r)(rr:∀n,pl p (r.getD n 0)=r.getD n 0)(hr:r≠[])(hl:r.length<=200):KH p r:=by have e:=pY fr rr;exact⟨hp,hl,by rw[e];exact hr,by rw[e];exact pF hp fr rr hr⟩
theorem Kf (hp:iG p):∀(k:Nat) (b r:Li),r.length<=k->gZ b->(∀n,pl p (b.getD n 0)=b.getD n 0)->gZ r->(∀n,pl p (r.getD n 0)=r.getD n 0)->r.length<=200->GC p b r (gc p b r)
 |k,b,[],_,fb,rb,_,_,_=>by have h:=wk hp fb rb;rw[xY h];exact h
 |k+1,b,y::r,hk,fb,rb,fr,rr,hl=>by have ok:=xm hp fr rr (λz=>by cases z) hl;have e:=pY fr rr;obtain⟨_,_,ir,er⟩:=vZ ok b;rw[e]at ir er;have il:=ir.len;have ih:=Kf hp k (y::r) (rm p (y::r) b) (by lia) fr rr ir.form ir.red (by lia);have h:=(xu.step er).gc ih;rw[xY h];exact h
theorem xu.tz (p:Int)(f g:Li):xu p f g (Tz p f) (Tz p g):=by
 have k:∀(f:List Int) n,p ∣ f.getD n 0-(Tz p f).getD n 0:=λf n=>by
  rw[iJ];have:=kh p (f.getD n 0);have e:f.getD n 0-pl p (f.getD n 0) = -(pl p (f.getD n 0)-f.getD n 0):=by lia
  rw[e];exact bu.mpr this
 exact xu.Jo (k f) (k g)
theorem LQ (hp:iG p)(hg:g.length<=200):GC p f g (gc p f g):=by have tl:=oX p g;have h:=Kf hp _ (Tz p f) (Tz p g) (aj _) (g8 p f) (jz p f) (g8 p g) (jz p g) (by lia);have h:=(xu.tz p f g).gc h;rw[xY h];exact h
theorem ud (T:Top K mg cFE cNN cBA cBL cBP cBT cHP cNW cNP cNO cK cR):Ok P w K mg base 3 "turned_lead" ["kind","f"] (DK K (Gr cR) (λas=>∃p b,as=[.ob 0 p,.ints b]/\iG p/\gZ b/\∀n,pl p (b.getD n 0)=b.getD n 0) λas=>match as with
  |[.ob 0 p,.ints b]=>qJ p b
  |_=>0):=by
 refine HQ T.uy rP (λas ⟨a,b,h,_⟩=>by rw[h];rfl) (λf cdv A outer s H E hr=>⟨_,(gG (iu (O1 (pW 1) (BL (O7 (z6 0 (xX T) hr (gm gw (gm (mV 1 (zO gw) (λ_ _=>rfl)) gF))))) gw))),λas hp=>?_⟩);obtain⟨p,b,rfl,hp,fb,rb⟩:=hp;have p2:2<=p:=hp.1;have h9:p.natAbs<2^9000:=by
  have:p.natAbs<=2^14:=by have:=hp.2.1;lia
  exact bc this (bL (by decide) (by decide))
 have o9:(1:Int).natAbs<2^9000:=bc (show(1:Int).natAbs<=2^14 by decide) (bL (by decide) (by decide));have eF:¬b=[]->BZ cNO p [1,b.getD (jP b.length (-1)) 0]=.inl (qJ p b):=λc=>by have l0:=lP c;have ld:b.getD (jP b.length (-1)) 0=gB b:=wK b l0;have e:qJ p b=pl p (1*tu (gB b) p):=af c;rw[ld,e];exact MK (pF hp fb rb c)
 refine⟨⟨.inl rfl,λc=>⟨⟨⟨rfl,⟨tT,⟨.inl rfl,tT,?_,?_⟩,tT⟩,tT,?_⟩,?_⟩,?_⟩,λ_=>tT⟩,?_⟩
 ·have c:¬b=[]:=c;have l0:=lP c;show -(b.length:Int) <= -1;lia
 ·have c:¬b=[]:=c;have l0:=lP c;show(-1:Int)<(b.length:Int);lia
 ·show Lj p [1,b.getD (jP b.length (-1)) 0];exact⟨p2,h9,o9⟩
 ·have c:¬b=[]:=c;show(vL (BZ cNO p [1,b.getD (jP b.length (-1)) 0])).QV;rw[eF c];exact tT
 ·have c:¬b=[]:=c;show(vL (BZ cNO p [1,b.getD (jP b.length (-1)) 0])).get=.int (Nf (vL (BZ cNO p [1,b.getD (jP b.length (-1)) 0])).get);rw[eF c];rfl
 ·show(if ¬b=[] then PV.int (Nf (vL (BZ cNO p [1,b.getD (jP b.length (-1)) 0])).get) else .int 1)=.int (qJ p b);by_cases c:b=[]
  ·rw[af (λz=>z c)];subst c;rfl
  ·rw[ae c,eF c];rfl
theorem O9 (hp:iG p):(qJ p b).natAbs<2^9000:=by
 have h:(qJ p b).natAbs<=2^14:=by
  unfold qJ;split
  ·decide
  ·have:=wQ hp (yF p (1*tu (gB b) p));lia
 exact bc h (bL (by decide) (by decide))
theorem jG (T:Top K mg cFE cNN cBA cBL cBP cBT cHP cNW cNP cNO cK cR):Ok P w K mg base 4 "with_lead_one" ["kind","f"] (Ks K (Gr cR) (λas=>∃p b,as=[.ob 0 p,.ints b]/\iG p/\b.length<=1000/\gZ b/\∀n,pl p (b.getD n 0)=b.getD n 0) λas=>match as with
  |[.ob 0 p,.ints b]=>o5 p b
  |_=>[]):=by
 refine Ng T.qU qp (λas ⟨a,b,h,_⟩=>by rw[h];rfl) (λf cdv A outer s H E hr=>⟨_,(gG (pU (xf (Cu T) hr (gm (xv 0) (gm (xl 1) (gm (JL (ud T) hr (gm (xv 0) (gm (xl 1) gF))) gF)))))),λas hp=>?_⟩);obtain⟨p,b,rfl,hp,hl,fb,rb⟩:=hp;refine⟨⟨⟨rfl,rfl,⟨⟨rfl,rfl,tT⟩,p,b,rfl,hp,fb,rb⟩,tT⟩,p,b,qJ p b,rfl,hl,O9 hp,λm hm=>?_⟩,rfl⟩;obtain⟨n,_,e⟩:=FM.mem_getD hm;have:=wQ hp (rb n);rw[e]at this;exact Hg this
theorem uP (T:Top K mg cFE cNN cBA cBL cBP cBT cHP cNW cNP cNO cK cR):Ok P w K mg base 5 "common" ["kind","f","g"] (Ks K (Gr cR) (λas=>∃p f g,as=[.ob 0 p,.ints f,.ints g]/\iG p/\f.length<=200/\g.length<=200) λas=>match as with
  |[.ob 0 p,.ints f,.ints g]=>gc p f g
  |_=>[]):=by
 refine Ng T.Ho j8 (λas ⟨a,b,c,h,_⟩=>by rw[h];rfl) (λf cdv A outer s H E hr=>⟨_,(gq (gU (i:=3) j8.nd rfl (Or.inl rfl) (jt (xf (jf T) hr (gm (xv 0) (gm (xl 1) gF)))))
 (gq (gU (i:=4) j8.nd rfl (Or.inl rfl) (jt (xf (jf T) hr (gm (xv 0) (gm (xl 2) gF)))))
 (gq (j9 aQ (pW 4)
 (gq (gU (i:=5) j8.nd rfl (Or.inl rfl) (xl_of (jL (xc (mQ T) hr (gm (xv 0) (gm (xl 3) (gm (xl 4) gF)))) gw (λ_ _=>rfl))))
 (gq (gU (i:=3) j8.nd rfl (Or.inl rfl) (xl 4))
 (gG (gU (i:=4) j8.nd rfl (Or.inl rfl) (xl 5))))))
 (gG (pU (xf (jG T) hr (gm (xv 0) (gm (xl 3) gF)))))))),λas hp=>?_⟩)
 obtain⟨p,f,g,rfl,hp,hf,hg⟩:=hp;refine⟨⟨⟨rfl,rfl,tT⟩,p,f,rfl,by lia⟩,λb0 eb0=>?_⟩;have eb0:b0=Tz p f:=eb0;refine⟨⟨⟨rfl,rfl,tT⟩,p,g,rfl,by lia⟩,λr0 er0=>?_⟩;have er0:r0=Tz p g:=er0;have l1:=oX p f;have l2:=oX p g;have i0:gc p b0 r0=gc p f g:=by rw[eb0,er0];exact(Aj (xu.tz p f g)).symm
 refine iR (Z':=[.fr (.ob 0 p),.fr (.ints f),.fr (.ints g),.fr (.ints b0),.fr (.ints r0),.un]) rfl ?_;refine⟨λZ=>∃b r v5,Z=[.fr (.ob 0 p),.fr (.ints f),.fr (.ints g),.fr (.ints b),.fr (.ints r),v5]/\gZ b/\(∀n,pl p (b.getD n 0)=b.getD n 0)/\b.length<=200/\gZ r/\(∀n,pl p (r.getD n 0)=r.getD n 0)/\r.length<=200/\gc p b r=gc p f g,λZ=>(getL Z 4).length,⟨b0,r0,.un,rfl,by rw[eb0];exact g8 p f,by rw[eb0];exact jz p f,by rw[eb0];lia,by rw[er0];exact g8 p g,by rw[er0];exact jz p g,by rw[er0];lia,i0⟩,?_⟩;rintro Z ⟨b,r,v5,rfl,fb,rb,bl,fr,rr,rl,eg⟩;refine⟨.inl rfl,λk=>?_,λk=>?_⟩
 ·have k:¬r=[]:=k;have ok:=xm hp fr rr k rl;have et:=pY fr rr;obtain⟨q,e⟩:=MT ok b;obtain⟨_,_,ir,er⟩:=vZ ok b;rw[et]at ir er e;have il:=ir.len;have e:sH p (Tz p b) (Tz p r)=.tup [.ints q,.ints (rm p r b)]:=by rw[et];exact e
  refine⟨⟨⟨⟨⟨rfl,rfl,rfl,tT⟩,p,b,r,rfl,ok,bl⟩,tT,?_⟩,?_⟩,λc ec=>?_⟩
  ·show sr (sH p (Tz p b) (Tz p r)) 1;rw[e];exact⟨by show(-2:Int)<=1;decide,by show(1:Int)<2;decide⟩
  ·show Af (sH p (Tz p b) (Tz p r)) 1=.ints (HN (Af (sH p (Tz p b) (Tz p r)) 1));rw[e];rfl
  have ec:c=HN (Af (sH p (Tz p b) (Tz p r)) 1):=ec;rw[e]at ec;have ec:c=rm p r b:=ec;rw[<- ec]at ir er il;refine⟨rfl,λb1 eb1=>⟨rfl,λr1 er1=>⟨⟨r,c,.fr (.ints c),?_,fr,rr,rl,ir.form,ir.red,by lia,?_⟩,?_⟩⟩⟩
  ·have eb1:b1=r:=eb1;have er1:r1=c:=er1;rw[eb1,er1];rfl
  ·rw[<- eg];exact(Aj (xu.step er)).symm
  ·have er1:r1=c:=er1;show r1.length<r.length;rw[er1];exact il
 ·have k:¬¬r=[]:=k;have k:r=[]:=Classical.not_not.mp k;subst k;refine⟨⟨⟨rfl,rfl,tT⟩,p,b,rfl,hp,by lia,fb,rb⟩,?_⟩;show o5 p b=gc p f g;rw[<- eg];exact(xY (wk hp fb rb)).symm
structure Fo (p:Int)(f:List Int):Prop where
 form:gZ f
 red:∀n,pl p (f.getD n 0)=f.getD n 0
theorem Fo.tz (p:Int)(f:Li):Fo p (Tz p f):=⟨g8 p f,jz p f⟩
theorem Fo.at (hp:iG p)(h:Fo p f):∀m∈f,0<=m/\m<p:=λm hm=>by obtain⟨n,_,e⟩:=FM.mem_getD hm;have p2:2<=p:=hp.1;have:=h.red n;rw[e,jU (by lia)]at this;have h1:=bx m (show p≠0 by lia);have h2:=bj m (show 0<p by lia);lia
theorem KJ (p:Int)(f:Li)(n:Nat):p ∣ (Tz p f).getD n 0-f.getD n 0:=by rw[iJ];exact kh p _
theorem Gz (T:Top K mg cFE cNN cBA cBL cBP cBT cHP cNW cNP cNO cK cR):Ok P w K mg base 3 "slope" ["kind","f"] (Ks K (Gr cR) (λas=>∃z f,as=[.ob 0 z,.ints f]/\f.length<=1000) λas=>match as with
  |[.ob 0 z,.ints f]=>ik (((f.mapIdx λk n=>(k:Int)*n).drop 1).map (pl z))
  |_=>[]):=by
 refine Ng T.IK Ei (λas ⟨a,b,h,_⟩=>by rw[h];rfl) (λf cdv A outer s H E hr=>⟨_,(gG (pU (xf (jf T) hr (gm (xv 0) (gm (jt (m9 (jt (Lx (N':=["at","number"]) (cap:=[]) (zV rfl rfl rfl rfl tT tT rfl) rfl (by rfl) T.qN (xl 1) (λ_ _ _=>(pg_tup rfl (pgs_cons (DR 0) (pgs_cons (DR 1) pgs_nil)))) (λ_ _ _=>(jF (xn 0) (xn 1))))) (nZ gw) mJ (λ_ _=>.inl rfl))) gF))))),λas hp=>?_⟩);obtain⟨z,f,rfl,hf⟩:=hp;refine⟨⟨⟨rfl,⟨⟨⟨rfl,hf,λk n e=>⟨rfl,rfl,?_⟩⟩,tT,tT⟩,tT⟩⟩,z,_,rfl,?_⟩,?_⟩
 ·have hk:k<f.length:=(aD.mp e).1;exact o7 ⟨by show -(2:Int)^64<(k:Int);lia,by show(k:Int)<(2:Int)^64;lia⟩
 ·refine aG (sG _ _ _) ?_;rw[di];exact hf
 ·show ik ((j7 (f.mapIdx λk n=>(k:Int)*n) (some ((1:Nat):Int)) none).map (pl z))=_;rw[Di];rfl
def dl (f:List Int):List Int:=(List.range f.length).map λ(n:Nat)=>((n:Int)+1)*f.getD (n+1) 0
theorem mK (f:Li)(n:Nat):(dl f).getD n 0=((n:Int)+1)*f.getD (n+1) 0:=by
 unfold dl;by_cases h:n<f.length
 ·rw[gW (by rw[aa,aE];exact h),bO,bG]
 ·rw[gD (by rw[aa,aE];lia),gD (by lia),bd]
theorem O4 (u v:Li)(n:Nat):((n:Int)+1)*cm u v (n+1)=cm (dl u) v n+cm u (dl v) n:=by
 have e1:cm (dl u) v n=sm (n+1+1) λi=>(i:Int)*(u.getD i 0*v.getD (n+1-i) 0):=by rw[j6];unfold cm;rw[show((0:Nat):Int)*(u.getD 0 0*v.getD (n+1-0) 0)=0 by rw[Int.natCast_zero,bv],c8];refine ig λi _=>?_;rw[mK,show n+1-(i+1)=n-i by lia,bH];rfl
 have e2:cm u (dl v) n=sm (n+1+1) λi=>((n:Int)+1-(i:Int))*(u.getD i 0*v.getD (n+1-i) 0):=by show sm (n+1) _=sm (n+1) _+((n:Int)+1-((n+1:Nat):Int))*_;rw[show(n:Int)+1-((n+1:Nat):Int)=0 by lia,bv,bq];refine ig λi hi=>?_;rw[mK,show n-i+1=n+1-i by lia,show((n-i:Nat):Int)+1=(n:Int)+1-(i:Int) by lia,eA]
 rw[e1,e2,<- t7];unfold cm;rw[<- nY];refine ig λi _=>?_;rw[<- dw];congr 1;lia
theorem Ld (u v:Li)(n:Nat):(dl (gC u v)).getD n 0=cm (dl u) v n+cm u (dl v) n:=by rw[mK,gr,O4]
def Co (p:Int)(f g:List Int):Prop:=Lc p f g [1]
def Sq (p:Int)(f:List Int):Prop:=Co p f (dl f)
theorem Nz (b a:Int)(f:Li)(n:Nat):cm [b,a] f n=b*f.getD n 0+if n=0 then 0 else a*f.getD (n-1) 0:=by
 rw[jM];congr 1;split
 ·rfl
 ·rw[Jb]
def jQ:Nat->Nat->Int
 |_,0=>1
 |0,_+1=>0
 |n+1,k+1=>jQ n k+jQ n (k+1)
theorem nO (n:Nat):jQ n 0=1:=by cases n<;>rfl
theorem oh:∀{n k:Nat},n<k->jQ n k=0
 |0,k+1,_=>rfl
 |n+1,k+1,h=>by show jQ n k+jQ n (k+1)=0;rw[oh (by lia),oh (by lia)];rfl
theorem xT:∀n,jQ n n=1
 |0=>rfl
 |n+1=>by show jQ n n+jQ n (n+1)=1;rw[xT n,oh (by lia)];rfl
theorem rK:∀n k:Nat,((k:Int)+1)*jQ (n+1) (k+1)=((n:Int)+1)*jQ n k
 |0,0=>by rfl
 |0,k+1=>by have e1:jQ (0+1) (k+1+1)=0:=oh (by lia);have e2:jQ 0 (k+1)=0:=rfl;rw[e1,e2,bd,bd]
 |n+1,0=>by have h:=rK n 0;have e:jQ (n+1+1) (0+1)=jQ (n+1) 0+jQ (n+1) (0+1):=rfl;rw[e,fP,h,nO,nO];lia
 |n+1,j+1=>by
  have h1:=rK n (j+1);have h2:=rK n j;have e:jQ (n+1+1) (j+1+1)=jQ (n+1) (j+1)+jQ (n+1) (j+1+1):=rfl;have e2:jQ (n+1) (j+1)=jQ n j+jQ n (j+1):=rfl;rw[e,fP,h1];have e3:(((j+1:Nat):Int)+1)*jQ (n+1) (j+1)=((j:Int)+1)*jQ (n+1) (j+1)+jQ (n+1) (j+1):=by rw[dw,bt];rfl
  rw[e3,h2];have e4:(((n+1:Nat):Int)+1)*jQ (n+1) (j+1)=((n:Int)+1)*jQ (n+1) (j+1)+jQ (n+1) (j+1):=by rw[dw (((n+1:Nat):Int)),bt];rfl
  have e5:((n:Int)+1)*jQ (n+1) (j+1)=((n:Int)+1)*jQ n j+((n:Int)+1)*jQ n (j+1):=by rw[e2,fP]
  rw[e4,e5];lia
theorem Jg (hp:iG p){n j:Nat}(hn:(n:Int)+1=p)(hj:j<n):p ∣ jQ (n+1) (j+1):=by
 have h:=rK n j;have g:Int.gcd ((j:Int)+1) (p^1)=1:=Aw hp (by rw[bB (by lia) (by lia)];lia) 1;rw[f9]at g;have d:p ∣ ((j:Int)+1)*jQ (n+1) (j+1):=by rw[h,hn];exact Int.dvd_mul_right _ _
 have d2:=cN.mpr d;rw[Int.natAbs_mul]at d2;have g2:Nat.Coprime p.natAbs ((j:Int)+1).natAbs:=by show Nat.gcd p.natAbs ((j:Int)+1).natAbs=1;rw[Nat.gcd_comm];exact g
 exact cN.mp (g2.dvd_of_dvd_mul_left d2)
theorem Gs {F:Nat->Nat->Nat->Int}(h:∀i j n,F i j (n+1)=F (i+1) j n+F i (j+1) n):∀n i j,F i j n=sm (n+1) λk=>jQ n k*F (i+k) (j+(n-k)) 0
 |0,i,j=>by show F i j 0=0+1*F (i+0) (j+(0-0)) 0;rw[bt,c8];rfl
 |n+1,i,j=>by
  rw[h,Gs h n (i+1) j,Gs h n i (j+1),j6 (λk=>jQ (n+1) k*F (i+k) (j+(n+1-k)) 0) (n+1)];have e0:sm (n+1) (λk=>jQ n k*F (i+k) (j+1+(n-k)) 0)=sm (n+2) (λk=>jQ n k*F (i+k) (j+1+(n-k)) 0):=
   (zT (by lia) λk h1 h2=>by rw[oh (by lia),bv]).symm
  rw[e0,j6 (λk=>jQ n k*F (i+k) (j+1+(n-k)) 0) (n+1)];have e1:jQ (n+1) 0*F (i+0) (j+(n+1-0)) 0=jQ n 0*F (i+0) (j+1+(n-0)) 0:=by
   rw[nO,nO];have:j+(n+1-0)=j+1+(n-0):=by lia
   rw[this]
  have e2:sm (n+1) (λk=>jQ (n+1) (k+1)*F (i+(k+1)) (j+(n+1-(k+1))) 0)=sm (n+1) (λk=>jQ n k*F (i+1+k) (j+(n-k)) 0)+sm (n+1) (λk=>jQ n (k+1)*F (i+(k+1)) (j+1+(n-(k+1))) 0):=by
   rw[<- t7];refine ig λk hk=>?_;have a1:i+1+k=i+(k+1):=by lia
   have a2:j+(n+1-(k+1))=j+(n-k):=by lia
   have a3:jQ (n+1) (k+1)=jQ n k+jQ n (k+1):=rfl;rw[a1,a2,a3,dw];by_cases c:k=n
   ·rw[oh (show n<k+1 by lia),bv,bv]
   ·have a4:j+1+(n-(k+1))=j+(n-k):=by lia
    rw[a4]
  rw[e1,e2];lia
theorem Dy (hp:iG p){F:Nat->Nat->Nat->Int}(h:∀i j n,F i j (n+1)=F (i+1) j n+F i (j+1) n):p ∣ F 0 0 p.toNat-(F p.toNat 0 0+F 0 p.toNat 0):=by
 have p2:2<=p:=hp.1;obtain⟨n,hn⟩:∃n,p.toNat=n+1:=⟨p.toNat-1,by lia⟩;have hn2:(n:Int)+1=p:=by lia
 rw[hn,Gs h (n+1) 0 0];have e:sm (n+1+1) (λk=>jQ (n+1) k*F (0+k) (0+(n+1-k)) 0)=jQ (n+1) 0*F (0+0) (0+(n+1-0)) 0+sm n (λk=>jQ (n+1) (k+1)*F (0+(k+1)) (0+(n+1-(k+1))) 0)+jQ (n+1) (n+1)*F (0+(n+1)) (0+(n+1-(n+1))) 0:=by show sm (n+1) _+_=_;rw[j6]
 rw[e,nO,xT,bt,bt];have a1:0+(n+1-0)=n+1:=by lia
 have a2:0+(n+1-(n+1))=0:=by lia
 have a3:0+(n+1)=n+1:=by lia
 rw[a1,a2,a3];have d:p ∣ sm n (λk=>jQ (n+1) (k+1)*F (0+(k+1)) (0+(n+1-(k+1))) 0):=qH λk hk=>br (Jg hp hn2 hk);have e2:F (0+0) (n+1) 0=F 0 (n+1) 0:=rfl;rw[e2];generalize sm n (λk=>jQ (n+1) (k+1)*F (0+(k+1)) (0+(n+1-(k+1))) 0)=S at *
 have e3:F 0 (n+1) 0+S+F (n+1) 0 0-(F (n+1) 0 0+F 0 (n+1) 0)=S:=by lia
 rw[e3];exact d
theorem Ke {p:Int}(hp:iG p)(d a b:Li):jb p d (pw (jc a b) p.toNat) (jc (pw a p.toNat) (pw b p.toNat)):=.of λx=>by
 have h:=Dy hp (F:=λi j n=>cm (gC (pw a i) (pw b j)) (pw (jc a b) n) x) λi j n=>by
  show cm (gC (pw a i) (pw b j)) (gC (pw (jc a b) n) (jc a b)) x=cm (gC (gC (pw a i) a) (pw b j)) (pw (jc a b) n) x+cm (gC (pw a i) (gC (pw b j) b)) (pw (jc a b) n) x;generalize pw (jc a b) n=W;generalize pw a i=A;generalize pw b j=B;rw[<- iV,gK,lK];have k1:cm a (gC (gC A B) W) x=cm (gC (gC A a) B) W x:=by rw[<- iV];refine pZ (λn=>?_) (λ_=>rfl) x;rw[gr,gr,<- iV];exact pZ (λn=>by rw[gr,gr,gK]) (λ_=>rfl) n
  have k2:cm b (gC (gC A B) W) x=cm (gC A (gC B b)) W x:=by rw[<- iV];refine pZ (λn=>?_) (λ_=>rfl) x;rw[gr,gr,gK,iV]
  rw[k1,k2]
 have e1:cm (gC (pw a 0) (pw b 0)) (pw (jc a b) p.toNat) x=(pw (jc a b) p.toNat).getD x 0:=by rw[gK,<- ni (pw (jc a b) p.toNat) x];refine pZ (λ_=>rfl) (λn=>?_) x;rw[gr];exact ni _ n
 have e2:cm (gC (pw a p.toNat) (pw b 0)) (pw (jc a b) 0) x=(pw a p.toNat).getD x 0:=by show cm (gC (pw a p.toNat) [1]) [1] x=_;rw[ni,gr,ni]
 have e3:cm (gC (pw a 0) (pw b p.toNat)) (pw (jc a b) 0) x=(pw b p.toNat).getD x 0:=by show cm (gC [1] (pw b p.toNat)) [1] x=_;rw[ni,gr,gK,ni]
 rw[e1,e2,e3]at h;rw[gH];exact h
theorem pw_1 (p:Int)(d:Li):∀n,jb p d (pw [1] n) [1]
 |0=>.refl p d _
 |n+1=>(jb.one p d (pw [1] n)).trans (pw_1 p d n)
theorem pw_c (hp:iG p)(d:Li):∀c:Nat,jb p d (pw [(c:Int)] p.toNat) [(c:Int)]
 |0=>by
  have p2:2<=p:=hp.1;obtain⟨n,hn⟩:∃n,p.toNat=n+1:=⟨p.toNat-1,by lia⟩;rw[hn];have z:∀n,([((0:Nat):Int)]:List Int).getD n 0=0:=λn=>by cases n<;>rfl
  refine Sm.M8 λk=>?_;show(gC (pw [((0:Nat):Int)] n) [((0:Nat):Int)]).getD k 0=_;rw[gr,gK,ww z,z]
 |c+1=>by have e:([((c+1:Nat):Int)]:List Int)=jc [(c:Int)] [1]:=rfl;rw[e];exact(Ke hp d [(c:Int)] [1]).trans ((pw_c hp d c).add (pw_1 p d _))
theorem pw_mul (p:Int)(d a b:Li):∀n,jb p d (pw (gC a b) n) (gC (pw a n) (pw b n))
 |0=>(jb.one p d [1]).symm
 |n+1=>by show jb p d (gC (pw (gC a b) n) (gC a b)) (gC (gC (pw a n) a) (gC (pw b n) b));refine((pw_mul p d a b n).mul _).trans ?_;generalize pw a n=A;generalize pw b n=B;have x:jb p d (gC B (gC a b)) (gC a (gC B b)):=(jb.yG p d B a b).symm.trans (((jb.comm p d B a).mul b).trans (jb.yG p d a B b));exact(jb.yG p d A B (gC a b)).trans (((jb.refl p d A).CT x).trans (jb.yG p d A a (gC B b)).symm)
def Pq (X:Nat->List Int):List Int->Nat->List Int
 |[],_=>[]
 |c::t,s=>jc (yH c (X s)) (Pq X t (s+1))
theorem zP (X:Nat->List Int)(j:Nat):∀(f:Li) (s:Nat),(Pq X f s).getD j 0=sm f.length λk=>f.getD k 0*(X (s+k)).getD j 0
 |[],s=>by show([]:List Int).getD j 0=0;rfl
 |c::t,s=>by
  show(jc (yH c (X s)) (Pq X t (s+1))).getD j 0=sm (t.length+1) _;rw[gH,iy,zP X j t (s+1),j6];have e:sm t.length (λk=>t.getD k 0*(X (s+1+k)).getD j 0)=sm t.length λi=>(c::t).getD (i+1) 0*(X (s+(i+1))).getD j 0:=ig λi _=>by
   have a:s+1+i=s+(i+1):=by lia
   rw[a];rfl
  rw[e];rfl
theorem Ov (hp:iG p)(d:Li):∀(f:Li),(∀m∈f,0<=m)->∀s,jb p d (gC (pw (pw [0,1] p.toNat) s) (pw f p.toNat)) (Pq (pw (pw [0,1] p.toNat)) f s)
 |[],_,s=>by
  have p2:2<=p:=hp.1;obtain⟨n,hn⟩:∃n,p.toNat=n+1:=⟨p.toNat-1,by lia⟩;refine Sm.M8 λk=>?_;have z:∀k,(pw [] p.toNat).getD k 0=0:=λk=>by rw[hn];show(gC (pw [] n) []).getD k 0=0;rw[gr,gK,jg]
  rw[gr,gK,ww z];rfl
 |c::t,h,s=>by
  have hc:0<=c:=h c (ag ..);obtain⟨cn,ec⟩:∃cn:Nat,c=(cn:Int):=⟨c.toNat,by lia⟩;have ih:=Ov hp d t (λm hm=>h m (ac _ hm)) (s+1);have e0:Sm (c::t) (jc [c] (gC [0,1] t)):=λn=>by
   rw[gH,gr,jM,bv,c8]
   match n with
   |0=>rw[ae rfl,bq];rfl
   |n+1=>
    have e:([c]:List Int).getD (n+1) 0=0:=by rfl
    rw[af (by lia),e,c8,gK,Nat.add_sub_cancel,ni];rfl
  have e1:jb p d (pw (c::t) p.toNat) (jc [c] (gC (pw [0,1] p.toNat) (pw t p.toNat))):=by refine(pw_mod e0.M8 _).trans ((Ke hp d _ _).trans (jb.add ?_ (pw_mul p d _ _ _)));rw[ec];exact pw_c hp d cn
  refine((jb.refl p d (pw (pw [0,1] p.toNat) s)).CT e1).trans ?_;have e2:Sm (gC (pw (pw [0,1] p.toNat) s) (jc [c] (gC (pw [0,1] p.toNat) (pw t p.toNat)))) (jc (yH c (pw (pw [0,1] p.toNat) s)) (gC (pw (pw [0,1] p.toNat) s) (gC (pw [0,1] p.toNat) (pw t p.toNat)))):=λn=>by
   rw[gr,gK,lK,gH,iy,gr,gK (pw (pw [0,1] p.toNat) s),jM];by_cases k:n=0
   ·rw[ae k,bq]
   ·rw[af k,jg,bq]
  refine e2.M8.trans ?_;exact(jb.refl p d _).add ((jb.yG p d _ _ _).symm.trans ih)
theorem Jx (h:a ∣ b*c)(g:Int.gcd a b=1):a ∣ c:=by have d:=cN.mpr h;rw[Int.natAbs_mul]at d;exact cN.mp (Nat.Coprime.dvd_of_dvd_mul_left g d)
theorem Il (hp:iG p)(h:p ∣ a*b):p ∣ a\/p ∣ b:=by
 by_cases c:a % p=0
 ·exact .inl (eM c)
 ·right;have g:=hp.Bk c;rw[Int.gcd_comm]at g;exact Jx h g
theorem jB (hp:iG p)(h:¬p ∣ x):∃t,p ∣ t*x-1:=by
 have g:=hp.Bk (b:=x) λz=>h (eM z);obtain⟨t,_,_,e⟩:=Aa hp.1 g;refine⟨t,?_⟩;have e2:=dW e;have:t*x-1 = -(1-t*x):=by lia
 rw[this];exact bu.mpr e2
def Dk (p:Int):Setoid (List Int):=⟨λa b=>∀n,p ∣ a.getD n 0-b.getD n 0,λa n=>by rw[cq];exact aI p,
 λ{a b} h n=>by
  have e:b.getD n 0-a.getD n 0 = -(a.getD n 0-b.getD n 0):=by lia
  rw[e];exact bu.mpr (h n),
 λ{a b c} h k n=>by
  have e:a.getD n 0-c.getD n 0=(a.getD n 0-b.getD n 0)+(b.getD n 0-c.getD n 0):=by lia
  rw[e];exact bJ (h n) (k n)⟩
def Pl (p:Int):Type:=Quotient (Dk p)
namespace Pl
variable {p:Int}
def mk (p:Int)(a:List Int):Pl p:=Quotient.mk (Dk p) a
theorem jd:mk p a=mk p b ↔ ∀n,p ∣ a.getD n 0-b.getD n 0:=⟨λh=>Quotient.exact (s:=Dk p) h,λh=>Quotient.sound (s:=Dk p) h⟩
theorem ext (h:∀n,a.getD n 0=b.getD n 0):mk p a=mk p b:=jd.mpr λn=>by rw[h n,cq];exact aI p
theorem rep (x:Pl p):∃a,x=mk p a:=Quotient.inductionOn (s:=Dk p) x λa=>⟨a,rfl⟩
def add (x y:Pl p):Pl p:=Quotient.lift₂ (s₁:=Dk p) (s₂:=Dk p) (λa b=>mk p (jc a b)) (λa b c d h k=>jd.mpr λn=>by
 rw[gH,gH];have e:a.getD n 0+b.getD n 0-(c.getD n 0+d.getD n 0)=(a.getD n 0-c.getD n 0)+(b.getD n 0-d.getD n 0):=by lia
 rw[e];exact bJ (h n) (k n)) x y
def mul (x y:Pl p):Pl p:=Quotient.lift₂ (s₁:=Dk p) (s₂:=Dk p) (λa b=>mk p (gC a b)) (λa b c d h k=>jd.mpr λn=>by
 rw[gr,gr];have e:cm a b n-cm c d n=(cm a b n-cm c b n)+(cm b c n-cm d c n):=by rw[gK b c,gK d c];lia
 rw[e];exact bJ (rB h n) (rB k n)) x y
def neg (x:Pl p):Pl p:=Quotient.lift (s:=Dk p) (λa=>mk p (yH (-1) a)) (λa b h=>jd.mpr λn=>by
 rw[iy,iy];have e:-1*a.getD n 0 - -1*b.getD n 0 = -(a.getD n 0-b.getD n 0):=by lia
 rw[e];exact bu.mpr (h n)) x
def con (p c:Int):Pl p:=mk p [c]
instance:Add (Pl p):=⟨add⟩
instance:Mul (Pl p):=⟨mul⟩
instance:Neg (Pl p):=⟨neg⟩
instance:Sub (Pl p):=⟨λa b=>a + -b⟩
instance:NatCast (Pl p):=⟨λk=>con p (k:Int)⟩
instance:IntCast (Pl p):=⟨con p⟩
instance (k:Nat):OfNat (Pl p) k:=⟨con p (k:Int)⟩
instance:SMul Nat (Pl p):=⟨λk a=>con p (k:Int)*a⟩
instance:SMul Int (Pl p):=⟨λk a=>con p k*a⟩
def pow (a:Pl p):Nat->Pl p
 |0=>con p 1
 |n+1=>pow a n*a
instance:HPow (Pl p) Nat (Pl p):=⟨pow⟩
theorem jV (a b:Li):mk p a+mk p b=mk p (jc a b):=rfl
theorem iM (a b:Li):mk p a*mk p b=mk p (gC a b):=rfl
theorem za (a:Li):-mk p a=mk p (yH (-1) a):=rfl
theorem JP:(1:Pl p)=mk p [1]:=rfl
theorem sV:(0:Pl p)=mk p [0]:=rfl
theorem mul_comm (x y:Pl p):x*y=y*x:=by obtain⟨a,rfl⟩:=rep x;obtain⟨b,rfl⟩:=rep y;rw[iM,iM];exact ext λn=>by rw[gr,gr,gK]
theorem mul_assoc (x y z:Pl p):x*y*z=x*(y*z):=by obtain⟨a,rfl⟩:=rep x;obtain⟨b,rfl⟩:=rep y;obtain⟨c,rfl⟩:=rep z;rw[iM,iM,iM,iM];exact ext λn=>by rw[gr,gr,iV]
theorem oZ (c:Int)(a:Li):con p c*mk p a=mk p (yH c a):=by unfold con;rw[iM];exact ext λn=>by rw[gr,iy,Jb]
theorem one_mul (x:Pl p):1*x=x:=by obtain⟨a,rfl⟩:=rep x;show con p 1*mk p a=mk p a;rw[oZ];exact ext λn=>by rw[iy,bt]
theorem zN (n:Nat):([0]:Li).getD n 0=0:=by cases n<;>rfl
theorem zero_mul (x:Pl p):0*x=0:=by obtain⟨a,rfl⟩:=rep x;show con p 0*mk p a=mk p [0];rw[oZ];exact ext λn=>by rw[iy,bv,zN]
theorem zU (x y z:Pl p):x*(y+z)=x*y+x*z:=by obtain⟨a,rfl⟩:=rep x;obtain⟨b,rfl⟩:=rep y;obtain⟨c,rfl⟩:=rep z;rw[jV,iM,iM,iM,jV];exact ext λn=>by rw[gr,gH,gr,gr,gK,lK,gK b a,gK c a]
theorem add_comm (x y:Pl p):x+y=y+x:=by obtain⟨a,rfl⟩:=rep x;obtain⟨b,rfl⟩:=rep y;rw[jV,jV];exact ext λn=>by rw[gH,gH,Int.add_comm]
theorem QH (c d:Int)(n:Nat):([c+d]:Li).getD n 0=([c]:Li).getD n 0+([d]:Li).getD n 0:=by cases n<;>rfl
theorem Ba (c d:Int):con p (c+d)=con p c+con p d:=by unfold con;rw[jV];exact ext λn=>by rw[gH,QH]
theorem Je (c:Int):con p (-c) = -con p c:=by
 unfold con;rw[za];exact ext λn=>by
  rw[iy];cases n with
  |zero=>show -c = -1*c;lia
  |succ n=>rfl
instance:Lean.Grind.CommRing (Pl p) where
 add_zero x:=by obtain⟨a,rfl⟩:=rep x;rw[sV,jV];exact ext λn=>by rw[gH,zN,bq]
 add_comm:=add_comm
 add_assoc x y z:=by obtain⟨a,rfl⟩:=rep x;obtain⟨b,rfl⟩:=rep y;obtain⟨c,rfl⟩:=rep z;rw[jV,jV,jV,jV];exact ext λn=>by rw[gH,gH,gH,gH,Int.add_assoc]
 mul_assoc:=mul_assoc
 mul_one x:=by rw[mul_comm,one_mul]
 one_mul:=one_mul
 left_distrib:=zU
 right_distrib a b c:=by rw[mul_comm,zU,mul_comm c,mul_comm c]
 mul_zero x:=by rw[mul_comm,zero_mul]
 zero_mul:=zero_mul
 pow_zero _:=rfl
 pow_succ _ _:=rfl
 ofNat_succ k:=by show con p ((k+1:Nat):Int)=con p (k:Int)+con p 1;rw[<- Ba];rfl
 ofNat_eq_natCast _:=rfl
 nsmul_eq_natCast_mul _ _:=rfl
 neg_add_cancel x:=by obtain⟨a,rfl⟩:=rep x;rw[sV,za,jV];exact ext λn=>by rw[gH,iy,zN];lia
 sub_eq_add_neg _ _:=rfl
 neg_zsmul i x:=by show con p (-i)*x = -(con p i*x);obtain⟨a,rfl⟩:=rep x;rw[oZ,oZ,za];exact ext λn=>by rw[iy,iy,iy,<- bH,dU]
 zsmul_natCast_eq_nsmul _ _:=rfl
 intCast_ofNat _:=rfl
 intCast_neg i:=Je i
 mul_comm:=mul_comm
def dv (x:Pl p):Pl p:=Quotient.lift (s:=Dk p) (λa=>mk p (dl a)) (λa b h=>jd.mpr λn=>by
 rw[mK,mK,<- cx];exact a9 (h (n+1))) x
theorem sO (a:Li):dv (mk p a)=mk p (dl a):=rfl
theorem yQ (x y:Pl p):dv (x*y)=dv x*y+x*dv y:=by obtain⟨a,rfl⟩:=rep x;obtain⟨b,rfl⟩:=rep y;rw[iM,sO,sO,sO,iM,iM,jV];exact ext λn=>by rw[Ld,gH,gr,gr]
theorem yZ (c:Int):dv (con p c)=0:=by unfold con;rw[sO,sV];exact ext λn=>by rw[mK,zN];exact bd _
theorem vY (x:Pl p):∀n:Nat,dv (x^(n+1))=con p ((n+1:Nat):Int)*x^n*dv x
 |0=>by show dv (con p 1*x)=con p 1*con p 1*dv x;rw[yQ,yZ];have e:con p 1=(1:Pl p):=rfl;rw[e];grind
 |n+1=>by
  have h:=vY x n;have e1:x^(n+1+1)=x^(n+1)*x:=rfl;have e2:x^(n+1)=x^n*x:=rfl;have e3:con p ((n+1+1:Nat):Int)=con p ((n+1:Nat):Int)+1:=by have z:((n+1+1:Nat):Int)=((n+1:Nat):Int)+1:=rfl;rw[z];exact Ba _ 1
  rw[e1,yQ,h,e3,e2];grind
def jR (a b:Pl p):Prop:=∃s t:Pl p,s*a+t*b=1
theorem jR.symm {a b:Pl p}(h:jR a b):jR b a:=by obtain⟨s,t,h⟩:=h;exact⟨t,s,by grind⟩
theorem jR.one (a:Pl p):jR a 1:=⟨0,1,by grind⟩
theorem jR.mul {a b c:Pl p}(h:jR a c)(k:jR b c):jR (a*b) c:=by obtain⟨s,t,h⟩:=h;obtain⟨u,v,k⟩:=k;exact⟨s*u,s*a*v+t*u*b+t*v*c,by grind⟩
theorem jR.pow {a c:Pl p}(h:jR a c):∀n:Nat,jR (a^n) c
 |0=>(jR.one c).symm
 |n+1=>(h.pow n).mul h
theorem jR.Jo {a b c:Pl p}(h:jR a b)(e:∃u,c=b+u*a):jR a c:=by obtain⟨s,t,h⟩:=h;obtain⟨u,e⟩:=e;exact⟨s-t*u,t,by grind⟩
structure Gd (a b d:Pl p):Prop where
 lc:∃s t:Pl p,d=s*a+t*b
 d1:∃u,a=u*d
 d2:∃u,b=u*d
theorem jR.gd (h:jR a b)(d:Pl p):Gd (a*d) (b*d) d:=by obtain⟨s,t,h⟩:=h;exact⟨⟨s,t,by grind⟩,⟨a,rfl⟩,⟨b,rfl⟩⟩
def Pr (L:List (Pl p×Nat))(g:Nat->Nat):Pl p:=L.foldr (λq x=>q.1^g q.2*x) 1
theorem iC (q:Pl p×Nat)(L:List (Pl p×Nat))(g:Nat->Nat):Pr (q::L) g=q.1^g q.2*Pr L g:=rfl
theorem pow_add (a:Pl p)(m:Nat):∀n:Nat,a^(m+n)=a^m*a^n
 |0=>by have e:a^0=(1:Pl p):=rfl;rw[e];grind
 |n+1=>by have h:=pow_add a m n;have e1:a^(m+(n+1))=a^(m+n)*a:=rfl;have e2:a^(n+1)=a^n*a:=rfl;rw[e1,e2,h];grind
theorem oR (g h:Nat->Nat):∀L:List (Pl p×Nat),Pr L (λm=>g m+h m)=Pr L g*Pr L h
 |[]=>(one_mul 1).symm
 |q::L=>by rw[iC,iC,iC,oR g h L,pow_add];grind
theorem iW:∀{L:List (Pl p×Nat)},(∀q∈L,g q.2=h q.2)->Pr L g=Pr L h
 |[],_=>rfl
 |q::L,e=>by rw[iC,iC,e q (ag ..),iW λr hr=>e r (ac _ hr)]
theorem tG {g h:Nat->Nat}{L:List (Pl p×Nat)}(e:∀q∈L,h q.2<=g q.2):Pr L g=Pr L (λm=>g m-h m)*Pr L h:=by rw[<- oR];exact iW λq hq=>by have:=e q hq;show g q.2=g q.2-h q.2+h q.2;lia
def Apart (L:List (Pl p×Nat)):Prop:=L.Pairwise λq r=>jR q.1 r.1
theorem zJ (c:Pl p)(g:Nat->Nat):∀{L:List (Pl p×Nat)},(∀q∈L,jR q.1 c\/g q.2=0)->jR (Pr L g) c
 |[],_=>(jR.one c).symm
 |q::L,h=>by
  rw[iC];refine jR.mul ?_ (zJ c g λr hr=>h r (ac _ hr));rcases h q (ag ..) with h|h
  ·exact h.pow _
  ·rw[h];exact(jR.one c).symm
theorem G4 (d:∀m,g m=0\/h m=0):∀{L:List (Pl p×Nat)},Apart L->jR (Pr L g) (Pr L h)
 |[],_=>jR.one 1
 |q::L,A=>by
  obtain⟨A1,A2⟩:=ck.mp A;have ih:=G4 d A2;have a1:∀g':Nat->Nat,jR (Pr L g') q.1:=λg'=>zJ q.1 g' λr hr=>.inl (A1 r hr).symm;rw[iC,iC];refine jR.mul ?_ (jR.symm (jR.mul ?_ ih.symm))
  ·refine jR.symm (jR.mul ?_ ((a1 h).symm.pow _).symm);rcases d q.2 with e|e
   ·rw[e];exact jR.one _
   ·rw[e];exact(jR.one _).symm
  ·exact((a1 g).symm.pow _)
theorem Ni {g h:Nat->Nat}{L:List (Pl p×Nat)}(A:Apart L):Gd (Pr L g) (Pr L h) (Pr L λm=>min (g m) (h m)):=by rw[tG (g:=g) (h:=λm=>min (g m) (h m)) (λq _=>Nat.min_le_left ..),tG (g:=h) (h:=λm=>min (g m) (h m)) (λq _=>Nat.min_le_right ..)];exact(G4 (λm=>by show g m-min (g m) (h m)=0\/h m-min (g m) (h m)=0;lia) A).gd _
def lw (p:Int)(m:Nat):Nat:=if p ∣ (m:Int) then m else m-1
def ly (p:Int)(m:Nat):Nat:=if p ∣ (m:Int) then 0 else 1
theorem Kr (h:p ∣ c):con p c=0:=jd.mpr λn=>by
 cases n with
 |zero=>show p ∣ c-0;rw[aW];exact h
 |succ n=>exact aI p
theorem Ae (h:p ∣ t*c-1):con p t*con p c=1:=by
 have e:con p t*con p c=mk p (yH t [c]):=oZ t [c];rw[e,JP];exact jd.mpr λn=>by
  cases n with
  |zero=>exact h
  |succ n=>exact aI p
theorem QC (C D Y E Q W q1:Pl p):C*Q*D*(E*Y)+Q*q1*(E*W)=Q*E*(C*D*Y+q1*W):=by grind
theorem Qz {T C q1:Pl p}(h:T*C=1):jR C q1:=⟨T,0,by grind⟩
theorem xK (hinv:∀x:Int,¬p ∣ x->∃t,p ∣ t*x-1):∀{L:List (Pl p×Nat)},Apart L->(∀q∈L,jR q.1 (dv q.1))->∃W,dv (Pr L g)=Pr L (λm=>lw p (g m))*W/\jR (Pr L λm=>ly p (g m)) W
 |[],_,_=>⟨0,by
   show dv (con p 1)=_;rw[yZ];grind,(jR.one _).symm⟩
 |q::L,A,S=>by
  obtain⟨A1,A2⟩:=ck.mp A;obtain⟨W,e,c⟩:=xK hinv A2 λr hr=>S r (ac _ hr);have a1:∀g':Nat->Nat,jR (Pr L g') q.1:=λg'=>zJ q.1 g' λr hr=>.inl (A1 r hr).symm;have spl:Pr L g=Pr L (λm=>lw p (g m))*Pr L λm=>ly p (g m):=by
   rw[<- oR];exact iW λr _=>by
    unfold lw ly;by_cases h:p ∣ (g r.2:Int)
    ·rw[ae h,ae h];rfl
    ·rw[af h,af h];have:g r.2≠0:=λz=>h (by rw[z];exact aI p);lia
  have sq:=S q (ag ..);simp only[iC];rw[yQ,e];by_cases h:p ∣ (g q.2:Int)
  ·refine⟨W,?_,?_⟩
   ·have z:dv (q.1^g q.2)=0:=by
     cases hm:g q.2 with
     |zero=>exact yZ 1
     |succ n=>rw[vY,Kr (by rw[<- hm];exact h)];grind
    rw[z];have e1:lw p (g q.2)=g q.2:=ae h;rw[e1];grind
   ·have e1:ly p (g q.2)=0:=ae h;rw[e1];have e2:q.1^0=(1:Pl p):=rfl;rw[e2,one_mul];exact c
  ·obtain⟨t,ht⟩:=hinv _ h;have i1:=Ae ht;have e1:lw p (g q.2)=g q.2-1:=af h;have e2:ly p (g q.2)=1:=af h;have e3:q.1^1=q.1:=one_mul q.1;obtain⟨n,hn⟩:∃n,g q.2=n+1:=⟨g q.2-1,by
    have:g q.2≠0:=λz=>h (by rw[z];exact aI p);lia⟩
   have e4:g q.2-1=n:=by lia
   have e5:q.1^(n+1)=q.1^n*q.1:=rfl;have c1:=a1 λm=>ly p (g m);rw[e1,e2,e3,spl,e4];rw[hn]at i1;rw[hn,vY,e5];generalize (Pr L λm=>ly p (g m))=Y at *
   generalize (Pr L λm=>lw p (g m))=E at *
   generalize q.1^n=Q at *
   generalize con p ((n+1:Nat):Int)=C at *
   generalize con p t=T at *
   generalize dv q.1=D at *
   generalize q.1=q1 at *
   refine⟨C*D*Y+q1*W,QC ..,?_⟩;refine jR.mul ?_ ?_
   ·have k:jR q1 (C*D*Y):=((jR.mul (jR.mul (Qz i1) sq.symm) c1)).symm;exact k.Jo ⟨W,by rw[mul_comm W]⟩
   ·have k:jR Y (q1*W):=(jR.mul c1.symm c.symm).symm;exact k.Jo ⟨C*D,add_comm _ _⟩
theorem Oi (hinv:∀x:Int,¬p ∣ x->∃t,p ∣ t*x-1){g:Nat->Nat}{L:List (Pl p×Nat)}(A:Apart L)(S:∀q∈L,jR q.1 (dv q.1)):Gd (Pr L g) (dv (Pr L g)) (Pr L λm=>lw p (g m)):=by
 obtain⟨W,e,c⟩:=xK hinv (g:=g) A S;have spl:Pr L g=Pr L (λm=>ly p (g m))*Pr L λm=>lw p (g m):=by
  rw[<- oR];exact iW λr _=>by
   unfold lw ly;by_cases h:p ∣ (g r.2:Int)
   ·rw[ae h,ae h];lia
   ·rw[af h,af h];have:g r.2≠0:=λz=>h (by rw[z];exact aI p);lia
 rw[e,mul_comm,spl];exact c.gd _
end Pl
namespace Pl
variable {p:Int}
def ls (x:Pl p):List Int:=Quotient.lift (s:=Dk p) (Tz p) (λa b h=>jA (g8 p a) (g8 p b) λn=>by
 rw[iJ,iJ];exact(nF p _ _).mpr (h n)) x
theorem tY (a:Li):ls (mk p a)=Tz p a:=rfl
theorem N5 (a:Li):mk p (Tz p a)=mk p a:=jd.mpr (KJ p a)
theorem iI (x:Pl p):mk p (ls x)=x:=by obtain⟨a,rfl⟩:=rep x;exact N5 a
theorem iY (x:Pl p):Fo p (ls x):=by obtain⟨a,rfl⟩:=rep x;exact Fo.tz p a
theorem xZ (x:Pl p):Tz p (ls x)=ls x:=pY (iY x).form (iY x).red
theorem oM (h:Fo p f):ls (mk p f)=f:=pY h.form h.red
def Mo (x:Pl p):Prop:=gB (ls x)=1
theorem Mo.ne {x:Pl p}(h:Mo x):ls x≠[]:=vC h
theorem Mo.pos {x:Pl p}(h:Mo x):0<(ls x).length:=lP h.ne
theorem LK (p2:2<=p):pl p 1=1:=by rw[jU (by lia)];exact bB (by decide) (by lia)
theorem uc (p2:2<=p):ls (1:Pl p)=[1]:=oM ⟨λ_=>by decide,λn=>by
 cases n with
 |zero=>exact LK p2
 |succ n=>exact jO p⟩
theorem Mo.one (p2:2<=p):Mo (1:Pl p):=by unfold Mo;rw[uc p2];rfl
theorem Mo.CT (p2:2<=p){x y:Pl p}(hx:Mo x)(hy:Mo y):Mo (x*y)/\(ls (x*y)).length+1=(ls x).length+(ls y).length:=by
 have lx:=hx.pos;have ly:=hy.pos;have ez:ls (x*y)=Tz p (gC (ls x) (ls y)):=by
  have e:x*y=mk p (ls x)*mk p (ls y):=by rw[iI,iI]
  rw[e,iM];rfl
 have hx:(ls x).getD ((ls x).length-1) 0=1:=hx;have hy':gB (ls y)=1:=hy;have top:(Tz p (gC (ls x) (ls y))).getD ((ls x).length-1+((ls y).length-1)) 0=1:=by
  rw[iJ,gr,<- LK p2];refine(nF p _ _).mpr ?_;have:=yV (z:=p) (E:=ls x) (d:=ls y) (i:=(ls x).length-1) ly λj hj=>by rw[gD (by lia)];exact aI p
  rw[hx,hy',bt]at this;exact this
 have l1:(Tz p (gC (ls x) (ls y))).length<=(ls x).length+(ls y).length-1:=km (g8 p _) λn hn=>by rw[iJ,gr,GZ (by lia)];exact jO p
 have l2:(ls x).length-1+((ls y).length-1)<(Tz p (gC (ls x) (ls y))).length:=by refine cD λh=>?_;rw[gD h]at top;exact absurd top (by decide)
 rw[<- ez]at l1 l2 top;refine⟨?_,by lia⟩;show(ls (x*y)).getD ((ls (x*y)).length-1) 0=1;have e:(ls (x*y)).length-1=(ls x).length-1+((ls y).length-1):=by lia
 rw[e];exact top
theorem Mo.mul (p2:2<=p){x y:Pl p}(hx:Mo x)(hy:Mo y):Mo (x*y):=(Mo.CT p2 hx hy).1
theorem Mo.len (p2:2<=p){x y:Pl p}(hx:Mo x)(hy:Mo y):(ls (x*y)).length+1=(ls x).length+(ls y).length:=(Mo.CT p2 hx hy).2
theorem Mo.pow (p2:2<=p){x:Pl p}(hx:Mo x):∀n:Nat,Mo (x^n)
 |0=>Mo.one p2
 |n+1=>Mo.mul p2 (hx.pow p2 n) hx
theorem Mo.pr (p2:2<=p):∀{L:List (Pl p×Nat)},(∀q∈L,Mo q.1)->Mo (Pr L g)
 |[],_=>Mo.one p2
 |q::L,h=>Mo.mul p2 ((h q (ag ..)).pow p2 _) (Mo.pr p2 λr hr=>h r (ac _ hr))
theorem Mo.qz (p2:2<=p){x:Pl p}(hx:Mo x):∀n:Nat,(ls (x^n)).length=n*((ls x).length-1)+1
 |0=>by have e:x^0=(1:Pl p):=rfl;rw[e,uc p2];show 1=0*_+1;lia
 |n+1=>by have h:=Mo.len p2 (hx.pow p2 n) hx;have e:x^(n+1)=x^n*x:=rfl;have l:=hx.pos;rw[e];rw[Mo.qz p2 hx n]at h;rw[fm];lia
theorem jE (p2:2<=p):∀{L:List (Pl p×Nat)},(∀q∈L,Mo q.1)->(∀q∈L,1<(ls q.1).length)->(1<(ls (Pr L g)).length ↔ ∃q∈L,g q.2≠0)
 |[],_,_=>by have e:Pr ([]:List (Pl p×Nat)) g=1:=rfl;rw[e,uc p2];refine⟨λh=>absurd h (by decide),λ⟨q,h,_⟩=>by cases h⟩
 |q::L,h,d=>by
  have h1:=h q (ag ..);have d1:=d q (ag ..);have ih:=jE p2 (g:=g) (λr hr=>h r (ac _ hr)) (λr hr=>d r (ac _ hr));have m2:Mo (Pr L g):=Mo.pr p2 λr hr=>h r (ac _ hr);have hl:=Mo.len p2 (h1.pow p2 (g q.2)) m2;have mp:=m2.pos;rw[Mo.qz p2 h1,<- iC]at hl;have nz:g q.2*((ls q.1).length-1)=0 ↔ g q.2=0:=by rw[Nat.mul_eq_zero];lia
  refine⟨λk=>?_,λ⟨r,hr,k⟩=>?_⟩
  ·by_cases c:g q.2=0
   ·rw[nz.mpr c]at hl;obtain⟨r,hr,k⟩:=ih.mp (by lia);exact⟨r,ac _ hr,k⟩
   ·exact⟨q,ag ..,c⟩
  ·rcases az.mp hr with e|hr
   ·subst e;have:g r.2*((ls r.1).length-1)≠0:=λz=>k (nz.mp z);lia
   ·have:=ih.mpr ⟨r,hr,k⟩;lia
theorem Ou (h:Gd (mk p f) (mk p g) d)(m:Mo d):GC p f g (ls d):=by
 obtain⟨⟨s,t,e⟩,⟨u,e1⟩,⟨v,e2⟩⟩:=h;obtain⟨a,rfl⟩:=rep s;obtain⟨b,rfl⟩:=rep t;obtain⟨c,rfl⟩:=rep u;obtain⟨c2,rfl⟩:=rep v;have z:∀{f c:List Int},mk p f=mk p c*d->Dv p (ls d) f:=λ{f c} e=>by
  refine⟨c,λn=>?_⟩;have e:mk p f=mk p (gC c (ls d)):=by rw[<- iM,iI];exact e
  have:=jd.mp e n;rw[gr]at this;show p ∣ f.getD n 0-0-cm c (ls d) n;rw[aW];exact this
 refine⟨(iY d).form,(iY d).red,.inr m,⟨a,b,λn=>?_⟩,z e1,z e2⟩;have e:mk p (ls d)=mk p (jc (gC a f) (gC b g)):=by rw[iI];exact e
 have:=jd.mp e n;rw[gH,gr,gr]at this;exact this
theorem PN (p2:2<=p)(I:qG p f d q r)(rl:r.length<d.length)(mu:Mo u)(md:Mo (mk p d))(ff:Fo p f)(fd:Fo p d)(e:mk p f=u*mk p d):q=ls u/\r=[]:=by
 have ed:ls (mk p d)=d:=oM fd;have ef:ls (mk p f)=f:=oM ff;have d1:gB d=1:=by have:=md;unfold Mo at this;rw[ed]at this;exact this
 have nz:∀x,p ∣ x*gB d->p ∣ x:=λx h=>by rw[d1,bR]at h;exact h
 have e1:mk p (jc (gC q d) r)=mk p f:=jd.mpr λn=>by rw[gH,gr];exact I.eq n
 have e2:mk p q*mk p d+mk p r=u*mk p d:=by rw[<- e,<- e1];rfl
 obtain⟨c,ec⟩:=rep (u-mk p q);have e3:mk p r=mk p c*mk p d:=by rw[<- ec];grind
 have e4:=jd.mp (e3.trans (iM c d));have hr:r=[]:=nA nz ⟨I.rf,I.rr,rl⟩ ⟨kI,λn=>by show pl p 0=0;exact jO p,by show 0<d.length;lia⟩ ⟨c,λn=>by
  have:=e4 n;rw[gr]at this;show p ∣ r.getD n 0-0-cm c d n;rw[aW];exact this⟩
 refine⟨?_,hr⟩;have hd:0<d.length:=by lia
 have hc:=Pu (z:=p) (E:=c) (S:=0) hd nz λn _=>by
  have:=e4 n;rw[gr,hr]at this;have e:(([]:List Int).getD n 0)-cm c d n = -cm c d n:=by show 0-cm c d n=_;lia
  rw[e]at this;exact bu.mp this
 have c0:mk p c=0:=jd.mpr λn=>by show p ∣ c.getD n 0-([0]:List Int).getD n 0;rw[zN,aW];exact hc n (be _)
 have e5:mk p q=u:=by rw[c0]at ec;grind
 have ll:=Mo.len p2 mu md;rw[<- e,ef,ed]at ll;have ql:=I.ql;have up:=mu.pos;have le:q.length=(ls u).length:=by lia
 have gt:∀n,q.getD n 0=(ls u).getD n 0:=λn=>n8 (I.qr n) ((iY u).red n) (jd.mp (by rw[e5,iI]) n);refine dG le λn h1 h2=>?_;have:=gt n;rw[gW h1,gW h2]at this;exact this
end Pl
namespace Pl
variable {p:Int}
def lD (p:Int)(g:Nat->Nat)(e m:Nat):Nat:=if p ∣ (g m:Int) then 0 else if e<=g m then 1 else 0
def mX (p:Int)(g:Nat->Nat)(e m:Nat):Nat:=if p ∣ (g m:Int) then g m else g m-e
def HW (p:Int)(g:Nat->Nat)(e m:Nat):Nat:=if p ∣ (g m:Int) then 0 else if g m=e then 1 else 0
theorem Hu {L:List (Pl p×Nat)}(A:Apart L)(g:Nat->Nat)(e:Nat):Gd (Pr L (lD p g e)) (Pr L (mX p g e)) (Pr L (lD p g (e+1))):=by
 have h:=Ni (g:=lD p g e) (h:=mX p g e) A;have c:Pr L (λm=>min (lD p g e m) (mX p g e m))=Pr L (lD p g (e+1)):=iW λq _=>by
  show min (lD p g e q.2) (mX p g e q.2)=lD p g (e+1) q.2;unfold lD mX;by_cases h:p ∣ (g q.2:Int)
  ·rw[ae h,ae h,ae h];lia
  ·rw[af h,af h,af h];by_cases k:e+1<=g q.2
   ·rw[ae k,ae (by lia)];lia
   ·rw[af k];by_cases k2:e<=g q.2
    ·rw[ae k2];lia
    ·rw[af k2];lia
 rw[c]at h;exact h
theorem Kc (L:List (Pl p×Nat))(g:Nat->Nat)(e:Nat):Pr L (lD p g e)=Pr L (HW p g e)*Pr L (lD p g (e+1)):=by
 rw[<- oR];exact iW λq _=>by
  unfold lD HW;by_cases h:p ∣ (g q.2:Int)
  ·rw[ae h,ae h,ae h]
  ·rw[af h,af h,af h];by_cases k:g q.2=e
   ·rw[ae k,ae (by lia),af (by lia)]
   ·rw[af k];by_cases k2:e<=g q.2
    ·rw[ae k2,ae (by lia)]
    ·rw[af k2,af (by lia)]
theorem Ky (L:List (Pl p×Nat))(g:Nat->Nat)(e:Nat):Pr L (mX p g e)=Pr L (mX p g (e+1))*Pr L (lD p g (e+1)):=by
 rw[<- oR];exact iW λq _=>by
  unfold lD mX;by_cases h:p ∣ (g q.2:Int)
  ·rw[ae h,ae h,ae h];lia
  ·rw[af h,af h,af h];by_cases k:e+1<=g q.2
   ·rw[ae k];lia
   ·rw[af k];lia
theorem Kq {p:Int}{n:Nat}(h:¬p ∣ (n:Int)):n≠0:=λz=>h (by rw[z];exact aI p)
theorem Ka (L:List (Pl p×Nat))(g:Nat->Nat):Pr L g=Pr L (lD p g 1)*Pr L (mX p g 1):=by
 rw[<- oR];exact iW λq _=>by
  unfold lD mX;by_cases h:p ∣ (g q.2:Int)
  ·rw[ae h,ae h];lia
  ·have:=Kq h;rw[af h,af h,ae (by lia)];lia
theorem Nr (hinv:∀x:Int,¬p ∣ x->∃t,p ∣ t*x-1){L:List (Pl p×Nat)}(A:Apart L)(S:∀q∈L,jR q.1 (dv q.1))(g:Nat->Nat):Gd (Pr L g) (dv (Pr L g)) (Pr L (mX p g 1)):=Oi hinv A S
theorem Ay:∀n:Nat,(1:Pl p)^n=1
 |0=>rfl
 |n+1=>by have e:(1:Pl p)^(n+1)=(1:Pl p)^n*1:=rfl;rw[e,Ay n,one_mul]
theorem mul_pow (a b:Pl p):∀n:Nat,(a*b)^n=a^n*b^n
 |0=>(one_mul 1).symm
 |n+1=>by have h:=mul_pow a b n;have e1:(a*b)^(n+1)=(a*b)^n*(a*b):=rfl;have e2:a^(n+1)=a^n*a:=rfl;have e3:b^(n+1)=b^n*b:=rfl;rw[e1,e2,e3,h];grind
theorem pow_mul (a:Pl p)(k:Nat):∀n:Nat,a^(k*n)=(a^k)^n
 |0=>rfl
 |n+1=>by have e1:k*(n+1)=k*n+k:=Nat.mul_succ k n;have e2:(a^k)^(n+1)=(a^k)^n*a^k:=rfl;rw[e1,pow_add,pow_mul a k n,e2]
theorem Gf (h:Nat->Nat)(n:Nat):∀L:List (Pl p×Nat),Pr L (λm=>h m*n)=Pr L h^n
 |[]=>(Ay n).symm
 |q::L=>by rw[iC,iC,mul_pow,Gf h n L,pow_mul]
theorem yl (f:Li):∀n:Nat,mk p (pw f n)=mk p f^n
 |0=>rfl
 |n+1=>by have h:=yl f n;have e1:mk p f^(n+1)=mk p f^n*mk p f:=rfl;rw[e1,<- h,iM];rfl
theorem pw_x (n:Nat):∀j,(pw [0,1] n).getD j 0=if j=n then 1 else 0:=by
 induction n with
 |zero=>
  intro j;cases j with
  |zero=>rfl
  |succ j=>rfl
 |succ n ih=>
  intro j;show(gC (pw [0,1] n) [0,1]).getD j 0=_;rw[gr,gK,Nz];cases j with
  |zero=>rw[ae rfl,af (by lia)];lia
  |succ j=>
   rw[af (by lia),show j+1-1=j from rfl,ih j];by_cases c:j=n
   ·rw[ae c,ae (by lia)];lia
   ·rw[af c,af (by lia)];lia
theorem Py (hp:iG p)(f:Li)(h0:∀m∈f,0<=m):mk p f^p.toNat=mk p (Pq (pw (pw [0,1] p.toNat)) f 0):=by obtain⟨Q,h⟩:=Ov hp [] f h0 0;rw[<- yl];refine jd.mpr λn=>?_;have h:=h n;rw[gK Q [],jg,aW,gr]at h;have e:cm (pw (pw [0,1] p.toNat) 0) (pw f p.toNat) n=(pw f p.toNat).getD n 0:=Hh _ n;rw[e]at h;exact h
theorem Ad (hp:iG p)(x:Pl p)(j:Nat):(ls (x^p.toNat)).getD (p.toNat*j) 0=(ls x).getD j 0:=by
 have p2:2<=p:=hp.1;have h0:∀m∈ls x,0<=m:=λm hm=>((iY x).at hp m hm).1;have e:=Py hp (ls x) h0;rw[iI]at e;rw[e,tY,iJ];have r:=(iY x).red j;refine Eq.trans ?_ r;refine(nF p _ _).mpr ?_;rw[zP];have at':∀k,p ∣ (pw (pw [0,1] p.toNat) (0+k)).getD (p.toNat*j) 0-if k=j then 1 else 0:=λk=>by
  have e2:mk p (pw (pw [0,1] p.toNat) (0+k))=mk p (pw [0,1] (p.toNat*k)):=by rw[yl,yl,yl,d6,<- pow_mul]
  have:=jd.mp e2 (p.toNat*j);rw[pw_x]at this;have e3:(if p.toNat*j=p.toNat*k then(1:Int) else 0)=if k=j then 1 else 0:=by
   by_cases c:k=j
   ·rw[ae c,ae (by rw[c])]
   ·rw[af c,af λz=>c (Nat.eq_of_mul_eq_mul_left (by lia) z).symm]
  rw[e3]at this;exact this
 by_cases hj:j<(ls x).length
 ·have k:=zp (z:=p) (f:=λk=>(ls x).getD k 0*(pw (pw [0,1] p.toNat) (0+k)).getD (p.toNat*j) 0) (i:=j) hj λi _ hi=>by have:=at' i;rw[af hi,aW]at this;exact a9 this
  have t:=at' j;rw[ae rfl]at t;generalize (pw (pw [0,1] p.toNat) (0+j)).getD (p.toNat*j) 0=y at *
  generalize sm (ls x).length (λk=>(ls x).getD k 0*(pw (pw [0,1] p.toNat) (0+k)).getD (p.toNat*j) 0)=S at *
  generalize (ls x).getD j 0=z at *
  have e4:S-z=(S-z*y)+z*(y-1):=by rw[cx];lia
  rw[e4];exact bJ k (a9 t)
 ·rw[gD (by lia),aW];exact qH λi hi=>by have:=at' i;rw[af (by lia),aW]at this;exact a9 this
theorem BR (hp:iG p){x:Pl p}(m:Mo x):(List.range (ls x).length).map (λi=>(ls (x^p.toNat)).getD (p.toNat*i) 0)=ls x/\(ls (x^p.toNat)).length=p.toNat*((ls x).length-1)+1:=by refine⟨dG (by rw[aa,aE]) λn h1 h2=>?_,m.qz hp.1 _⟩;rw[bO,bG,Ad hp,gW h2]
end Pl
namespace Pl
variable {p:Int}
theorem Mo.inj {x y:Pl p}(h:ls x=ls y):x=y:=by rw[<- iI x,<- iI y,h]
theorem Mo.tO (p2:2<=p){x:Pl p}(h:Mo x)(l:(ls x).length<=1):x=1:=by
 refine Mo.inj ?_;rw[uc p2];have k:gB (ls x)=1:=h;have:=h.pos;generalize ls x=a at *
 match a,l,this with
 |[b],_,_=>rw[show b=1 from k]
theorem wL:mk p []=(0:Pl p):=ext λn=>by show([]:Li).getD n 0=([0]:Li).getD n 0;rw[zN];rfl
theorem BV (x:Pl p):x*0=0:=by rw[mul_comm,zero_mul]
theorem Mo.ne0 {x:Pl p}(h:Mo x):x≠0:=λz=>by have k:=h.ne;rw[z,<- wL,tY]at k;exact k rfl
theorem Pj (hp:iG p)(y:Pl p)(mx:Mo x)(hl:(ls y).length<=200):∃d,Mo d/\Gd x y d:=by
 have G:=LQ hp (f:=ls x) hl;generalize gc p (ls x) (ls y)=r at G;have up:∀{f:Pl p},Dv p r (ls f)->∃u,f=u*mk p r:=λ{f} ⟨Q,h⟩=>⟨mk p Q,by
  rw[iM];refine Eq.trans (iI f).symm (jd.mpr λn=>?_);have:=h n;rw[gr];have e:(ls f).getD n 0-([]:List Int).getD n 0-cm Q r n=(ls f).getD n 0-cm Q r n:=by show _-0-_=_;lia
  rw[e]at this;exact this⟩
 have d1:=up G.d1;refine⟨mk p r,?_,?_,d1,up G.d2⟩
 ·rcases G.one with z|z
  ·obtain⟨u,e⟩:=d1;rw[z,wL,BV]at e;exact absurd e mx.ne0
  ·show gB (ls (mk p r))=1;rw[oM ⟨G.form,G.red⟩];exact z
 ·obtain⟨s,t,h⟩:=G.lc;refine⟨mk p s,mk p t,?_⟩;have e1:mk p s*x+mk p t*y=mk p s*mk p (ls x)+mk p t*mk p (ls y):=by rw[iI,iI]
  rw[e1];exact jd.mpr λn=>by rw[gH,gr,gr];exact h n
theorem Mo.PN (p2:2<=p){x d u:Pl p}(mx:Mo x)(md:Mo d)(e:x=u*d):Mo u:=by
 have hd:=md.pos;have d1:gB (ls d)=1:=md;have u0:ls u≠[]:=λz=>mx.ne0 (by rw[e,<- iI u,z,wL,zero_mul]);have lu:=lP u0;have ez:ls x=Tz p (gC (ls u) (ls d)):=by rw[<- tY,<- iM,iI,iI,e]
 have top:p ∣ cm (ls u) (ls d) ((ls u).length-1+((ls d).length-1))-gB (ls u):=by
  have:=yV (z:=p) (E:=ls u) (d:=ls d) (i:=(ls u).length-1) hd λj hj=>by rw[gD (by lia)];exact aI p
  rw[d1,bR]at this;exact this
 have t2:(ls x).getD ((ls u).length-1+((ls d).length-1)) 0=gB (ls u):=by rw[ez,iJ,gr];have r:=(iY u).red ((ls u).length-1);exact((nF p _ _).mpr top).trans r
 have nz:gB (ls u)≠0:=(iY u).form u0;have l1:(ls x).length<=(ls u).length+(ls d).length-1:=by rw[ez];exact km (g8 p _) λn hn=>by rw[iJ,gr,GZ (by lia)];exact jO p
 have l2:(ls u).length-1+((ls d).length-1)<(ls x).length:=by refine cD λh=>?_;rw[gD h]at t2;exact nz t2.symm
 have e2:(ls x).length-1=(ls u).length-1+((ls d).length-1):=by lia
 show gB (ls u)=1;rw[<- t2,<- e2];exact mx
structure Eb (q:Pl p):Prop where
 mo:Mo q
 deg:1<(ls q).length
 no:∀a b:Pl p,Mo a->Mo b->q=a*b->a=1\/b=1
theorem Eb.or (hp:iG p)(h:Eb q)(y:Pl p)(hl:(ls y).length<=200):jR q y\/∃u,y=u*q:=by
 obtain⟨d,md,⟨s,t,e⟩,⟨u,e1⟩,⟨v,e2⟩⟩:=Pj hp y h.mo hl;rcases h.no u d (Mo.PN hp.1 h.mo md e1) md e1 with z|z
 ·refine .inr ⟨v,?_⟩;rw[z,one_mul]at e1;rw[e1];exact e2
 ·refine .inl ⟨s,t,?_⟩;rw[<- e,z]
theorem Eb.cop (hp:iG p){q r:Pl p}(h:Eb q)(k:Eb r)(hl:(ls r).length<=200)(ne:q≠r):jR q r:=by
 rcases h.or hp r hl with c|⟨u,e⟩
 ·exact c
 ·rcases k.no u q (Mo.PN hp.1 k.mo h.mo e) h.mo e with z|z
  ·rw[z,one_mul]at e;exact absurd e.symm ne
  ·have:=h.deg;rw[z,uc hp.1]at this;exact absurd this (by decide)
theorem Jm (hp:iG p):∀(n:Nat) (x:Pl p),Mo x->(ls x).length<=n->∃l:List (Pl p),(∀q∈l,Eb q/\(ls q).length<=(ls x).length)/\x=l.foldr (λq y=>q*y) 1:=by
 intro n
 induction n with
 |zero=>exact λx mx h=>absurd mx.pos (by lia)
 |succ n ih=>
  intro x mx h;by_cases c:(ls x).length<=1
  ·exact⟨[],(λq hq=>by cases hq),mx.tO hp.1 c⟩
  by_cases I:∀a b:Pl p,Mo a->Mo b->x=a*b->a=1\/b=1
  ·refine⟨[x],λq hq=>?_,?_⟩
   ·rw[bw.mp hq];exact⟨⟨mx,by lia,I⟩,aj _⟩
   ·show x=x*1;rw[mul_comm,one_mul]
  ·obtain⟨a,ha⟩:=fB.mp I;obtain⟨b,hb⟩:=fB.mp ha;obtain⟨ma,hb⟩:=eB.mp hb;obtain⟨mb,hb⟩:=eB.mp hb;obtain⟨e,hb⟩:=eB.mp hb;have a1:¬(ls a).length<=1:=λz=>hb (.inl (ma.tO hp.1 z));have b1:¬(ls b).length<=1:=λz=>hb (.inr (mb.tO hp.1 z));have ll:=Mo.len hp.1 ma mb;rw[<- e]at ll;obtain⟨l,hl,el⟩:=ih a ma (by lia);obtain⟨k,hk,ek⟩:=ih b mb (by lia);refine⟨l++k,λq hq=>?_,?_⟩
   ·rcases cI.mp hq with hq|hq
    ·exact⟨(hl q hq).1,by have:=(hl q hq).2;lia⟩
    ·exact⟨(hk q hq).1,by have:=(hk q hq).2;lia⟩
   ·rw[e,ek,el];clear hl el
    induction l with
    |nil=>exact one_mul _
    |cons q l ih=>show q*_*_=q*_;rw[mul_assoc,ih];rfl
def put [DecidableEq (Pl p)](q:Pl p):List (Pl p×Nat)->List (Pl p×Nat)
 |[]=>[(q,1)]
 |r::L=>if r.1=q then(r.1,r.2+1)::L else r::put q L
theorem GF [DecidableEq (Pl p)](q:Pl p):∀L:List (Pl p×Nat),Pr (put q L) id=q*Pr L id
 |[]=>by show q^1*1=q*1;have e:q^1=q:=one_mul q;rw[e]
 |r::L=>by
  unfold put;by_cases h:r.1=q
  ·rw[ae h,iC,iC];show r.1^(r.2+1)*_=q*(r.1^r.2*_);have e:r.1^(r.2+1)=r.1^r.2*r.1:=rfl;rw[e,h];generalize Pr L id=y;generalize q^r.2=z;grind
  ·rw[af h,iC,iC,GF q L];generalize Pr L id=y;generalize r.1^id r.2=z;grind
theorem vX [DecidableEq (Pl p)]:∀{L:List (Pl p×Nat)} {r:Pl p×Nat},r∈put q L->(r.1=q\/∃s∈L,s.1=r.1)/\(r.2=0->∃s∈L,s.2=0)
 |[],r,h=>by rw[bw.mp h];exact⟨.inl rfl,λz=>by cases z⟩
 |s::L,r,h=>by
  unfold put at h;by_cases c:s.1=q
  ·rw[ae c]at h;rcases az.mp h with e|h
   ·rw[e];exact⟨.inl c,λz=>by cases z⟩
   ·exact⟨.inr ⟨r,ac _ h,rfl⟩,λz=>⟨r,ac _ h,z⟩⟩
  ·rw[af c]at h;rcases az.mp h with e|h
   ·rw[e];exact⟨.inr ⟨s,ag ..,rfl⟩,λz=>⟨s,ag ..,z⟩⟩
   ·obtain⟨h1,h2⟩:=vX h;refine⟨?_,λz=>?_⟩
    ·rcases h1 with h1|⟨t,ht,e⟩
     ·exact .inl h1
     ·exact .inr ⟨t,ac _ ht,e⟩
    ·obtain⟨t,ht,e⟩:=h2 z;exact⟨t,ac _ ht,e⟩
theorem put_nodup [DecidableEq (Pl p)]:∀{L:List (Pl p×Nat)},(L.Pairwise λa b=>a.1≠b.1)->(put q L).Pairwise λa b=>a.1≠b.1
 |[],_=>List.pairwise_singleton ..
 |s::L,h=>by
  obtain⟨h1,h2⟩:=ck.mp h;unfold put;by_cases c:s.1=q
  ·rw[ae c];exact ck.mpr ⟨h1,h2⟩
  ·rw[af c];refine ck.mpr ⟨λr hr=>?_,put_nodup h2⟩;rcases (vX hr).1 with e|⟨t,ht,e⟩
   ·rw[e];exact c
   ·rw[<- e];exact h1 t ht
theorem Jl (hp:iG p)(mx:Mo x):∃L:List (Pl p×Nat),(∀q∈L,Eb q.1/\(ls q.1).length<=(ls x).length/\q.2≠0)/\(L.Pairwise λa b=>a.1≠b.1)/\x=Pr L id:=by
 obtain⟨l,hl,e⟩:=Jm hp _ x mx (aj _);have dd:DecidableEq (Pl p):=λa b=>Classical.propDecidable _;have key:∀(N:Nat) (l:List (Pl p)),(∀q∈l,Eb q/\(ls q).length<=N)->∃L:List (Pl p×Nat),(∀q∈L,Eb q.1/\(ls q.1).length<=N/\q.2≠0)/\(L.Pairwise λa b=>a.1≠b.1)/\l.foldr (λq y=>q*y) 1=Pr L id:=by
  intro N l
  induction l with
  |nil=>exact λ_=>⟨[],(λq hq=>by cases hq),List.Pairwise.nil,rfl⟩
  |cons q l ih=>
   intro h;obtain⟨L,h1,h2,h3⟩:=ih λr hr=>h r (ac _ hr);have hq:=h q (ag ..);refine⟨put q L,λr hr=>?_,put_nodup h2,?_⟩
   ·obtain⟨k1,k2⟩:=vX hr;have nz:r.2≠0:=λz=>by obtain⟨s,hs,e⟩:=k2 z;exact(h1 s hs).2.2 e
    rcases k1 with k1|⟨s,hs,k1⟩
    ·rw[k1];exact⟨hq.1,hq.2,nz⟩
    ·rw[<- k1];exact⟨(h1 s hs).1,(h1 s hs).2.1,nz⟩
   ·rw[GF,<- h3];rfl
 obtain⟨L,h1,h2,h3⟩:=key _ l hl;exact⟨L,h1,h2,e.trans h3⟩
theorem Gv {x:Pl p}(hx:0<(ls x).length):(ls (dv x)).length<(ls x).length:=by
 have e:ls (dv x)=Tz p (dl (ls x)):=by rw[<- tY,<- sO,iI]
 rw[e];have:(Tz p (dl (ls x))).length<=(ls x).length-1:=km (g8 p _) λn hn=>by rw[iJ,mK,gD (by lia),bd];exact jO p
 lia
theorem Ff (hp:iG p){y:Pl p}(z:dv y=0)(n:Nat)(hn:¬p ∣ (n:Int)):(ls y).getD n 0=0:=by
 have e2:mk p (dl (ls y))=mk p [0]:=by rw[<- sO,iI];exact z
 cases n with
 |zero=>exact absurd (aI p) hn
 |succ n=>
  have:=jd.mp e2 n;rw[zN,aW,mK]at this;rcases Il hp this with k|k
  ·exact absurd k hn
  ·exact n8 ((iY y).red _) (jO p) (by rw[aW];exact k)
theorem MN (hp:iG p)(z:dv q=0):∃x:Pl p,q=x^p.toNat/\∀j,(ls x).getD j 0=(ls q).getD (p.toNat*j) 0:=by
 have p2:2<=p:=hp.1;obtain⟨m,hm⟩:∃m,p.toNat=m+1:=⟨p.toNat-1,by lia⟩;have xg:∀j,(ls (mk p ((List.range (ls q).length).map λi=>(ls q).getD (p.toNat*i) 0))).getD j 0=(ls q).getD (p.toNat*j) 0:=λj=>by
  rw[tY,iJ];by_cases c:j<(ls q).length
  ·rw[gW (by rw[aa,aE];exact c),bO,bG];exact(iY q).red _
  ·rw[gD (by rw[aa,aE];lia),gD (xs:=ls q) (aG (by lia) (Nat.le_mul_of_pos_left j (by lia)))];exact jO p
 generalize mk p ((List.range (ls q).length).map λi=>(ls q).getD (p.toNat*i) 0)=x at xg;refine⟨x,?_,xg⟩;have zx:dv (x^p.toNat)=0:=by rw[hm,vY,Kr (by rw[<- hm];have e:((p.toNat:Nat):Int)=p:=aY (by lia);rw[e];exact c7 p)];grind
 refine Mo.inj (jA (iY _).form (iY _).form λn=>?_);by_cases c:p ∣ (n:Int)
 ·obtain⟨k,hk⟩:=c;have k0:0<=k:=by refine Int.not_lt.mp λh=>?_;have:=Int.mul_neg_of_pos_of_neg (show 0<p by lia) h;lia
  have en:n=p.toNat*k.toNat:=by
   have e1:((p.toNat:Nat):Int)=p:=aY (by lia);have e2:((k.toNat:Nat):Int)=k:=aY k0;have:((p.toNat*k.toNat:Nat):Int)=p*k:=by rw[dj,e1,e2]
   lia
  rw[en,Ad hp,xg]
 ·rw[Ff hp z n c,Ff hp zx n c]
theorem zZ (hp:iG p){q:Pl p}(h:Eb q)(hl:(ls q).length<=200):jR q (dv q):=by
 have p2:2<=p:=hp.1;have sh:=Gv h.mo.pos;rcases h.or hp (dv q) (by lia) with c|⟨u,e⟩
 ·exact c
 have z:dv q=0:=by
  have r:=nA (p:=p) (d:=ls q) (r:=ls (dv q)) (s:=[]) (λx hx=>by rw[show gB (ls q)=1 from h.mo,bR]at hx;exact hx) ⟨(iY _).form,(iY _).red,sh⟩ ⟨kI,λn=>by show pl p 0=0;exact jO p,h.mo.pos⟩ ⟨ls u,λn=>by
   have e2:mk p (ls (dv q))=mk p (gC (ls u) (ls q)):=by rw[iI,<- iM,iI,iI];exact e
   have:=jd.mp e2 n;rw[gr]at this;show p ∣ (ls (dv q)).getD n 0-0-cm (ls u) (ls q) n;rw[aW];exact this⟩
  rw[<- iI (dv q),r,wL]
 obtain⟨x,ex,xg⟩:=MN hp z;have dg:=h.deg;have q1:(ls q).getD ((ls q).length-1) 0=1:=h.mo;have pd:p ∣ (((ls q).length-1:Nat):Int):=by refine Classical.byContradiction λc=>?_;rw[Ff hp z _ c]at q1;exact absurd q1 (by decide)
 obtain⟨k,hk⟩:=pd;have k0:0<k:=by refine Int.not_le.mp λh=>?_;have:=bi (show 0<=p by lia) h;lia
 have e1:((p.toNat:Nat):Int)=p:=aY (by lia);have e2:((k.toNat:Nat):Int)=k:=aY (by lia);have en:(ls q).length-1=p.toNat*k.toNat:=by
  have:((p.toNat*k.toNat:Nat):Int)=p*k:=by rw[dj,e1,e2]
  lia
 have x1:(ls x).getD k.toNat 0=1:=by rw[xg,<- en];exact q1
 have xl:(ls x).length<=k.toNat+1:=km (iY x).form λn hn=>by rw[xg];refine gD ?_;have:p.toNat*(k.toNat+1)<=p.toNat*n:=fQ _ hn;rw[Nat.mul_succ]at this;lia
 have xl2:k.toNat<(ls x).length:=cD λc=>by rw[gD c]at x1;exact absurd x1 (by decide)
 have le:(ls x).length-1=k.toNat:=by lia
 have mx:Mo x:=by show(ls x).getD ((ls x).length-1) 0=1;rw[le];exact x1
 obtain⟨m,hm⟩:∃m,p.toNat=m+1+1:=⟨p.toNat-2,by lia⟩;have l2:=mx.qz p2 (m+1);rw[le]at l2;have e3:q=x^(m+1)*x:=by rw[ex,hm];rfl
 rcases h.no _ _ (mx.pow p2 _) mx e3 with c|c
 ·rw[c,uc p2]at l2;have:1=(m+1)*k.toNat+1:=l2;have:0<(m+1)*k.toNat:=Nat.mul_pos (by lia) (by lia);lia
 ·rw[c,uc p2]at le;have:1-1=k.toNat:=le;lia
end Pl
namespace Pl
variable {p:Int}
structure o6 (L:List (Pl p×Nat)):Prop where
 ap:Apart L
 sep:∀q∈L,jR q.1 (dv q.1)
 mo:∀q∈L,Mo q.1
 dg:∀q∈L,1<(ls q.1).length
def qt (p:Int)(f d:List Int):List Int:=((K4 p f d).getD ([],[])).1
theorem Fl (hp:iG p){u d:Pl p}(mu:Mo u)(md:Mo d):K4 p (ls (u*d)) (ls d)=some (ls u,[]):=by
 have g1:Int.gcd (gB (ls d)) p=1:=by rw[show gB (ls d)=1 from md];exact Int.gcd_one_left ..
 obtain⟨h1,h2⟩:=yW (z:=p) (ov:=Gh p) (f:=ls (u*d)) (d:=ls d) md.pos (λa c ha hc=>hov hp.1 g1 a c ha hc) ((ls (u*d)).length+1) _ _ (qG.start (iY (u*d)).form (iY (u*d)).red) (cy _);unfold K4;cases o:Cv p (Gh p) (ls d) ((ls (u*d)).length+1) (List.replicate ((ls (u*d)).length+1-(ls d).length) 0) (ls (u*d)) with
 |none=>obtain⟨_,_,_,_,z⟩:=h2 o;cases z
 |some x=>obtain⟨q,r⟩:=x;obtain⟨I,hl⟩:=h1 q r o;obtain⟨e1,e2⟩:=PN (u:=u) hp.1 I hl mu (by rw[iI];exact md) (iY _) (iY _) (by rw[iI,iI]);rw[e1,e2]
theorem Ge (hp:iG p){u d:Pl p}(mu:Mo u)(md:Mo d):qt p (ls (u*d)) (ls d)=ls u:=by unfold qt;rw[Fl hp mu md];rfl
theorem Al {a b d:Pl p}(h:Gd a b d)(m:Mo d):gc p (ls a) (ls b)=ls d:=xY (Ou (by rw[iI,iI];exact h) m)
def vB (p:Int)(f:List Int):Nat->List Int×List Int
 |0=>(gc p f (Tz p (dl f)),qt p f (gc p f (Tz p (dl f))))
 |e+1=>(qt p (vB p f e).1 (gc p (vB p f e).2 (vB p f e).1),gc p (vB p f e).2 (vB p f e).1)
def wO (p:Int)(f:List Int)(e:Nat):List Int:=qt p (vB p f e).2 (gc p (vB p f e).2 (vB p f e).1)
theorem O3 (x:Pl p):ls (dv x)=Tz p (dl (ls x)):=by rw[<- tY,<- sO,iI]
theorem o6.pr {L:List (Pl p×Nat)}(F:o6 L)(p2:2<=p)(g:Nat->Nat):Mo (Pr L g):=Mo.pr p2 F.mo
theorem tE (hp:iG p)(hinv:∀x:Int,¬p ∣ x->∃t,p ∣ t*x-1){L:List (Pl p×Nat)}(F:o6 L)(g:Nat->Nat):∀e,vB p (ls (Pr L g)) e=(ls (Pr L (mX p g (e+1))),ls (Pr L (lD p g (e+1))))
 |0=>by
  have p2:2<=p:=hp.1;have e1:gc p (ls (Pr L g)) (Tz p (dl (ls (Pr L g))))=ls (Pr L (mX p g 1)):=by rw[<- O3];exact Al (Nr hinv F.ap F.sep g) (F.pr p2 _)
  have e2:qt p (ls (Pr L g)) (ls (Pr L (mX p g 1)))=ls (Pr L (lD p g 1)):=by
   conv=>lhs;rw[Ka L g]
   exact Ge hp (F.pr p2 _) (F.pr p2 _)
  show(gc p (ls (Pr L g)) (Tz p (dl (ls (Pr L g)))),qt p (ls (Pr L g)) (gc p (ls (Pr L g)) (Tz p (dl (ls (Pr L g))))))=_;rw[e1,e2]
 |e+1=>by
  have p2:2<=p:=hp.1;have ih:=tE hp hinv F g e;have e1:gc p (ls (Pr L (lD p g (e+1)))) (ls (Pr L (mX p g (e+1))))=ls (Pr L (lD p g (e+1+1))):=Al (Hu F.ap g (e+1)) (F.pr p2 _);have e2:qt p (ls (Pr L (mX p g (e+1)))) (ls (Pr L (lD p g (e+1+1))))=ls (Pr L (mX p g (e+1+1))):=by
   conv=>lhs;rw[Ky L g (e+1)]
   exact Ge hp (F.pr p2 _) (F.pr p2 _)
  show(qt p (vB p (ls (Pr L g)) e).1 (gc p (vB p (ls (Pr L g)) e).2 (vB p (ls (Pr L g)) e).1),gc p (vB p (ls (Pr L g)) e).2 (vB p (ls (Pr L g)) e).1)=_;rw[ih];rw[e1,e2]
theorem vq (hp:iG p)(hinv:∀x:Int,¬p ∣ x->∃t,p ∣ t*x-1){L:List (Pl p×Nat)}(F:o6 L)(g:Nat->Nat)(e:Nat):wO p (ls (Pr L g)) e=ls (Pr L (HW p g (e+1))):=by
 have p2:2<=p:=hp.1;unfold wO;rw[tE hp hinv F g e];rw[Al (Hu F.ap g (e+1)) (F.pr p2 _)]
 conv=>lhs;rw[Kc L g (e+1)]
 exact Ge hp (F.pr p2 _) (F.pr p2 _)
theorem HF (p2:2<=p){L:List (Pl p×Nat)}(F:o6 L){g:Nat->Nat}{e:Nat}(h:(ls (Pr L (lD p g e))).length<=1):(∀q∈L,¬p ∣ (g q.2:Int)->g q.2<e)/\Pr L (mX p g e)=Pr L (λm=>if p ∣ (g m:Int) then g m / p.toNat else 0)^p.toNat:=by
 have k:=mt (jE p2 (g:=lD p g e) F.mo F.dg).mpr (by lia);have lt:∀q∈L,¬p ∣ (g q.2:Int)->g q.2<e:=λq hq hn=>cD λc=>k ⟨q,hq,by
  unfold lD;rw[af hn,ae c];decide⟩
 refine⟨lt,?_⟩;rw[<- Gf];refine iW λq hq=>?_;unfold mX;by_cases c:p ∣ (g q.2:Int)
 ·rw[ae c,ae c];have e1:((p.toNat:Nat):Int)=p:=aY (by lia);exact(Nat.div_mul_cancel (dk.mp (by rw[e1];exact c))).symm
 ·rw[af c,af c];have:=lt q hq c;lia
end Pl
namespace Pl
variable {p:Int}
theorem rM (p2:2<=p):∀{L:List (Pl p×Nat)},(∀q∈L,Mo q.1)->(∀q∈L,1<(ls q.1).length)->∀q∈L,g q.2<(ls (Pr L g)).length
 |[],_,_=>λq h=>by cases h
 |q::L,h,d=>λr hr=>by
  have h1:=h q (ag ..);have d1:=d q (ag ..);have m2:Mo (Pr L g):=Mo.pr p2 λr hr=>h r (ac _ hr);have hl:=Mo.len p2 (h1.pow p2 (g q.2)) m2;have mp:=m2.pos;rw[Mo.qz p2 h1,<- iC]at hl;rcases az.mp hr with e|hr
  ·rw[e];have:g q.2*1<=g q.2*((ls q.1).length-1):=fQ _ (by lia);lia
  ·have:=rM p2 (g:=g) (λr hr=>h r (ac _ hr)) (λr hr=>d r (ac _ hr)) r hr;lia
def yN (k:Nat)(f:List Int):List Int:=(List.range ((f.length+k-1) / k)).map λi=>f.getD (k*i) 0
theorem Hs (hp:iG p){x:Pl p}(m:Mo x):yN p.toNat (ls (x^p.toNat))=ls x:=by
 have p2:2<=p:=hp.1;obtain⟨h1,h2⟩:=BR hp m;have l:=m.pos;unfold yN;have e:((ls (x^p.toNat)).length+p.toNat-1) / p.toNat=(ls x).length:=by
  rw[h2];have e1:p.toNat*((ls x).length-1)+1+p.toNat-1=(ls x).length*p.toNat:=by obtain⟨n,hn⟩:∃n,(ls x).length=n+1:=⟨(ls x).length-1,by lia⟩;rw[hn,fm,bN];show n*p.toNat+1+p.toNat-1=_;lia
  rw[e1];exact d9 _ (by lia)
 rw[e];exact h1
def gk (p:Int):Nat->Nat->Nat
 |0,m=>m
 |k+1,m=>if p ∣ (gk p k m:Int) then gk p k m / p.toNat else 0
def lf (p:Int)(f:List Int):Nat->List Int
 |0=>f
 |k+1=>yN p.toNat (vB p (lf p f k) (lf p f k).length).1
theorem Fd (p2:2<=p){L:List (Pl p×Nat)}(F:o6 L)(g:Nat->Nat){e:Nat}(h:(ls (Pr L g)).length<=e):(ls (Pr L (lD p g e))).length<=1:=by
 refine c6 λc=>?_;obtain⟨q,hq,k⟩:=(jE p2 F.mo F.dg).mp c;have b:=rM p2 (g:=g) F.mo F.dg q hq;unfold lD at k;by_cases c1:p ∣ (g q.2:Int)
 ·rw[ae c1]at k;exact k rfl
 ·rw[af c1,af (by lia)]at k;exact k rfl
theorem ou (hp:iG p)(hinv:∀x:Int,¬p ∣ x->∃t,p ∣ t*x-1){L:List (Pl p×Nat)}(F:o6 L):∀k,lf p (ls (Pr L id)) k=ls (Pr L (gk p k))
 |0=>rfl
 |k+1=>by have ih:=ou hp hinv F k;show yN p.toNat (vB p (lf p (ls (Pr L id)) k) (lf p (ls (Pr L id)) k).length).1=_;rw[ih,tE hp hinv F];rw[(HF hp.1 F (Fd hp.1 F (gk p k) (fJ _))).2];exact Hs hp (F.pr hp.1 _)
theorem tL (p2:2<=p):∀k m,gk p k m=if p.toNat^k ∣ m then m / p.toNat^k else 0
 |0,m=>by rw[Nat.pow_zero,ae (Nat.one_dvd m),Nat.div_one];rfl
 |k+1,m=>by
  have e1:((p.toNat:Nat):Int)=p:=aY (by lia);have dv':∀n:Nat,p ∣ (n:Int) ↔ p.toNat ∣ n:=λn=>by rw[<- dk,e1]
  show(if p ∣ (gk p k m:Int) then gk p k m / p.toNat else 0)=_;rw[tL p2 k m];have pp:0<p.toNat^k:=dy (by lia);by_cases c:p.toNat^k ∣ m
  ·rw[ae c];by_cases c2:p.toNat^(k+1) ∣ m
   ·have c3:p.toNat ∣ m / p.toNat^k:=by rw[cp]at c2;exact(eO c).mpr c2
    rw[ae ((dv' _).mpr c3),ae c2,Nat.div_div_eq_div_mul,<- cp]
   ·have c3:¬p.toNat ∣ m / p.toNat^k:=λh=>c2 (by
     rw[cp];exact(eO c).mp h)
    rw[af (λh=>c3 ((dv' _).mp h)),af c2]
  ·have c2:¬p.toNat^(k+1) ∣ m:=λh=>c (Nat.dvd_trans ⟨p.toNat,cp ..⟩ h);rw[af c,af c2];by_cases c3:p ∣ ((0:Nat):Int)
   ·rw[ae c3,f7]
   ·rw[af c3]
def ind (c m:Nat):Nat:=if m=c then 1 else 0
theorem M4 (p2:2<=p){k e:Nat}(he:¬p ∣ (e:Int))(m:Nat):HW p (gk p k) e m=ind (e*p.toNat^k) m:=by
 have pp:0<p.toNat^k:=dy (by lia);have e0:=Kq he;unfold HW ind;rw[tL p2 k m];by_cases c:p.toNat^k ∣ m
 ·rw[ae c];have iff:m / p.toNat^k=e ↔ m=e*p.toNat^k:=Nat.div_eq_iff_eq_mul_left pp c;by_cases c2:m / p.toNat^k=e
  ·rw[c2,af he,ae rfl,ae (iff.mp c2)]
  ·rw[af (λh=>c2 (iff.mpr h))];by_cases c3:p ∣ ((m / p.toNat^k:Nat):Int)
   ·rw[ae c3]
   ·rw[af c3,af c2]
 ·rw[af c,ae (show p ∣ ((0:Nat):Int) from aI p),af λh=>c ⟨e,by rw[h,bN]⟩]
theorem JC {k e:Nat}(he:p ∣ (e:Int))(g:Nat->Nat)(m:Nat):HW p g e m=0:=by
 unfold HW;by_cases c:p ∣ (g m:Int)
 ·rw[ae c]
 ·rw[af c];by_cases c2:g m=e
  ·rw[c2]at c;exact absurd he c
  ·rw[af c2]
theorem Ef (hp:iG p)(hinv:∀x:Int,¬p ∣ x->∃t,p ∣ t*x-1){L:List (Pl p×Nat)}(F:o6 L){k e:Nat}(he:¬p ∣ ((e+1:Nat):Int)):wO p (lf p (ls (Pr L id)) k) e=ls (Pr L (ind ((e+1)*p.toNat^k))):=by rw[ou hp hinv F,vq hp hinv F];exact congrArg ls (iW λq _=>M4 hp.1 he q.2)
theorem JG (hp:iG p)(hinv:∀x:Int,¬p ∣ x->∃t,p ∣ t*x-1){L:List (Pl p×Nat)}(F:o6 L){k e:Nat}(he:p ∣ ((e+1:Nat):Int)):wO p (lf p (ls (Pr L id)) k) e=[1]:=by
 rw[ou hp hinv F,vq hp hinv F,iW (h:=λ_=>0) λq _=>JC (k:=k) he _ q.2];have z:∀L:List (Pl p×Nat),Pr L (λ_=>0)=1:=λL=>by
  induction L with
  |nil=>rfl
  |cons q L ih=>rw[iC,ih];exact one_mul 1
 rw[z,uc hp.1]
end Pl
namespace Pl
variable {p:Int}
theorem Gm (hp:iG p){x:Pl p}(m:Mo x)(l:(ls x).length<=200):KH p (ls x):=⟨hp,l,by rw[xZ];exact m.ne,by rw[xZ,show gB (ls x)=1 from m];exact Int.gcd_one_left ..⟩
theorem K5 (hp:iG p){x u d:Pl p}(e:x=u*d)(mu:Mo u)(md:Mo d):sH p (Tz p (ls x)) (Tz p (ls d))=.tup [.ints (ls u),.ints []]:=by unfold sH;rw[xZ,xZ,e,Fl hp mu md]
def prs (p:Int)(f:List Int)(N:Nat):List PV:=(List.range N).filterMap λe=>if 1<(wO p f e).length then some (.tup [.ints (wO p f e),.int ((e:Int)+1)]) else none
def uR (p:Int)(f:List Int):PV:=.tup [.lst (prs p f f.length),.ints (vB p f f.length).1]
theorem t6 (p:Int)(f:Li)(N:Nat):prs p f (N+1)=prs p f N++if 1<(wO p f N).length then[.tup [.ints (wO p f N),.int ((N:Int)+1)]] else[]:=by
 unfold prs;rw[List.range_succ,List.filterMap_append];congr 1;rw[aJ,List.filterMap_nil];by_cases c:1<(wO p f N).length
 ·rw[ae c,ae c]
 ·rw[af c,af c]
theorem yh (p2:2<=p){L:List (Pl p×Nat)}(F:o6 L){g:Nat->Nat}{e n:Nat}(h:(ls (Pr L (lD p g e))).length<=1)(hn:e<=n):¬1<(ls (Pr L (HW p g n))).length/\Pr L (mX p g n)=Pr L (mX p g e):=by
 have lt:=(HF p2 F h).1;refine⟨λc=>?_,iW λq hq=>?_⟩
 ·obtain⟨q,hq,k⟩:=(jE p2 F.mo F.dg).mp c;unfold HW at k;by_cases c1:p ∣ (g q.2:Int)
  ·rw[ae c1]at k;exact k rfl
  ·have:=lt q hq c1;rw[af c1,af (by lia)]at k;exact k rfl
 ·unfold mX;by_cases c1:p ∣ (g q.2:Int)
  ·rw[ae c1,ae c1]
  ·have:=lt q hq c1;rw[af c1,af c1];lia
theorem yd (hp:iG p){L:List (Pl p×Nat)}(F:o6 L){g:Nat->Nat}{e:Nat}(h:(ls (Pr L (lD p g (e+1)))).length<=1):∀n,prs p (ls (Pr L g)) (e+n)=prs p (ls (Pr L g)) e
 |0=>rfl
 |n+1=>by rw[<- Nat.add_assoc,t6,yd hp F h n,vq hp (λx hx=>jB hp hx) F,af (yh hp.1 F h (by lia)).1,aZ]
theorem Ir (hp:iG p){L:List (Pl p×Nat)}(F:o6 L){g:Nat->Nat}{e:Nat}(h:(ls (Pr L (lD p g (e+1)))).length<=1)(he:e<=(ls (Pr L g)).length):uR p (ls (Pr L g))=.tup [.lst (prs p (ls (Pr L g)) e),.ints (ls (Pr L (mX p g (e+1))))]:=by unfold uR;obtain⟨n,hn⟩:∃n,(ls (Pr L g)).length=e+n:=⟨(ls (Pr L g)).length-e,by lia⟩;rw[hn,yd hp F h,tE hp (λx hx=>jB hp hx) F];rw[(yh hp.1 F h (show e+1<=e+n+1 by lia)).2]
def scP (c:Int):PV->PV
 | .tup [a,.int e]=>.tup [a,.int (e*c)]
 |q=>q
def Hj (p:Int)(f:List Int)(k:Nat):List PV:=(prs p (lf p f k) (lf p f k).length).map (scP (p^k))
def jD (p:Int)(f:List Int):Nat->List PV
 |0=>[]
 |k+1=>jD p f k++Hj p f k
def TT (L:List (Pl p×Nat))(c:Nat):PV:=.tup [.ints (ls (Pr L (ind c))),.int (c:Int)]
def GR (L:List (Pl p×Nat)):List PV:=((List.range 31).filter λc=>decide (1<(ls (Pr L (ind c))).length)).map (TT L)
theorem vJ (p2:2<=p)(k:Nat):((p.toNat^k:Nat):Int)=p^k:=by rw[Int.natCast_pow,aY (by lia)]
theorem wC (hp:iG p){L:List (Pl p×Nat)}(F:o6 L){k:Nat}:q∈Hj p (ls (Pr L id)) k ↔ ∃e,e<(lf p (ls (Pr L id)) k).length/\¬p ∣ ((e+1:Nat):Int)/\1<(ls (Pr L (ind ((e+1)*p.toNat^k)))).length/\q=TT L ((e+1)*p.toNat^k):=by
 have hinv:=λx hx=>jB hp (x:=x) hx;have p2:2<=p:=hp.1;have cast:∀e:Nat,(((e+1)*p.toNat^k:Nat):Int)=((e:Int)+1)*p^k:=λe=>by rw[dj,vJ p2];rfl
 unfold Hj prs;rw[bW];constructor
 ·rintro⟨r,hr,rfl⟩;obtain⟨e,he,hq⟩:=bD.mp hr;rw[cE]at he;by_cases c:1<(wO p (lf p (ls (Pr L id)) k) e).length
  ·rw[ae c]at hq;have nd:¬p ∣ ((e+1:Nat):Int):=λz=>by rw[JG hp hinv F z]at c;exact absurd c (by decide)
   rw[Ef hp hinv F nd]at c hq;refine⟨e,he,nd,c,?_⟩;cases hq;unfold TT;rw[cast];rfl
  ·rw[af c]at hq;cases hq
 ·rintro⟨e,he,nd,c,rfl⟩;refine⟨.tup [.ints (wO p (lf p (ls (Pr L id)) k) e),.int ((e:Int)+1)],bD.mpr ⟨e,cE.mpr he,?_⟩,?_⟩
  ·rw[Ef hp hinv F nd,ae c]
  ·rw[Ef hp hinv F nd];unfold TT;rw[cast];rfl
theorem rF (hp:iG p){L:List (Pl p×Nat)}(F:o6 L):∀{K:Nat},q∈jD p (ls (Pr L id)) K ↔ ∃k e,k<K/\e<(lf p (ls (Pr L id)) k).length/\¬p ∣ ((e+1:Nat):Int)/\1<(ls (Pr L (ind ((e+1)*p.toNat^k)))).length/\q=TT L ((e+1)*p.toNat^k)
 |0=>by
  constructor
  ·intro h;cases h
  ·rintro⟨k,e,h,_⟩;lia
 |K+1=>by
  show q∈jD p (ls (Pr L id)) K++Hj p (ls (Pr L id)) K ↔ _;rw[cI,rF hp F (K:=K),wC hp F];constructor
  ·rintro (⟨k,e,h,r⟩|⟨e,r⟩)
   ·exact⟨k,e,by lia,r⟩
   ·exact⟨K,e,by lia,r⟩
  ·rintro⟨k,e,h,r⟩;by_cases c:k=K
   ·subst c;exact .inr ⟨e,r⟩
   ·exact .inl ⟨k,e,by lia,r⟩
theorem wu (L:List (Pl p×Nat))(c:Nat):kY (TT L c)=(c:Int):=rfl
theorem Mh (hp:iG p){L:List (Pl p×Nat)}(F:o6 L)(k:Nat):((Hj p (ls (Pr L id)) k).map kY).Nodup:=by
 have p2:2<=p:=hp.1;unfold Hj prs;rw[d7,List.Nodup,cw,List.pairwise_filterMap];refine eZ.imp λ{a b} hab x hx y hy=>?_;have shape:∀(e:Nat) (z:PV),(if 1<(wO p (lf p (ls (Pr L id)) k) e).length then some (PV.tup [.ints (wO p (lf p (ls (Pr L id)) k) e),.int ((e:Int)+1)]) else none)=some z->(kY ∘ scP (p^k)) z=((e:Int)+1)*p^k:=λe z h=>by
  split at h
  ·cases h;rfl
  ·cases h
 rw[shape a x hx,shape b y hy];have pp:p^k≠0:=Int.pow_ne_zero (by lia);intro z;have:=Int.eq_of_mul_eq_mul_right pp z;lia
theorem yO (hp:iG p){L:List (Pl p×Nat)}(F:o6 L):∀K,((jD p (ls (Pr L id)) K).map kY).Nodup
 |0=>List.Pairwise.nil
 |K+1=>by
  show((jD p (ls (Pr L id)) K++Hj p (ls (Pr L id)) K).map kY).Nodup;rw[bF,List.nodup_append];refine⟨yO hp F K,Mh hp F K,λa ha b hb z=>?_⟩;obtain⟨x,hx,rfl⟩:=bW.mp ha;obtain⟨y,hy,rfl⟩:=bW.mp hb;obtain⟨k,e,hk,_,nd,_,rfl⟩:=(rF hp F).mp hx;obtain⟨e',_,_,_,rfl⟩:=(wC hp F).mp hy;rw[wu,wu]at z;have z:(e+1)*p.toNat^k=(e' + 1)*p.toNat^K:=Int.ofNat.inj z;have p2:2<=p:=hp.1;have pp:0<p.toNat^k:=dy (by lia);obtain⟨m,rfl⟩:∃m,K=k+(m+1):=⟨K-k-1,by lia⟩;have z2:e+1=(e' + 1)*p.toNat^m*p.toNat:=by refine Nat.eq_of_mul_eq_mul_right pp ?_;rw[z,Nat.pow_add,cp];rw[bN (p.toNat^k),cV (e' + 1),<- cV (e' + 1) (p.toNat^m*p.toNat)]
  refine nd ?_;rw[z2,dj,aY (by lia)];exact eS ..
theorem IW:∀(n:Nat) (p2:2<=p),n≠0->∃e k,n=(e+1)*p.toNat^k/\¬p ∣ ((e+1:Nat):Int):=by
 intro n p2
 induction n using Nat.strongRecOn with
 |ind n ih=>
  intro h;by_cases c:p ∣ (n:Int)
  ·have c2:p.toNat ∣ n:=by rw[<- dk,aY (by lia)];exact c
   obtain⟨m,hm⟩:=c2;have m0:m≠0:=λz=>h (by rw[hm,z,Nat.mul_zero]);have lt:m<n:=by rw[hm];have:2*m<=p.toNat*m:=fE _ (by lia);lia
   obtain⟨e,k,h1,h2⟩:=ih m lt m0;exact⟨e,k+1,by rw[hm,h1,cp,bN p.toNat,cV],h2⟩
  ·exact⟨n-1,0,by rw[Nat.pow_zero,Nat.mul_one];lia,by rw[Nat.sub_add_cancel (by lia)];exact c⟩
theorem Ml (hp:iG p){L:List (Pl p×Nat)}(F:o6 L)(nz:∀q∈L,q.2≠0)(hl:(ls (Pr L id)).length<=31){K:Nat}(hK:(lf p (ls (Pr L id)) K).length<=1):(GR L).Perm (jD p (ls (Pr L id)) K)/\(GR L).Pairwise (λa b=>kY a<kY b):=by
 have hinv:=λx hx=>jB hp (x:=x) hx;have p2:2<=p:=hp.1;have ord:(GR L).Pairwise (λa b=>kY a<kY b):=by unfold GR;rw[cw];exact(eZ.filter _).imp λ{a b} h=>by rw[wu,wu];lia
 refine⟨?_,ord⟩;have n1:(GR L).Nodup:=ord.imp λ{a b} h z=>by rw[z]at h;lia
 have n2:(jD p (ls (Pr L id)) K).Nodup:=by have:=yO hp F K;rw[List.Nodup,cw]at this;exact this.imp λ{a b} h z=>h (by rw[z])
 refine(List.perm_ext_iff_of_nodup n1 n2).mpr λq=>?_;rw[rF hp F];unfold GR;rw[bW];constructor
 ·rintro⟨c,hc,rfl⟩;obtain⟨hr,hd⟩:=dO.mp hc;have hd:=cU hd;obtain⟨r,hr2,hz⟩:=(jE p2 F.mo F.dg).mp hd;have ec:r.2=c:=by
   unfold ind at hz;by_cases z:r.2=c
   ·exact z
   ·rw[af z]at hz;exact absurd rfl hz
  have c0:c≠0:=by rw[<- ec];exact nz r hr2
  obtain⟨e,k,h1,h2⟩:=IW c p2 c0;have pp:0<p.toNat^k:=dy (by lia);have gkc:gk p k r.2=e+1:=by rw[tL p2,ec,h1,ae ⟨e+1,bN ..⟩,d9 _ pp]
  have big:=rM p2 (g:=gk p k) F.mo F.dg r hr2;rw[gkc,<- ou hp hinv F]at big;refine⟨k,e,?_,by lia,h2,by rw[<- h1];exact hd,by rw[<- h1]⟩;refine cD λhKk=>?_;rw[ou hp hinv F]at hK;have:=mt (jE p2 (g:=gk p K) F.mo F.dg).mpr (by lia);refine this ⟨r,hr2,?_⟩;have dv':p.toNat^K ∣ r.2:=by rw[ec,h1];exact Nat.dvd_trans (Nat.pow_dvd_pow _ hKk) ⟨e+1,bN ..⟩
  rw[tL p2,ae dv'];have:0<r.2 / p.toNat^K:=Nat.div_pos (Nat.le_of_dvd (by have:=nz r hr2;lia) dv') (dy (by lia));lia
 ·rintro⟨k,e,hk,he,nd,hd,rfl⟩;refine⟨_,dO.mpr ⟨cE.mpr ?_,aM hd⟩,rfl⟩;obtain⟨r,hr2,hz⟩:=(jE p2 F.mo F.dg).mp hd;have ec:r.2=(e+1)*p.toNat^k:=by
   unfold ind at hz;by_cases z:r.2=(e+1)*p.toNat^k
   ·exact z
   ·rw[af z]at hz;exact absurd rfl hz
  have big:=rM p2 (g:=id) F.mo F.dg r hr2;have big:r.2<(ls (Pr L id)).length:=big;lia
theorem HS (hp:iG p){L:List (Pl p×Nat)}(F:o6 L){k:Nat}(h:(lf p (ls (Pr L id)) k).length<=1):Hj p (ls (Pr L id)) k=[]:=by
 refine List.eq_nil_iff_forall_not_mem.mpr λq hq=>?_;have hinv:=λx hx=>jB hp (x:=x) hx;obtain⟨e,he,nd,hd,_⟩:=(wC hp F).mp hq;obtain⟨r,hr2,hz⟩:=(jE hp.1 F.mo F.dg).mp hd;have ec:r.2=(e+1)*p.toNat^k:=by
  unfold ind at hz;by_cases z:r.2=(e+1)*p.toNat^k
  ·exact z
  ·rw[af z]at hz;exact absurd rfl hz
 have p2:2<=p:=hp.1;rw[ou hp hinv F]at h;have:=mt (jE hp.1 (g:=gk p k) F.mo F.dg).mpr (by lia);refine this ⟨r,hr2,?_⟩;rw[tL hp.1,ec,ae ⟨e+1,bN ..⟩,d9 _ (dy (by lia))];lia
theorem yw (hp:iG p){L:List (Pl p×Nat)}(F:o6 L){k:Nat}(h:1<(lf p (ls (Pr L id)) k).length):k<(ls (Pr L id)).length:=by
 have hinv:=λx hx=>jB hp (x:=x) hx;have p2:2<=p:=hp.1;rw[ou hp hinv F]at h;obtain⟨r,hr2,hz⟩:=(jE p2 F.mo F.dg).mp h;have big:r.2<(ls (Pr L id)).length:=rM p2 (g:=id) F.mo F.dg r hr2;rw[tL p2]at hz;by_cases c:p.toNat^k ∣ r.2
 ·by_cases r0:r.2=0
  ·rw[ae c,r0,f7]at hz;exact absurd rfl hz
  have h1:=Nat.le_of_dvd (by lia) c;have h2:k<p.toNat^k:=ay Nat.lt_two_pow_self (fR (by lia) k);lia
 ·rw[af c]at hz;exact absurd rfl hz
theorem LC (hp:iG p)(mx:Mo x)(hl:(ls x).length<=100):∃L:List (Pl p×Nat),o6 L/\(∀q∈L,q.2≠0)/\x=Pr L id:=by obtain⟨L,h1,h2,h3⟩:=Jl hp mx;refine⟨L,⟨?_,λq hq=>zZ hp (h1 q hq).1 (by have:=(h1 q hq).2.1;lia),λq hq=>(h1 q hq).1.mo,λq hq=>(h1 q hq).1.deg⟩,λq hq=>(h1 q hq).2.2,h3⟩;exact List.Pairwise.imp_of_mem (λ{a b} ha hb ne=>(h1 a ha).1.cop hp (h1 b hb).1 (by have:=(h1 b hb).2.1;lia) ne) h2
end Pl
open Pl in
theorem G6 (p:Int)(f:Li):ik (((f.mapIdx λk n=>(k:Int)*n).drop 1).map (pl p))=Tz p (dl f):=by
 unfold Tz;refine HR λn=>?_;rw[mK];congr 1;have e:((f.mapIdx λk n=>(k:Int)*n).drop 1).getD n 0=(f.mapIdx λk n=>(k:Int)*n).getD (n+1) 0:=by rw[gQ,gQ,List.getElem?_drop,Nat.add_comm]
 rw[e];by_cases c:n+1<f.length
 ·rw[gW (by rw[di];exact c),List.getElem_mapIdx,gW c];congr 1
 ·rw[gD (by rw[di];lia),gD (by lia),bd]
open Pl in
theorem qC (T:Top K mg cFE cNN cBA cBL cBP cBT cHP cNW cNP cNO cK cR):Ok P w K mg base 6 "seen_by_slope" ["kind","f"] (HJ K (Gr cR) (λas=>∃(p:Int) (L:List (Pl p×Nat)) (g:Nat->Nat),as=[.ob 0 p,.ints (ls (Pr L g))]/\iG p/\o6 L/\(ls (Pr L g)).length<=100) λas=>match as with
  |[.ob 0 p,.ints f]=>uR p f
  |_=>.non):=by
 refine HQ T.qX gM (λas ⟨a,b,c,h,_⟩=>by rw[h];rfl) (λf cdv A outer s H E hr=>⟨_,(gq (gU (i:=2) gM.nd rfl (Or.inl rfl) (jt (xf (uP T) hr (gm (xv 0) (gm (xl 1) (gm (jt (xf (Gz T) hr (gm (xv 0) (gm (xl 1) gF)))) gF))))))
 (gq (gU (i:=3) gM.nd rfl (Or.inl rfl) (xl_of (jL (xc (mQ T) hr (gm (xv 0) (gm (xl 1) (gm (xl 2) gF)))) gw (λ_ _=>rfl))))
 (gq (tD (i:=4) gM.nd rfl (Or.inl rfl) (yK gF))
 (gq (gP (i:=5) gM.nd rfl (Or.inl rfl) gw)
 (gq (j9 aQ (zY (jT 3 T.jW) gw)
 (gq (gU (i:=6) gM.nd rfl (Or.inl rfl) (jt (xf (uP T) hr (gm (xv 0) (gm (xl 3) (gm (xl 2) gF))))))
 (gq (gU (i:=7) gM.nd rfl (Or.inl rfl) (xl_of (jL (xc (mQ T) hr (gm (xv 0) (gm (xl 3) (gm (xl 6) gF)))) gw (λ_ _=>rfl))))
 (GD (jq (zY (jT 7 T.jW) gw)
 (gG (rY 4 (rW (gm (xl 7) (gm (xn 5) gF)))))
 iT)
 (gq (gU (i:=2) gM.nd rfl (Or.inl rfl) (xl_of (jL (xc (mQ T) hr (gm (xv 0) (gm (xl 2) (gm (xl 6) gF)))) gw (λ_ _=>rfl))))
 (gq (gU (i:=3) gM.nd rfl (Or.inl rfl) (xl 6))
 (gG (BJ (i:=5) gM.nd rfl (Or.inl rfl) gw wX))))))))
 (jo 4 (gG (iu (rW (gm (xv 4) (gm (xl 2) gF))))))))))),λas hp=>?_⟩)
 obtain⟨p,L,g,rfl,hp,F,hl⟩:=hp;have p2:2<=p:=hp.1;have hinv:=λx hx=>jB hp (x:=x) hx;have st:=tE hp hinv F g;have sg:=vq hp hinv F g;have fin:=λe=>Ir (e:=e) (g:=g) hp F;have far:=λe=>Fd (e:=e) p2 F g;have mo:=λh:Nat->Nat=>F.pr p2 h;have go:=Ka (p:=p) L g;have gdE:=λe=>Hu F.ap g e;have ly:=λe=>Kc (p:=p) L g e;have dp:=λe=>Ky (p:=p) L g e;have lenD:∀e,(ls (Pr L (mX p g e))).length<=(ls (Pr L g)).length/\(ls (Pr L (lD p g e))).length<=(ls (Pr L g)).length:=by
  have le:∀h:Nat->Nat,(∀q∈L,h q.2<=g q.2)->(ls (Pr L h)).length<=(ls (Pr L g)).length:=λh hh=>by have e:=tG (L:=L) (g:=g) (h:=h) hh;have:=Mo.len p2 (mo λm=>g m-h m) (mo h);rw[<- e]at this;have:=(mo λm=>g m-h m).pos;lia
  refine λe=>⟨le _ λq _=>?_,le _ λq _=>?_⟩
  ·unfold mX;split<;>lia
  ·unfold lD;split
   ·lia
   ·rename_i c;split
    ·have:g q.2≠0:=λz=>c (by rw[z];exact aI p);lia
    ·lia
 have s0:=st 0;have s0:(gc p (ls (Pr L g)) (Tz p (dl (ls (Pr L g)))),qt p (ls (Pr L g)) (gc p (ls (Pr L g)) (Tz p (dl (ls (Pr L g))))))=(ls (Pr L (mX p g 1)),ls (Pr L (lD p g 1))):=s0;have e1:=(Prod.mk.inj s0).1;clear s0;generalize hf:ls (Pr L g)=f at *
 have sl:=aG (uU ((((f.mapIdx λk n=>(k:Int)*n).drop 1).map (pl p)))) (show _<=f.length by rw[aa,dE,di];lia);refine⟨⟨⟨rfl,rfl,⟨⟨rfl,rfl,tT⟩,p,f,rfl,by lia⟩,tT⟩,p,f,ik (((f.mapIdx λk n=>(k:Int)*n).drop 1).map (pl p)),rfl,hp,by lia,by lia⟩,λd ed=>?_⟩;have ed:d=ls (Pr L (mX p g 1)):=by have ed:d=gc p f (ik (((f.mapIdx λk n=>(k:Int)*n).drop 1).map (pl p))):=ed;rw[ed,G6,e1]
 have l1:=lenD 1;have dvq:∀{x u y:Pl p},x=u*y->Mo u->Mo y->sr (sH p (Tz p (ls x)) (Tz p (ls y))) 0/\Af (sH p (Tz p (ls x)) (Tz p (ls y))) 0=.ints (ls u):=λe mu my=>by rw[K5 hp e mu my];exact⟨⟨by show(-2:Int)<=0;decide,by show(0:Int)<2;decide⟩,rfl⟩
 have q0:=dvq go (mo _) (mo _);rw[hf,<- ed]at q0;refine⟨⟨⟨⟨⟨rfl,rfl,rfl,tT⟩,p,f,d,rfl,by rw[ed];exact Gm hp (mo _) (by lia),by lia⟩,tT,q0.1⟩,?_⟩,λy ey=>?_⟩
 ·show Af (sH p (Tz p f) (Tz p d)) 0=.ints (HN (Af (sH p (Tz p f) (Tz p d)) 0));rw[q0.2];rfl
 have ey:y=ls (Pr L (lD p g 1)):=by have ey:y=HN (Af (sH p (Tz p f) (Tz p d)) 0):=ey;rw[q0.2]at ey;exact ey
 refine⟨tT,λl0 el0=>⟨tT,λo0 eo0=>?_⟩⟩;have el0:l0=[]:=el0;have eo0:o0=1:=eo0;refine iR (Z':=[.fr (.ob 0 p),.fr (.ints f),.fr (.ints d),.fr (.ints y),.ow (.lst l0),.fr (.int o0),.un,.un]) rfl ?_;refine⟨λZ=>∃(e:Nat) (v6 v7:Sl),Z=[.fr (.ob 0 p),.fr (.ints f),.fr (.ints (ls (Pr L (mX p g (e+1))))),.fr (.ints (ls (Pr L (lD p g (e+1))))),.ow (.lst (prs p f e)),.fr (.int ((e:Int)+1)),v6,v7]/\e<=f.length,λZ=>((f.length:Int)+1-xR Z 5).toNat,⟨0,.un,.un,by rw[ed,ey,el0,eo0];rfl,be _⟩,?_⟩;rintro Z ⟨e,v6,v7,rfl,he⟩;have le1:=lenD (e+1);have le2:=lenD (e+1+1);refine⟨⟨.inl rfl,tT⟩,λk=>?_,λk=>?_⟩
 ·have k:((ls (Pr L (lD p g (e+1)))).length:Int) > 1:=k;have lt:e+1<f.length:=cD λz=>by have:=far (e+1) z;lia
  refine⟨⟨⟨rfl,rfl,rfl,tT⟩,p,ls (Pr L (lD p g (e+1))),ls (Pr L (mX p g (e+1))),rfl,hp,by lia,by lia⟩,λnl enl=>?_⟩;have enl:nl=ls (Pr L (lD p g (e+1+1))):=by have enl:nl=gc p (ls (Pr L (lD p g (e+1)))) (ls (Pr L (mX p g (e+1)))):=enl;rw[enl];exact Al (gdE (e+1)) (mo _)
  have q1:=dvq (ly (e+1)) (mo _) (mo _);have q2:=dvq (dp (e+1)) (mo _) (mo _);have ok:=Gm hp (mo (lD p g (e+1+1))) (by lia);rw[<- enl]at q1 q2 ok;refine⟨⟨⟨⟨⟨rfl,rfl,rfl,tT⟩,p,ls (Pr L (lD p g (e+1))),nl,rfl,ok,by lia⟩,tT,q1.1⟩,?_⟩,λgg eg=>?_⟩
  ·show Af (sH p (Tz p (ls (Pr L (lD p g (e+1))))) (Tz p nl)) 0=.ints (HN (Af (sH p (Tz p (ls (Pr L (lD p g (e+1))))) (Tz p nl)) 0));rw[q1.2];rfl
  have eg:gg=wO p f e:=by have eg:gg=HN (Af (sH p (Tz p (ls (Pr L (lD p g (e+1))))) (Tz p nl)) 0):=eg;rw[q1.2]at eg;rw[sg];exact eg
  refine iR (Z':=[.fr (.ob 0 p),.fr (.ints f),.fr (.ints (ls (Pr L (mX p g (e+1))))),.fr (.ints (ls (Pr L (lD p g (e+1))))),.ow (.lst (prs p f e)),.fr (.int ((e:Int)+1)),.fr (.ints nl),.fr (.ints gg)]) rfl ?_;have pl1:(prs p f e).length<sizeLine:=by refine small1000 ?_;unfold prs;have:=eC (λe=>if 1<(wO p f e).length then some (PV.tup [.ints (wO p f e),.int ((e:Int)+1)]) else none) (List.range e);rw[aE]at this;lia
  refine⟨λZ=>Z=[.fr (.ob 0 p),.fr (.ints f),.fr (.ints (ls (Pr L (mX p g (e+1))))),.fr (.ints (ls (Pr L (lD p g (e+1))))),.ow (.lst (prs p f (e+1))),.fr (.int ((e:Int)+1)),.fr (.ints nl),.fr (.ints gg)],⟨⟨.inl rfl,tT⟩,λz=>?_,λz=>?_⟩,?_⟩
  ·have z:(gg.length:Int) > 1:=z;refine⟨rfl,⟨rfl,rfl,tT⟩,pl1,?_⟩;rw[t6,ae (by rw[<- eg];lia),<- eg];rfl
  ·have z:¬(gg.length:Int) > 1:=z;rw[t6,af (by rw[<- eg];lia),aZ]
  rintro Z rfl;refine⟨⟨⟨⟨⟨rfl,rfl,rfl,tT⟩,p,ls (Pr L (mX p g (e+1))),nl,rfl,ok,by lia⟩,tT,q2.1⟩,?_⟩,λd2 ed2=>?_⟩
  ·show Af (sH p (Tz p (ls (Pr L (mX p g (e+1))))) (Tz p nl)) 0=.ints (HN (Af (sH p (Tz p (ls (Pr L (mX p g (e+1))))) (Tz p nl)) 0));rw[q2.2];rfl
  have ed2:d2=ls (Pr L (mX p g (e+1+1))):=by have ed2:d2=HN (Af (sH p (Tz p (ls (Pr L (mX p g (e+1))))) (Tz p nl)) 0):=ed2;rw[q2.2]at ed2;exact ed2
  refine⟨rfl,λy2 ey2=>?_⟩;have ey2:y2=nl:=ey2;refine iR (Z':=[.fr (.ob 0 p),.fr (.ints f),.fr (.ints d2),.fr (.ints y2),.ow (.lst (prs p f (e+1))),.fr (.int ((e:Int)+1)),.fr (.ints nl),.fr (.ints gg)]) rfl ?_;refine⟨rfl,tT,tT,λo eo=>?_⟩;have eo:o=(e:Int)+1+1:=eo;refine⟨⟨e+1,.fr (.ints nl),.fr (.ints gg),?_,by lia⟩,?_⟩
  ·rw[eo,ed2,ey2,enl];rfl
  ·show((f.length:Int)+1-o).toNat<((f.length:Int)+1-((e:Int)+1)).toNat;lia
 ·have k:¬((ls (Pr L (lD p g (e+1)))).length:Int) > 1:=k;refine⟨⟨rfl,rfl,tT⟩,?_⟩;show PV.tup [.lst (prs p f e),.ints (ls (Pr L (mX p g (e+1))))]=uR p f;rw[fin e (by lia) he]
theorem Fj {α β:Type}{g:α->Option β}{f:α->β}:∀{l:List α},(∀a∈l,g a=some (f a))->l.filterMap g=l.map f
 |[],_=>rfl
 |a::l,h=>by rw[aJ,h a ag,aA,Fj λb hb=>h b (ac _ hb)]
theorem BP (f:Li)(k:Nat)(hk:0<k):lM f none none (some (k:Int))=Pl.yN k f:=by
 have k1:(k:Int) > 0:=by lia
 have eb:sliceBounds none none (some (k:Int)) f.length=(0,(f.length:Int),(k:Int)):=by show((if (k:Int) > 0 then(0:Int) else(f.length:Int)-1),(if (k:Int) > 0 then(f.length:Int) else -1),(k:Int))=_;rw[ae k1,ae k1]
 unfold lM;rw[eb];have ec:sliceRange 0 (f.length:Int) (k:Int)=(List.range ((f.length+k-1) / k)).map λ(j:Nat)=>((0:Int)+(k:Int)*(j:Int)).toNat:=by
  show(List.range (if (k:Int) > 0 then(if (0:Int)<(f.length:Int) then((f.length:Int)-0+(k:Int)-1) / (k:Int) else 0) else(if (0:Int) > (f.length:Int) then(0-(f.length:Int)-(k:Int)-1) / (-(k:Int)) else 0)).toNat).map _=_;rw[ae k1];congr 1;congr 1;by_cases c:(0:Int)<(f.length:Int)
  ·rw[ae c];have e2:(f.length:Int)-0+(k:Int)-1=((f.length+k-1:Nat):Int):=by lia
   rw[e2,<- Int.natCast_ediv,cS]
  ·rw[af c];have z:f.length=0:=by lia
   rw[z,d6,Nat.div_eq_of_lt (by lia)];rfl
 rw[ec,List.filterMap_map];unfold Pl.yN;refine Fj λj hj=>?_;rw[cE]at hj;have lt:k*j<f.length:=by have h1:(j+1)*k<=f.length+k-1:=aG (fE k hj) (Nat.div_mul_le_self _ _);rw[fm,bN]at h1;lia
 show f[((0:Int)+(k:Int)*(j:Int)).toNat]?=some (f.getD (k*j) 0);have e3:((0:Int)+(k:Int)*(j:Int)).toNat=k*j:=by rw[c8,<- dj,cS]
 rw[e3,aB lt,gW lt]
open Pl in
def JZ (p:Int)(f:List Int):PV:=.lst (oJ (jD p (o5 p (Tz p f)) 40))
open Pl in
theorem Ih (hp:iG p){L:List (Pl p×Nat)}(F:o6 L){k:Nat}(h:(lf p (ls (Pr L id)) k).length<=1):(lf p (ls (Pr L id)) (k+1)).length<=1:=by have hinv:=λx hx=>jB hp (x:=x) hx;rw[ou hp hinv F]at h ⊢;refine c6 λc=>?_;obtain⟨q,hq,hz⟩:=(jE hp.1 F.mo F.dg).mp c;have:=mt (jE hp.1 (g:=gk p k) F.mo F.dg).mpr (by lia);refine this ⟨q,hq,λz=>hz ?_⟩;show(if p ∣ (gk p k q.2:Int) then gk p k q.2 / p.toNat else 0)=0;rw[z,f7,ite_self]
open Pl in
theorem xM (hp:iG p){L:List (Pl p×Nat)}(F:o6 L){k:Nat}(h:(lf p (ls (Pr L id)) k).length<=1):∀n,(lf p (ls (Pr L id)) (k+n)).length<=1/\jD p (ls (Pr L id)) (k+n)=jD p (ls (Pr L id)) k
 |0=>⟨h,rfl⟩
 |n+1=>by obtain⟨h1,h2⟩:=xM hp F h n;refine⟨Ih hp F h1,?_⟩;show jD p (ls (Pr L id)) (k+n)++Hj p (ls (Pr L id)) (k+n)=_;rw[h2,HS hp F h1,aZ]
open Pl in
theorem Dw (hp:iG p){L:List (Pl p×Nat)}(F:o6 L)(k:Nat):(lf p (ls (Pr L id)) k).length<=(ls (Pr L id)).length:=by
 have hinv:=λx hx=>jB hp (x:=x) hx;have p2:=hp.1;rw[ou hp hinv F];have e:=tG (L:=L) (g:=id) (h:=gk p k) λq _=>by
  rw[tL p2];split
  ·exact Nat.div_le_self _ _
  ·exact be _
 have l:=Mo.len p2 (F.pr p2 λm=>id m-gk p k m) (F.pr p2 (gk p k));rw[<- e]at l;have:=(F.pr p2 λm=>id m-gk p k m).pos;lia
open Pl in
theorem Bw (p:Int)(f:Li)(N:Nat):(prs p f N).length<=N:=by unfold prs;have:=eC (λe=>if 1<(wO p f e).length then some (PV.tup [.ints (wO p f e),.int ((e:Int)+1)]) else none) (List.range N);rw[aE]at this;exact this
open Pl in
theorem zQ (hp:iG p){L:List (Pl p×Nat)}(F:o6 L)(hl:(ls (Pr L id)).length<=31):∀K,(jD p (ls (Pr L id)) K).length<=K*31
 |0=>aj _
 |K+1=>by show(jD p (ls (Pr L id)) K++Hj p (ls (Pr L id)) K).length<=_;have h1:=zQ hp F hl K;have h2:=Bw p (lf p (ls (Pr L id)) K) (lf p (ls (Pr L id)) K).length;have h3:=Dw hp F K;rw[aN];unfold Hj;rw[aa];lia
open Pl in
theorem yx (hp:iG p){L:List (Pl p×Nat)}(F:o6 L)(nz:∀q∈L,q.2≠0)(hl:(ls (Pr L id)).length<=31){K:Nat}(hK:(lf p (ls (Pr L id)) K).length<=1):z9 (jD p (ls (Pr L id)) K)/\oJ (jD p (ls (Pr L id)) K)=GR L:=by
 obtain⟨h1,h2⟩:=Ml hp F nz hl hK;have nd:=yO hp F K;refine⟨⟨?_,λq hq=>?_,nd⟩,wW h1 (h2.imp λh=>f6 h) nd⟩
 ·rw[<- h1.length_eq];unfold GR;rw[aa];have:=cM (λc=>decide (1<(ls (Pr L (ind c))).length)) (List.range 31);rw[aE]at this;lia
 ·obtain⟨k,e,_,_,_,_,rfl⟩:=(rF hp F).mp hq;exact⟨_,rfl⟩
theorem Fy {p:Int}(p2:2<=p)(p3:p<=9973){k:Nat}(hk:k<=40):(p^k).natAbs<2^600:=by rw[Int.natAbs_pow];have h1:p.natAbs^k<=(2^14)^k:=fR (by lia) k;refine bc h1 ?_;rw[<- Nat.pow_mul];exact bL (by decide) (by lia)
open Pl in
theorem oE (T:Top K mg cFE cNN cBA cBL cBP cBT cHP cNW cNP cNO cK cR):Ok P w K mg base 8 "free_parts" ["kind","f"] (HJ K (Gr cR) (λas=>∃p f,as=[.ob 0 p,.ints f]/\iG p/\f.length<=100/\(o5 p (Tz p f)).length<=31/\Tz p f≠[]) λas=>match as with
  |[.ob 0 p,.ints f]=>JZ p f
  |_=>.non):=by
 refine QQ T.pA gR T.vD (λas ⟨a,b,h,_⟩=>by rw[h];rfl) (λf cdv A outer s H E hr hl=>⟨_,(gq (gU (i:=2) gR.nd rfl (Or.inl rfl) (jt (xf (jG T) hr (gm (xv 0) (gm (jt (xf (jf T) hr (gm (xv 0) (gm (xl 1) gF)))) gF)))))
 (gq (jq (lO (pW 2))
 (gG uL)
 iT)
 (gq (tD (i:=3) gR.nd rfl (Or.inl rfl) (yK gF))
 (gq (gP (i:=4) gR.nd rfl (Or.inl rfl) gw)
 (gq (j9 aQ (zY (jT 2 T.jW) gw)
 (gq (nH (i:=5) gR.nd rfl (Or.inl rfl) (xc (qC T) hr (gm (xv 0) (gm (xl 2) gF))))
 (gq (Dq (k:=6) (j:=7) aQ rfl (Km (jL (xv 5) gw (λ_ _=>rfl))) (pg_tup rfl (pgs_cons (pg_name (i:=6) gR.nd rfl (Or.inl rfl)) (pgs_cons (pg_name (i:=7) gR.nd rfl (Or.inl rfl)) pgs_nil)))
 (gG (rY 3 (rW (gm (xl 6) (gm (jF (xn 7) (xn 4)) gF))))))
 (gq (gU (i:=2) gR.nd rfl (Or.inl rfl) (jt (CP (xl_of (jL (xv 5) gw (λ_ _=>rfl))) mJ mJ (nZ (Gq (Rb T) (xv 0))) (λ_ _=>.inl rfl))))
 (gG (BJ (i:=4) gR.nd rfl (Or.inl rfl) (Gq (Rb T) (xv 0)) FN))))))
 (jo 3 (gG (iu (Qq (Fi hl hr T.ye (xv 3))))))))))),λas hp=>?_⟩)
 obtain⟨p,f,rfl,hp,fl,nl,ne⟩:=hp;have p2:2<=p:=hp.1;have p3:p<=9973:=hp.2.1;have hinv:=λx hx=>jB hp (x:=x) hx;have tzl:=oX p f;have G:=wk hp (g8 p f) (jz p f);have mN:Mo (mk p (o5 p (Tz p f))):=by
  show gB (ls (mk p (o5 p (Tz p f))))=1;rw[oM ⟨G.form,G.red⟩];rcases G.one with z|z
  ·exfalso;obtain⟨Q,hQ⟩:=G.d1;rw[z]at hQ;refine ne (jA (g8 p f) kI λn=>n8 (jz p f n) (by show pl p 0=0;exact jO p) ?_);have:=hQ n;rw[gK,jg,aW]at this;exact this
  ·exact z
 have eN:ls (mk p (o5 p (Tz p f)))=o5 p (Tz p f):=oM ⟨G.form,G.red⟩;obtain⟨L,F,nz,eL⟩:=LC hp mN (by rw[eN];lia);rw[eL]at eN;have mo:=λh:Nat->Nat=>F.pr p2 h;have lfe:=ou hp hinv F;have goal:JZ p f=.lst (oJ (jD p (ls (Pr L id)) 40)):=by unfold JZ;rw[eN]
 rw[<- eN]at nl;have llen:=Dw hp F;have alen:=zQ hp F nl;have sh:=λk=>yw (k:=k) hp F;have stop:=λk=>xM (k:=k) hp F;have pok:=λK=>yx (K:=K) hp F nz nl;have bits:=λk=>Fy (k:=k) p2 p3;have nx1:∀k,lf p (ls (Pr L id)) (k+1)=yN p.toNat (vB p (lf p (ls (Pr L id)) k) (lf p (ls (Pr L id)) k).length).1:=λk=>rfl;have ax1:∀k,jD p (ls (Pr L id)) (k+1)=jD p (ls (Pr L id)) k++(prs p (lf p (ls (Pr L id)) k) (lf p (ls (Pr L id)) k).length).map (scP (p^k)):=λk=>rfl;have pres:∀k,∃(p':Int) (L':List (Pl p'×Nat)) (g':Nat->Nat),[PV.ob 0 p,.ints (lf p (ls (Pr L id)) k)]=[.ob 0 p',.ints (ls (Pr L' g'))]/\iG p'/\o6 L'/\(ls (Pr L' g')).length<=100:=λk=>⟨p,L,gk p k,by rw[lfe],hp,F,by rw[<- lfe];have:=llen k;lia⟩;refine⟨⟨⟨rfl,⟨⟨rfl,rfl,tT⟩,p,f,rfl,by lia⟩,tT⟩,p,Tz p f,rfl,hp,by lia,g8 p f,jz p f⟩,λx ex=>?_⟩;have ex:x=lf p (ls (Pr L id)) 0:=by have ex:x=o5 p (Tz p f):=ex;rw[ex,<- eN];rfl
 refine⟨.inl rfl,λq=>?_,λ_=>?_⟩
 ·have q:¬¬x=[]:=q;rw[ex]at q;exact absurd (mo id).ne q
 refine⟨tT,λl0 el0=>⟨tT,λc0 ec0=>?_⟩⟩;have el0:l0=jD p (ls (Pr L id)) 0:=el0;have ec0:c0=p^0:=by rw[Int.pow_zero];exact ec0
 refine iR (Z':=[.fr (.ob 0 p),.fr (.ints f),.fr (.ints x),.ow (.lst l0),.fr (.int c0),.un,.un,.un]) rfl ?_;clear mN eN eL G;generalize ls (Pr L id)=x0 at *
 refine⟨λZ=>∃(k:Nat) (v5 v6 v7:Sl),Z=[.fr (.ob 0 p),.fr (.ints f),.fr (.ints (lf p x0 k)),.ow (.lst (jD p x0 k)),.fr (.int (p^k)),v5,v6,v7]/\k<=31,λZ=>(p^32-xR Z 4).toNat,⟨0,.un,.un,.un,by rw[ex,el0,ec0],by lia⟩,?_⟩;rintro Z ⟨k,v5,v6,v7,rfl,hk⟩;have ll:=llen k;refine⟨⟨.inl rfl,tT⟩,λq=>?_,λq=>?_⟩
 ·have q:((lf p x0 k).length:Int) > 1:=q;have hk1:k+1<=31:=by have:=sh k (by lia);lia
  refine⟨⟨⟨rfl,rfl,tT⟩,pres k⟩,λfo efo=>?_⟩;have efo:fo=uR p (lf p x0 k):=efo;have pl2:=Bw p (lf p x0 k) (lf p x0 k).length;have pm:∀n∈prs p (lf p x0 k) (lf p x0 k).length,∃(G:List Int) (e:Nat),e<(lf p x0 k).length/\n=.tup [.ints G,.int ((e:Int)+1)]:=λn hn=>by
   unfold prs at hn;obtain⟨e,he,h⟩:=bD.mp hn;split at h
   ·cases h;exact⟨_,e,cE.mp he,rfl⟩
   ·cases h
  have nx:=nx1 k;have ax:=ax1 k;unfold uR at efo;generalize prs p (lf p x0 k) (lf p x0 k).length=pr at *
  generalize (vB p (lf p x0 k) (lf p x0 k).length).1=dp at *
  subst efo;refine iR (Z':=[.fr (.ob 0 p),.fr (.ints f),.fr (.ints (lf p x0 k)),.ow (.lst (jD p x0 k)),.fr (.int (p^k)),.fr (.tup [.lst pr,.ints dp]),v6,v7]) rfl ?_;have it0:sr (.tup [.lst pr,.ints dp]) 0:=⟨by show(-2:Int)<=0;decide,by show(0:Int)<2;decide⟩;have it1:sr (.tup [.lst pr,.ints dp]) 1:=⟨by show(-2:Int)<=1;decide,by show(1:Int)<2;decide⟩;have al:=alen k;refine⟨⟨⟨⟨rfl,tT,it0⟩,rfl⟩,λn hn=>?_⟩,λi Z=>∃v6 v7,Z=[.fr (.ob 0 p),.fr (.ints f),.fr (.ints (lf p x0 k)),.ow (.lst (jD p x0 k++(pr.take i).map (scP (p^k)))),.fr (.int (p^k)),.fr (.tup [.lst pr,.ints dp]),v6,v7],⟨v6,v7,by rw[List.take_zero,d5,aZ]⟩,?_,?_⟩
  ·have hn:n∈pr:=hn;obtain⟨G,e,_,rfl⟩:=pm n hn;rfl
  ·rintro i n Z hn ⟨v6,v7,rfl⟩;have hn:pr[i]?=some n:=hn;have hi:i<pr.length:=(aD.mp hn).1;obtain⟨G,e,he,rfl⟩:=pm n (bK hn);refine⟨rfl,⟨rfl,⟨rfl,rfl,?_⟩,tT⟩,?_,⟨.fr (.ints G),.fr (.int ((e:Int)+1)),?_⟩⟩
   ·exact qj (n:=600) (m:=600) (ay (show((e:Int)+1).natAbs<2^6 by show _<64;lia) (fF (by decide) (by decide))) (bits k (by lia))
   ·show(jD p x0 k++(pr.take i).map (scP (p^k))).length<sizeLine;refine small1000 ?_;rw[aN,aa,bS];lia
   ·rw[rC hn,bF,<- List.append_assoc];rfl
  rintro Z ⟨v6,v7,rfl⟩;have e3:jD p x0 k++(pr.take pr.length).map (scP (p^k))=jD p x0 (k+1):=by rw[cC,ax]
  refine iR (Z':=[.fr (.ob 0 p),.fr (.ints f),.fr (.ints (lf p x0 k)),.ow (.lst (jD p x0 (k+1))),.fr (.int (p^k)),.fr (.tup [.lst pr,.ints dp]),v6,v7]) (by rw[<- e3];rfl) ?_;refine⟨⟨⟨⟨rfl,tT,it1⟩,rfl⟩,tT,tT,⟨rfl,rfl⟩,?_⟩,λx1 ex1=>?_⟩
  ·show some p≠some 0;intro z;have:=aw z;lia
  have ex1:x1=lf p x0 (k+1):=by
   have ex1:x1=lM dp none none (some p):=ex1;have ep:p=((p.toNat:Nat):Int):=(aY (by lia)).symm;rw[ex1,nx]
   conv=>lhs;rw[ep]
   exact BP dp p.toNat (by lia)
  refine iR (Z':=[.fr (.ob 0 p),.fr (.ints f),.fr (.ints x1),.ow (.lst (jD p x0 (k+1))),.fr (.int (p^k)),.fr (.tup [.lst pr,.ints dp]),v6,v7]) rfl ?_;have pb:=bits 1 (by decide);rw[f9]at pb;refine⟨rfl,⟨rfl,rfl⟩,qj (n:=600) (m:=600) (bits k (by lia)) pb,λo eo=>?_⟩;have eo:o=p^(k+1):=by rw[Int.pow_succ];exact eo
  refine⟨⟨k+1,.fr (.tup [.lst pr,.ints dp]),v6,v7,by rw[eo,ex1];rfl,hk1⟩,?_⟩;show(p^32-o).toNat<(p^32-p^k).toNat;have pp:0<p^k:=Int.pow_pos (by lia);have h1:p^k*2<=o:=by rw[eo,Int.pow_succ];exact aR p2 (f6 pp)
  have h2:o<=p^32:=by rw[eo];have:((p.toNat^(k+1):Nat):Int)<=((p.toNat^32:Nat):Int):=Int.ofNat_le.mpr (fF (by lia) (by lia));rw[vJ p2,vJ p2]at this;exact this
  generalize p^32=B at *
  generalize p^k=C at *
  lia
 ·have q:¬((lf p x0 k).length:Int) > 1:=q;have h1:(lf p x0 k).length<=1:=by lia
  obtain⟨po,_⟩:=pok k h1;refine⟨⟨rfl,rfl,po⟩,?_⟩;show PV.lst (oJ (jD p x0 k))=JZ p f;rw[goal];have:=(stop k h1 (40-k)).2;rw[show k+(40-k)=40 by lia]at this;rw[this]
open Pl in
theorem Gj (hp:iG p)(fb:Fo p b)(hb:b≠[]):mk p b=con p (gB b)*mk p (o5 p b):=by
 have p2:2<=p:=hp.1;have g:=pF hp fb.form fb.red hb;have one:pl p 1=1:=by rw[jU (by lia)];exact bB (by decide) (by lia)
 have e0:qJ p b=pl p (1*tu (gB b) p):=af hb;obtain⟨h1,_⟩:=hov p2 g 1 (qJ p b) one (by rw[e0];rfl);have h2:p ∣ qJ p b*gB b-1:=by
  have:=kh p (qJ p b*gB b);rw[h1]at this;have e:qJ p b*gB b-1 = -(1-qJ p b*gB b):=by lia
  rw[e];exact bu.mpr this
 rw[oZ];refine jd.mpr λn=>?_;rw[iy];unfold o5;rw[iJ,kZ (λm=>qJ p b*m) (bd _)];have h3:=a9 (a:=p) (b:=gB b) (kh p (qJ p b*b.getD n 0));have h4:=br (c:=b.getD n 0) h2;have e:b.getD n 0-gB b*pl p (qJ p b*b.getD n 0) = -((qJ p b*gB b-1)*b.getD n 0) + -(gB b*(pl p (qJ p b*b.getD n 0)-qJ p b*b.getD n 0)):=by rw[fM,cx,bt,bV (qJ p b) (gB b),bH];lia
 rw[e];exact bJ (bu.mpr h4) (bu.mpr h3)
open Pl in
section
variable {p:Int}
open Pl
theorem xH (p2:2<=p)(r:Int):ls (mk p [-r,1])=[(-r) % p,1]:=by
 have e:mk p [-r,1]=mk p [(-r) % p,1]:=jd.mpr λn=>by
  match n with
  |0=>show p ∣ -r-(-r) % p;have e:=fw (-r) p;exact⟨(-r) / p,by lia⟩
  |1=>show p ∣ 1-1;exact aI p
  |n+2=>show p ∣ 0-0;exact aI p
 rw[e];refine oM ⟨λ_=>by show(1:Int)≠0;decide,λn=>?_⟩
 match n with
 |0=>show pl p ((-r) % p)=(-r) % p;rw[jU (by lia)];exact cr _ (c7 p)
 |1=>show pl p 1=1;exact LK p2
 |n+2=>exact jO p
theorem qP (p2:2<=p)(r:Int):Mo (mk p [-r,1]):=by show gB (ls (mk p [-r,1]))=1;rw[xH p2];rfl
theorem yS (p2:2<=p)(r:Int):Eb (mk p [-r,1]):=⟨qP p2 r,by rw[xH p2];exact cy 1,λa b ma mb e=>by
 have l:=Mo.len p2 ma mb;rw[<- e,xH p2]at l;have l:2+1=(ls a).length+(ls b).length:=l;have h1:=ma.pos;have h2:=mb.pos;by_cases h:(ls a).length<=1
 ·exact .inl (Mo.tO p2 ma h)
 ·exact .inr (Mo.tO p2 mb (by lia))⟩
theorem Ow {r t:Int}(h0:0<=r)(h1:r<p)(k0:0<=t)(k1:t<p)(ne:r≠t):mk p [-r,1]≠mk p [-t,1]:=λz=>by
 obtain⟨c,hc⟩:=jd.mp z 0;have hc:-r - -t=p*c:=hc;have c1:¬1<=c:=λy=>by have:=aR y (show 0<=p by lia);lia
 have c2:¬c <= -1:=λy=>by have:=aR y (show 0<=p by lia);lia
 have c0:c=0:=by lia
 rw[c0,bd]at hc;lia
def Dm (p:Int)(row:List Int)(r:Int):List Int:=(List.range row.length).map (λk=>((0::row).getD k 0-r*row.getD k 0) % p)++[gB row]
theorem vV (row:Li)(r:Int):(Dm p row r).length=row.length+1:=by unfold Dm;rw[aN,aa,aE];rfl
theorem rJ (row:Li)(r:Int)(n:Nat):(Dm p row r).getD n 0=if n<row.length then((0::row).getD n 0-r*row.getD n 0) % p else if n=row.length then gB row else 0:=by
 unfold Dm;rw[gQ,List.getElem?_append,aa,aE];by_cases h:n<row.length
 ·rw[ae h,ae h,au,List.getElem?_range h];rfl
 ·rw[af h,af h];by_cases e:n=row.length
  ·rw[ae e,e,Nat.sub_self];rfl
  ·rw[af e,cL (by rw[bp];lia)];rfl
theorem Hi (p2:2<=p){x:Pl p}(hx:ls x≠[])(r:Int):Dm p (ls x) r=ls (mk p [-r,1]*x):=by
 have fo:=iY x;have lp:=lP hx;have la:gB (ls x)=(ls x).getD ((ls x).length-1) 0:=rfl;have F:Fo p (Dm p (ls x) r):=by
  refine⟨λ_=>?_,λn=>?_⟩
  ·show(Dm p (ls x) r).getD ((Dm p (ls x) r).length-1) 0≠0;rw[vV,Nat.add_sub_cancel,rJ,af (bC _),ae rfl];exact fo.form hx
  ·rw[rJ];split
   ·rw[jU (by lia)];exact cr _ (c7 p)
   ·split
    ·rw[la];exact fo.red _
    ·exact jO p
 rw[<- oM F];congr 1;have e:mk p [-r,1]*x=mk p (gC [-r,1] (ls x)):=by rw[<- iM,iI]
 rw[e];refine jd.mpr λn=>?_;rw[gr,Nz,rJ];by_cases h:n<(ls x).length
 ·rw[ae h];have e1:(0::ls x).getD n 0=if n=0 then 0 else 1*(ls x).getD (n-1) 0:=by
   cases n with
   |zero=>rfl
   |succ n=>rw[af (by lia),bt];rfl
  rw[e1];generalize (if n=0 then(0:Int) else 1*(ls x).getD (n-1) 0)=a;have e2:-r*(ls x).getD n 0 = -(r*(ls x).getD n 0):=Int.neg_mul ..;rw[e2];generalize r*(ls x).getD n 0=b;have e:=fw (a-b) p;exact⟨-((a-b) / p),by rw[f8];lia⟩
 ·rw[af h,gD (xs:=ls x) (by lia),bd];by_cases e:n=(ls x).length
  ·rw[ae e,af (by lia),la,e,bt];exact⟨0,by rw[bd];lia⟩
  ·rw[af e,af (by lia),gD (by lia)];exact aI p
theorem G7 (p2:2<=p){x:Pl p}(hx:ls x≠[])(r:Int):(ls (mk p [-r,1]*x)).length=(ls x).length+1:=by rw[<- Hi p2 hx,vV]
end
section
open L3
def sS (r:Int):List (Int×Int)->List (Int×Int)
 |[]=>[(r,1)]
 |q::l=>if q.1=r then(r,q.2+1)::l else q::sS r l
theorem KC {q:Int×Int}{l:List (Int×Int)}{k v:Int}(h:¬q.1=k):uo (q::l) k v=q::uo l k v:=by
 unfold uo;rw[dN,aH h,Bool.false_or];split
 ·rw[aA,af h]
 ·rfl
theorem Bb {q:Int×Int}{l:List (Int×Int)}{k:Int}(h:¬q.1=k):iw (q::l) k=iw l k:=by simp[iw,bI,h]
theorem Bg {q:Int×Int}{l:List (Int×Int)}{k:Int}(h:q.1=k):iw (q::l) k=some q.2:=by simp[iw,bI,h]
theorem Aq (r:Int):∀{l:List (Int×Int)},(l.map (·.1)).Nodup->uo l r ((iw l r).getD 0+1)=sS r l
 |[],_=>rfl
 |q::l,h=>by
  rw[aA,bE]at h;by_cases e:q.1=r
  ·rw[Bg e];show uo (q::l) r (q.2+1)=if q.1=r then(r,q.2+1)::l else q::sS r l;rw[ae e];unfold uo;rw[ae (by rw[dN,aM e];rfl),aA,ae e];congr 1;refine(fO (g:=id) λz hz=>af λy=>h.1 ?_).trans (List.map_id _);rw[e,<- y];exact fS hz
  ·rw[Bb e,KC e];show _=if q.1=r then(r,q.2+1)::l else q::sS r l;rw[af e,Aq r h.2]
structure DC (p:Int)(n:Nat)(l:List (Int×Int)):Prop where
 nd:(l.map (·.1)).Nodup
 rg:∀q∈l,0<=q.1/\q.1<p/\1<=q.2
 sm:(l.map λq=>q.2.toNat).sum=n
theorem DC.nil (p:Int):DC p 0 []:=⟨List.nodup_nil,λ_ h=>absurd h eT,rfl⟩
theorem DC.tail {p:Int}{n:Nat}{q:Int×Int}{l:List (Int×Int)}(h:DC p n (q::l)):DC p (l.map λq=>q.2.toNat).sum l/\q.2.toNat+(l.map λq=>q.2.toNat).sum=n/\1<=q.2/\q.1∉l.map (·.1):=by have nd:=h.nd;rw[aA,bE]at nd;have sm:=h.sm;rw[aA,eP]at sm;exact⟨⟨nd.2,λz hz=>h.rg z (ac _ hz),rfl⟩,sm,(h.rg q ag).2.2,nd.1⟩
theorem DC.QW {p r:Int}(r0:0<=r)(r1:r<p):∀{l:List (Int×Int)} {n:Nat},DC p n l->DC p (n+1) (sS r l)/\∀x,x∈(sS r l).map (·.1)->x=r\/x∈l.map (·.1)
 |[],n,h=>by
  have:0=n:=h.sm;subst this;refine⟨⟨by show[r].Nodup;simp,λq hq=>?_,rfl⟩,λx hx=>.inl ?_⟩
  ·rw[bw.mp hq];exact⟨r0,r1,Int.le_refl 1⟩
  ·exact bw.mp hx
 |q::l,n,h=>by
  obtain⟨ht,sm,q1,qn⟩:=h.tail;show DC p (n+1) (if q.1=r then(r,q.2+1)::l else q::sS r l)/\∀x,x∈(if q.1=r then(r,q.2+1)::l else q::sS r l).map (·.1)->_;by_cases e:q.1=r
  ·rw[ae e];refine⟨⟨?_,λz hz=>?_,?_⟩,λx hx=>?_⟩
   ·rw[aA,bE];exact⟨by rw[<- e];exact qn,ht.nd⟩
   ·rcases az.mp hz with rfl|hz
    ·exact⟨r0,r1,by show 1<=q.2+1;lia⟩
    ·exact ht.rg z hz
   ·rw[aA,eP];show(q.2+1).toNat+_=_;lia
   ·rw[aA]at hx ⊢;rcases az.mp hx with hx|hx
    ·exact .inl hx
    ·exact .inr (ac _ hx)
  ·rw[af e];obtain⟨hi,hm⟩:=DC.QW r0 r1 ht;refine⟨⟨?_,λz hz=>?_,?_⟩,λx hx=>?_⟩
   ·rw[aA,bE];refine⟨λz=>?_,hi.nd⟩;rcases hm _ z with z|z
    ·exact e z
    ·exact qn z
   ·rcases az.mp hz with rfl|hz
    ·exact h.rg z ag
    ·exact hi.rg z hz
   ·rw[aA,eP,hi.sm];lia
   ·rw[aA]at hx ⊢;rcases az.mp hx with hx|hx
    ·exact .inr (az.mpr (.inl hx))
    ·rcases hm _ hx with hx|hx
     ·exact .inl hx
     ·exact .inr (ac _ hx)
theorem DC.len {p:Int}:∀{l:List (Int×Int)} {n:Nat},DC p n l->l.length<=n
 |[],_,_=>be _
 |q::l,n,h=>by obtain⟨ht,sm,q1,_⟩:=h.tail;have:=ht.len;rw[bh];lia
theorem DC.le {p:Int}:∀{l:List (Int×Int)} {n:Nat},DC p n l->∀q∈l,q.2.toNat<=n
 |[],_,_,_,hq=>absurd hq eT
 |q::l,n,h,z,hz=>by
  obtain⟨ht,sm,q1,_⟩:=h.tail;rcases az.mp hz with rfl|hz
  ·lia
  ·have:=ht.le z hz;lia
theorem pI:∀{l:List (Int×Int)},(l.map (·.1)).Nodup->∀q∈l,iw l q.1=some q.2
 |[],_,_,hq=>absurd hq eT
 |z::l,h,q,hq=>by
  rw[aA,bE]at h;rcases az.mp hq with rfl|hq
  ·exact Bg rfl
  ·rw[Bb λe=>h.1 (by rw[e];exact fS hq)];exact pI h.2 q hq
def qZ (rs:List Int):List (Int×Int):=rs.foldl (λl r=>sS r l) []
theorem Dg (rs:Li)(r:Int):qZ (rs++[r])=sS r (qZ rs):=by unfold qZ;rw[List.foldl_append];rfl
theorem wI {p:Int}:∀(rs:Li) {l:List (Int×Int)} {n:Nat},(∀r∈rs,0<=r/\r<p)->DC p n l->DC p (n+rs.length) (rs.foldl (λl r=>sS r l) l)
 |[],_,_,_,h=>h
 |r::rs,l,n,hr,h=>by have hh:=hr r ag;have:=wI rs (λx hx=>hr x (ac _ hx)) (DC.QW hh.1 hh.2 h).1;rw[bh,show n+(rs.length+1)=n+1+rs.length by lia];exact this
end
section
variable {p:Int}
open Pl L3
def jw (p:Int)(l:List (Int×Int)):List (Pl p×Nat):=l.map λq=>(mk p [-q.1,1],q.2.toNat)
theorem JB (hp:iG p){n:Nat}{l:List (Int×Int)}(h:DC p n l):o6 (jw p l)/\∀q∈jw p l,q.2≠0/\q.2<=n:=by
 have p2:2<=p:=hp.1;have two:∀r:Int,(ls (mk p [-r,1])).length=2:=λr=>by rw[xH p2];rfl
 have mem:∀q∈jw p l,∃z∈l,q=(mk p [-z.1,1],z.2.toNat):=λq hq=>by obtain⟨z,hz,rfl⟩:=bW.mp hq;exact⟨z,hz,rfl⟩
 refine⟨⟨?_,λq hq=>?_,λq hq=>?_,λq hq=>?_⟩,λq hq=>?_⟩
 ·refine cw.mpr ((cw.mp h.nd).imp_of_mem λ{a b} ha hb ne=>?_);obtain⟨a0,a1,_⟩:=h.rg a ha;obtain⟨b0,b1,_⟩:=h.rg b hb;exact(yS p2 a.1).cop hp (yS p2 b.1) (by rw[two];lia) (Ow a0 a1 b0 b1 ne)
 ·obtain⟨z,_,rfl⟩:=mem q hq;exact zZ hp (yS p2 z.1) (by rw[two];lia)
 ·obtain⟨z,_,rfl⟩:=mem q hq;exact qP p2 z.1
 ·obtain⟨z,_,rfl⟩:=mem q hq;show 1<(ls (mk p [-z.1,1])).length;rw[two];lia
 ·obtain⟨z,hz,rfl⟩:=mem q hq;have:=h.le z hz;have:=(h.rg z hz).2.2;exact⟨by show z.2.toNat≠0;lia,by show z.2.toNat<=n;lia⟩
theorem Av (p2:2<=p):∀(l:List (Int×Int)),(ls (Pr (jw p l) id)).length=(l.map λq=>q.2.toNat).sum+1
 |[]=>by show(ls (1:Pl p)).length=1;rw[uc p2];rfl
 |q::l=>by
  have m:Mo (Pr (jw p l) id):=Mo.pr p2 λz hz=>by obtain⟨y,_,rfl⟩:=bW.mp hz;exact qP p2 y.1
  have e:=Mo.len p2 (Mo.pow p2 (qP p2 q.1) q.2.toNat) m;rw[Mo.qz p2 (qP p2 q.1),xH p2,Av p2 l]at e;rw[aA,eP];show(ls (mk p [-q.1,1]^q.2.toNat*Pr (jw p l) id)).length=_;have e:_+1=q.2.toNat*1+1+_:=e;lia
def Cr (p:Int)(l:List (Int×Int))(c:Int)(ks:List Int):Pl p:=ks.foldl (λx r=>if (iw l r).getD 0=c then mk p [-r,1]*x else x) 1
theorem Ah (l:List (Int×Int))(c:Nat):∀(m:List (Int×Int)) (x:Pl p),(∀q∈m,iw l q.1=some q.2/\1<=q.2)->(m.map (·.1)).foldl (λx r=>if (iw l r).getD 0=(c:Int) then mk p [-r,1]*x else x) x=Pr (jw p m) (ind c)*x
 |[],x,_=>(one_mul x).symm
 |q::m,x,h=>by
  obtain⟨h1,h2⟩:=h q ag;rw[aA,List.foldl_cons,Ah l c m _ λz hz=>h z (ac _ hz),h1];show Pr (jw p m) (ind c)*(if q.2=(c:Int) then _ else x)=mk p [-q.1,1]^ind c q.2.toNat*Pr (jw p m) (ind c)*x;unfold ind;by_cases e:q.2=(c:Int)
  ·rw[ae e,ae (by lia)];show _=(1*mk p [-q.1,1])*_*x;generalize Pr (jw p m) _=y;generalize mk p [-q.1,1]=z;grind
  ·rw[af e,af (by lia)];show _=1*_*x;generalize Pr (jw p m) _=y;grind
theorem Ms {n:Nat}{l:List (Int×Int)}(h:DC p n l)(c:Nat):Cr p l (c:Int) (iQ (l.map (·.1)))=Pr (jw p l) (ind c):=by
 have e:Cr p l (c:Int) (iQ (l.map (·.1)))=Cr p l (c:Int) (l.map (·.1)):=List.Perm.foldl_eq' (lA _) (λa _ b _ z=>by
  by_cases ha:(iw l a).getD 0=(c:Int)
  ·by_cases hb:(iw l b).getD 0=(c:Int)
   ·rw[ae ha,ae hb,ae hb,ae ha];generalize mk p [-a,1]=u;generalize mk p [-b,1]=v;grind
   ·rw[ae ha,af hb,af hb,ae ha]
  ·rw[af ha,af ha]) 1
 rw[e];refine(Ah l c l 1 λq hq=>⟨pI h.nd q hq,(h.rg q hq).2.2⟩).trans ?_;rw[mul_comm,one_mul]
def lz (L:List (Pl p×Nat))(i:Nat):List PV:=((List.range i).filter λc=>decide (1<(ls (Pr L (ind (c+1)))).length)).map λc=>TT L (c+1)
theorem uD (L:List (Pl p×Nat))(i:Nat):lz L (i+1)=lz L i++if 1<(ls (Pr L (ind (i+1)))).length then[TT L (i+1)] else[]:=by
 unfold lz;rw[List.range_succ,dh,bF];congr 1;by_cases h:1<(ls (Pr L (ind (i+1)))).length
 ·rw[ae h,eU,ae (aM h)];rfl
 ·rw[af h,eU,af (by rw[aH h];decide)];rfl
theorem Ly (p2:2<=p){L:List (Pl p×Nat)}(F:o6 L)(nz:∀q∈L,q.2≠0/\q.2<=24):GR L=lz L 24:=by
 have no:∀c,c=0\/24<c->decide (1<(ls (Pr L (ind c))).length)=false:=λc hc=>aH λz=>by
  obtain⟨q,hq,h⟩:=(jE p2 F.mo F.dg).mp z;obtain⟨h1,h2⟩:=nz q hq;unfold ind at h;by_cases e:q.2=c
  ·lia
  ·rw[af e]at h;exact h rfl
 have e31:List.range 31=0::((List.range 24).map (· + 1)++[25,26,27,28,29,30]):=by decide
 unfold GR lz;have e6:([25,26,27,28,29,30]:List Nat).filter (λc=>decide (1<(ls (Pr L (ind c))).length))=[]:=fe.mpr λc hc=>by rw[no c (.inr (by simp at hc;lia))];decide
 rw[e31,eU,af (by rw[no 0 (.inl rfl)];decide),dh,e6,aZ,List.filter_map,d7];rfl
theorem KQ (hp:iG p){f:Li}{L:List (Pl p×Nat)}(F:o6 L)(nz:∀q∈L,q.2≠0)(eN:ls (Pr L id)=o5 p (Tz p f))(nl:(ls (Pr L id)).length<=31):JZ p f=.lst (GR L):=by
 unfold JZ;rw[<- eN];have h:(lf p (ls (Pr L id)) 40).length<=1:=c6 λc=>by have:=yw hp F c;lia
 rw[(yx hp F nz nl h).2]
theorem Kd (p2:2<=p){f g:Li}(h:∀n,p ∣ f.getD n 0-g.getD n 0):Tz p f=Tz p g:=by refine jA (g8 p _) (g8 p g) λn=>?_;rw[iJ,iJ];exact(nF p _ _).mpr (h n)
end
theorem Mx {a b:Li}(l:a.length=b.length)(h:∀n,a.getD n 0=b.getD n 0):a=b:=by refine dG l λn h1 h2=>?_;have:=h n;rw[gQ,gQ,aB h1,aB h2]at this;exact this
theorem oN (T:Top K mg cFE cNN cBA cBL cBP cBT cHP cNW cNP cNO cK cR):Ok P w K mg base 1 "_law_times_root" ["_law_row","_law_root","_law_prime"] (Ks K (Gr cR) (λas=>∃row r p,as=[.ints row,.int r,.int p]/\row≠[]/\row.length<=900/\0<=r/\r<p/\p<=9973) λas=>match as with
  |[.ints row,.int r,.int p]=>Dm p row r
  |_=>[]):=by
 refine Ng T.vQ lQ (λas ⟨a,b,c,h,_⟩=>by rw[h];rfl) (λf cdv A outer s H E hr=>⟨_,(gq (pM (i:=3) lQ.nd rfl (Or.inl rfl) (G5 (jt (mO (gm gw gF))) (xl 0)))
 (gq (su (k:=4) aQ rfl (by rfl) T.rH (jT 0 T.jW) lQ.nd rfl (Or.inl rfl)
 (gG (qx 3 (xn 4) (jx (kO (mV 3 (xn 4) (λ_ _=>rfl)) (jF (xn 1) (mV 0 (xn 4) (λ_ _=>rfl)))) (xn 2)))))
 (gG (yu 3)))),λas hp=>?_⟩)
 obtain⟨row,r,p,rfl,ne,rl,r0,r1,p9⟩:=hp;have lp:=lP ne;refine⟨⟨⟨⟨tT,tT⟩,tT⟩,rfl,by show 1+row.length<=sizeLine;exact bM (small1000 (by lia))⟩,λf0 ef0=>?_⟩;replace ef0:f0=0::row:=ef0;refine⟨.inl rfl,⟨by show -(2:Int)^62<=(row.length:Int);lia,by show(row.length:Int)<2^62;lia⟩,λi Z=>∃g v4,Z=[.fr (.ints row),.fr (.int r),.fr (.int p),.ow (.ints g),v4]/\g.length=row.length+1/\∀n,g.getD n 0=if n<i then((0::row).getD n 0-r*row.getD n 0) % p else(0::row).getD n 0,⟨f0,.un,rfl,by rw[ef0];rfl,λn=>by rw[ef0,af (Nat.not_lt_zero n)]⟩,?_,?_⟩
 ·rintro i Z hi ⟨g,v4,rfl,gl,gg⟩;have hi:i<(row.length:Int).toNat:=hi;have il:i<row.length:=by lia
  have b3:-((g.length:Nat):Int)<=(i:Int)/\(i:Int)<((g.length:Nat):Int):=by lia
  have b0:-((row.length:Nat):Int)<=(i:Int)/\(i:Int)<((row.length:Nat):Int):=by lia
  have x3:jP g.length (i:Int)=i:=by unfold jP;rw[ae (by lia)];lia
  have x0:jP row.length (i:Int)=i:=by unfold jP;rw[ae (by lia)];lia
  refine⟨⟨⟨⟨.inr (.inl rfl),rfl,b3⟩,rfl,⟨.inl rfl,rfl,b0⟩,o7 ⟨by show -(2:Int)^64<r;lia,by show r<(2:Int)^64;lia⟩⟩,rfl,by show 0<p;lia⟩,rfl,rfl,b3,g.set i ((g.getD i 0-r*row.getD i 0) % p),.fr (.int (i:Int)),?_,by rw[aT];exact gl,λn=>?_⟩
  ·show[Sl.fr (.ints row),.fr (.int r),.fr (.int p),.ow (.ints (g.set (jP g.length (i:Int)) ((g.getD (jP g.length (i:Int)) 0-r*row.getD (jP row.length (i:Int)) 0) % p))),.fr (.int (i:Int))]=_;rw[x3,x0]
  ·rw[gQ,bX];by_cases e:i=n
   ·subst e;rw[ae rfl,ae (by lia),ae (by lia),gg,af (bC _)];rfl
   ·rw[af e,<- gQ,gg];by_cases c:n<i
    ·rw[ae c,ae (by lia)]
    ·rw[af c,af (by lia)]
 ·rintro Z ⟨g,v4,rfl,gl,gg⟩;refine⟨rfl,?_⟩;show g=Dm p row r;refine Mx (by rw[gl,vV]) λn=>?_;have gg:g.getD n 0=if n<(row.length:Int).toNat then((0::row).getD n 0-r*row.getD n 0) % p else(0::row).getD n 0:=gg n;rw[gg,rJ,cS];by_cases c:n<row.length
  ·rw[ae c,ae c]
  ·rw[af c,af c];by_cases e:n=row.length
   ·rw[ae e,e];show(0::row).getD row.length 0=row.getD (row.length-1) 0;obtain⟨m,hm⟩:∃m,row.length=m+1:=⟨row.length-1,by lia⟩;rw[hm];rfl
   ·rw[af e,gD (by rw[bh];lia)]
def lC (ns:List Int)(p:Int):List Int:=(ns.take 24).map λc=>((ns.take 63).sum+c / 3 % (1+ns.getD 1 0 % 6)*(1+ns.getD 2 0*48271 % 9972)) % p
theorem Ar {p:Int}(p0:0<p)(ns:Li):∀r∈lC ns p,0<=r/\r<p:=λr hr=>by obtain⟨c,_,rfl⟩:=bW.mp hr;exact⟨bx _ (by lia),bj _ p0⟩
theorem Ii {p:Int}(p0:0<p)(ns:Li):DC p (lC ns p).length (qZ (lC ns p)):=by have:=wI (lC ns p) (Ar p0 ns) (DC.nil p);rw[d6]at this;exact this
theorem yz (ns:Li)(p:Int):(lC ns p).length<=24:=by unfold lC;rw[aa,bS];lia
theorem Cz (T:Top K mg cFE cNN cBA cBL cBP cBT cHP cNW cNP cNO cK cR):Ok P w K mg base 2 "_law_counts" ["_law_script","_law_prime"] (HJ K (Gr cR) (λas=>∃ns p,as=[.scr ns,.int p]/\0<p) λas=>match as with
  |[.scr ns,.int p]=>lJ (qZ (lC ns p))
  |_=>.non):=by
 refine HQ T.Es jJ (λas ⟨a,b,h,_⟩=>by rw[h];rfl) (λf cdv A outer s H E hr=>⟨_,(gq (gP (i:=2) jJ.nd rfl (Or.inl rfl) (lN gw (jx (JL (jr T) hr (gm (xr 0) (gm gw gF))) gw)))
 (gq (gP (i:=3) jJ.nd rfl (Or.inl rfl) (lN gw (jx (jF (JL (jr T) hr (gm (xr 0) (gm gw gF))) gw) gw)))
 (gq (gP (i:=4) jJ.nd rfl (Or.inl rfl) (K8 rfl T.Ox (jt (m9 (xr 0) mJ (nZ gw) (λ_ _=>.inr rfl)))))
 (gq (G3 (i:=5) jJ.nd rfl (Or.inl rfl))
 (gq (wY (k:=6) aQ rfl (jt (m9 (xr 0) mJ (nZ gw) (λ_ _=>.inr rfl))) jJ.nd rfl (Or.inl rfl)
 (gq (gP (i:=7) jJ.nd rfl (Or.inl rfl) (jx (lN (xn 4) (jF (jx (sZ (xn 6) gw) (xn 2)) (xn 3))) (xn 1)))
 (gG (Ds 5 (hu_of hr) (xn 7) (lN (JD 5 (hu_of hr) (xn 7)) gw)))))
 (gG (FW 5))))))),λas hp=>?_⟩)
 obtain⟨ns,p,rfl,p0⟩:=hp;refine⟨⟨tT,⟨⟨rfl,tT,tT⟩,tT,rfl,by show(0:Int)<=1;decide⟩,tT,by show(0:Int)<6;decide⟩,λmany em=>?_⟩;replace em:many=1+ns.getD 1 0 % 6:=em;refine⟨⟨tT,⟨⟨⟨rfl,tT,tT⟩,tT,rfl,by show(0:Int)<=2;decide⟩,tT,jZ (by decide)⟩,tT,by show(0:Int)<9972;decide⟩,λstp es=>?_⟩;replace es:stp=1+ns.getD 2 0*48271 % 9972:=es;refine⟨⟨rfl,tT,tT⟩,λst et=>?_⟩;replace et:st=(ns.take 63).sum:=et.trans (congrArg List.sum (vW ns 63));have m0:=bx (ns.getD 1 0) (show(6:Int)≠0 by decide);have s0:=bx (ns.getD 2 0*48271) (show(9972:Int)≠0 by decide);have s1:=bj (ns.getD 2 0*48271) (show(0:Int)<9972 by decide);refine iR (Z':=[.fr (.scr ns),.fr (.int p),.fr (.int many),.fr (.int stp),.fr (.int st),.un,.un,.un]) rfl ?_;refine⟨⟨rfl,tT,tT⟩,λi Z=>∃v6 v7,Z=[.fr (.scr ns),.fr (.int p),.fr (.int many),.fr (.int stp),.fr (.int st),.od (qZ ((lC ns p).take i)),v6,v7],⟨.un,.un,rfl⟩,?_,?_⟩
 ·rintro i n Z hn ⟨v6,v7,rfl⟩;have hn:(j7 ns none (some 24))[i]?=some n:=hn;rw[show j7 ns none (some 24)=ns.take 24 from vW ns 24]at hn;have eR:(lC ns p)[i]?=some ((st+n / 3 % many*stp) % p):=by unfold lC;rw[au,hn,em,es,et];rfl
  have h3:Bt n 3:=⟨by decide,by decide⟩;refine⟨⟨⟨rfl,⟨⟨rfl,tT,h3⟩,rfl,by show 0<many;lia⟩,rfl,jZ ⟨by show -(2:Int)^64<stp;lia,by show stp<(2:Int)^64;lia⟩⟩,rfl,p0⟩,λr er=>?_⟩;replace er:r=(st+n / 3 % many*stp) % p:=er;rw[<- er]at eR;have pre:DC p ((lC ns p).take i).length (qZ ((lC ns p).take i)):=by have:=wI ((lC ns p).take i) (λx hx=>Ar p0 ns x (List.mem_of_mem_take hx)) (DC.nil p);rw[d6]at this;exact this
  have ln:=pre.len;rw[bS]at ln;have l24:=yz ns p;refine⟨⟨⟨rfl,rfl⟩,tT⟩,rfl,rfl,by show(qZ ((lC ns p).take i)).length<1000;lia,.fr (.int n),.fr (.int r),?_⟩;have e:(lC ns p).take (i+1)=(lC ns p).take i++[r]:=by rw[dt,eR];rfl
  rw[e,Dg,<- Aq r pre.nd];rfl
 ·rintro Z ⟨v6,v7,rfl⟩;refine⟨rfl,?_⟩;show lJ (qZ ((lC ns p).take (j7 ns none (some 24)).length))=lJ (qZ (lC ns p));rw[show j7 ns none (some 24)=ns.take 24 from vW ns 24,b9];unfold lC;rw[aa];exact aj _
open Pl in
theorem Mu (T:Top K mg cFE cNN cBA cBL cBP cBT cHP cNW cNP cNO cK cR):Ok P w K mg base 2 "_law_due" ["_law_counts_here","_law_prime"] (HJ K (Gr cR) (λas=>∃l p n,as=[lJ l,.int p]/\iG p/\DC p n l/\n<=24) λas=>match as with
  |[d,.int p]=>.lst (lz (jw p (sU d)) 24)
  |_=>.non):=by
 refine HQ T.Nt qu (λas ⟨a,b,c,h,_⟩=>by rw[h];rfl) (λf cdv A outer s H E hr=>⟨_,(gq (tD (i:=2) qu.nd rfl (Or.inl rfl) (yK gF))
 (gq (Ci (k:=3) aQ rfl (by rfl) T.rH gw gw qu.nd rfl (Or.inl rfl)
 (gq (gU (i:=4) qu.nd rfl (Or.inl rfl) (jt (mO (gm gw gF))))
 (gq (wY (k:=5) aQ rfl (jt (Hr 0 rfl T.ye)) qu.nd rfl (Or.inl rfl)
 (gG (jq (Kh (xJ 0 (hu_of hr) (xn 5)) (xn 3))
 (gG (gU (i:=4) qu.nd rfl (Or.inl rfl) (jt (xf (oN T) hr (gm (xl 4) (gm (xn 5) (gm (xn 1) gF)))))))
 iT)))
 (gG (jq (zY (jT 4 T.jW) gw)
 (gG (rY 2 (rW (gm (xl 4) (gm (xn 3) gF)))))
 iT)))))
 (jo 2 (gG (iu (xv 2)))))),λas hp=>?_⟩)
 obtain⟨l,p,n,rfl,hp,dc,n24⟩:=hp;have p2:2<=p:=hp.1;have p9:p<=9973:=hp.2.1;have ll:=dc.len;refine⟨tT,λl0 el0=>?_⟩;replace el0:l0=[]:=el0;subst el0;refine⟨⟨tT,tT⟩,⟨by show -(2:Int)^62<=1;decide,by show(1:Int)<2^62;decide,by show -(2:Int)^62<=25;decide,by show(25:Int)<2^62;decide⟩,λi Z=>∃v3 v4 v5,Z=[.fr (lJ l),.fr (.int p),.ow (.lst (lz (jw p l) i)),v3,v4,v5],⟨.un,.un,.un,rfl⟩,?_,?_⟩
 ·rintro i Z hi ⟨v3,v4,v5,rfl⟩;have hi:i<24:=hi;refine⟨⟨⟨tT,tT⟩,tT⟩,λr0 er0=>?_⟩;replace er0:r0=ls (1:Pl p):=by rw[uc p2];exact er0
  refine iR (Z':=[.fr (lJ l),.fr (.int p),.ow (.lst (lz (jw p l) i)),.fr (.int (1+(i:Int))),.fr (.ints r0),v5]) rfl ?_;subst er0;have ks:iQ ((sU (lJ l)).map (·.1))=iQ (l.map (·.1)):=by rw[lF]
  refine⟨⟨l,rfl,by lia⟩,λj Z=>∃v5,Z=[.fr (lJ l),.fr (.int p),.ow (.lst (lz (jw p l) i)),.fr (.int (1+(i:Int))),.fr (.ints (ls (Cr p l ((i+1:Nat):Int) ((iQ (l.map (·.1))).take j)))),v5]/\Mo (Cr p l ((i+1:Nat):Int) ((iQ (l.map (·.1))).take j))/\(ls (Cr p l ((i+1:Nat):Int) ((iQ (l.map (·.1))).take j))).length<=j+1,⟨v5,rfl,Mo.one p2,by show(ls (1:Pl p)).length<=0+1;rw[uc p2];exact aj _⟩,?_,?_⟩
  ·rintro j r Z hr' ⟨v5,rfl,mo,le⟩;have hr':(iQ ((sU (lJ l)).map (·.1)))[j]?=some r:=hr';rw[ks]at hr';have rm:r∈l.map (·.1):=(lA _).mem_iff.mp (bK hr');obtain⟨q,hq,eq⟩:=bW.mp rm;have jl:j<(iQ (l.map (·.1))).length:=(aD.mp hr').1;rw[(lA _).length_eq,aa]at jl;obtain⟨q0,q1,_⟩:=dc.rg q hq;have lk:iw l r=some q.2:=by rw[<- eq];exact pI dc.nd q hq
   have et:(iQ (l.map (·.1))).take (j+1)=(iQ (l.map (·.1))).take j++[r]:=by rw[dt,hr'];rfl
   have step:Cr p l ((i+1:Nat):Int) ((iQ (l.map (·.1))).take (j+1))=if (iw l r).getD 0=((i+1:Nat):Int) then mk p [-r,1]*Cr p l ((i+1:Nat):Int) ((iQ (l.map (·.1))).take j) else Cr p l ((i+1:Nat):Int) ((iQ (l.map (·.1))).take j):=by rw[et];unfold Cr;rw[List.foldl_append];rfl
   refine⟨⟨⟨rfl,l,q.2,rfl,lk⟩,rfl⟩,λc=>?_,λc=>?_⟩
   ·replace c:(iw (sU (lJ l)) r).getD 0=1+(i:Int):=c;rw[lF]at c;rw[ae (by lia)]at step;refine⟨⟨⟨rfl,rfl,rfl,tT⟩,ls (Cr p l ((i+1:Nat):Int) ((iQ (l.map (·.1))).take j)),r,p,rfl,mo.ne,by lia,by lia,by lia,p9⟩,λf1 ef1=>⟨.fr (.int r),?_,?_,?_⟩⟩
    ·replace ef1:f1=Dm p (ls (Cr p l ((i+1:Nat):Int) ((iQ (l.map (·.1))).take j))) r:=ef1;rw[ef1,Hi p2 mo.ne,step];rfl
    ·rw[step];exact(qP p2 r).mul p2 mo
    ·rw[step,G7 p2 mo.ne];lia
   ·replace c:¬(iw (sU (lJ l)) r).getD 0=1+(i:Int):=c;rw[lF]at c;rw[af (by lia)]at step;refine⟨.fr (.int r),?_,?_,?_⟩
    ·rw[step];rfl
    ·rw[step];exact mo
    ·rw[step];lia
  ·rintro Z ⟨v5,rfl,mo,le⟩;have en:(iQ (l.map (·.1))).take (iQ ((sU (lJ l)).map (·.1))).length=iQ (l.map (·.1)):=by rw[ks];exact cC
   refine iR (Z':=[.fr (lJ l),.fr (.int p),.ow (.lst (lz (jw p l) i)),.fr (.int (1+(i:Int))),.fr (.ints (ls (Pr (jw p l) (ind (i+1))))),v5]) (by
    show[Sl.fr (lJ l),.fr (.int p),.ow (.lst (lz (jw p l) i)),.fr (.int (1+(i:Int))),.fr (.ints (ls (Cr p l ((i+1:Nat):Int) ((iQ (l.map (·.1))).take (iQ ((sU (lJ l)).map (·.1))).length)))),v5]=_;rw[en,Ms dc (i+1)]) ?_
   have dl:(lz (jw p l) i).length<=i:=by unfold lz;rw[aa];refine aG (cM _ _) ?_;rw[aE];exact aj _
   refine⟨⟨.inl rfl,tT⟩,λc=>?_,λc=>?_⟩
   ·replace c:(1:Int)<((ls (Pr (jw p l) (ind (i+1)))).length:Int):=c;refine⟨rfl,⟨rfl,rfl,tT⟩,?_,.fr (.int (1+(i:Int))),.fr (.ints (ls (Pr (jw p l) (ind (i+1))))),v5,?_⟩
    ·show(lz (jw p l) i).length<sizeLine;exact small1000 (by lia)
    ·rw[uD,ae (by lia)];unfold Pl.TT;rw[show((i+1:Nat):Int)=1+(i:Int) by lia];rfl
   ·replace c:¬(1:Int)<((ls (Pr (jw p l) (ind (i+1)))).length:Int):=c;refine⟨.fr (.int (1+(i:Int))),.fr (.ints (ls (Pr (jw p l) (ind (i+1))))),v5,?_⟩;rw[uD,af (by lia),aZ]
 ·rintro Z ⟨v3,v4,v5,rfl⟩;refine⟨rfl,?_⟩;show PV.lst (lz (jw p l) 24)=PV.lst (lz (jw p (sU (lJ l))) 24);rw[lF]
def Hz (q:PV):Prop:=∃(x:List Int) (c:Int),q=.tup [.ints x,.int c]/\x.length<=900
theorem Ga:∀{ps:List PV},(∀q∈ps,Hz q)->∃l:List (List Int×Int),ps=l.map λz=>.tup [.ints z.1,.int z.2]
 |[],_=>⟨[],rfl⟩
 |q::ps,h=>by obtain⟨x,c,rfl,_⟩:=h q ag;obtain⟨l,rfl⟩:=Ga λz hz=>h z (ac _ hz);exact⟨(x,c)::l,rfl⟩
open PySem.Spec in
theorem Dd {ps:List PV}(h:∀q∈ps,Hz q):Fw (.lst ps) (.lst ps):=by
 obtain⟨l,rfl⟩:=Ga h;clear h;have ar:∀l:List (List Int×Int),tQ (l.map λz=>.tup [.ints z.1,.int z.2]):=λl=>by
  induction l with
  |nil=>exact tT
  |cons z r ih=>exact⟨⟨tT,tT,tT⟩,ih⟩
 have ly:∀l:List (List Int×Int),PyData.canLayAll0 (qW (l.map λz=>PV.tup [.ints z.1,.int z.2]))=true/\PyData.depthAll (qW (l.map λz=>PV.tup [.ints z.1,.int z.2]))<=2:=λl=>by
  induction l with
  |nil=>exact⟨rfl,by decide⟩
  |cons z r ih=>
   obtain⟨h1,h2⟩:=ih;refine⟨?_,?_⟩
   ·simp[dat,qW,PyData.canLay0,PyData.canLayAll0,W.ke_canLayAll0,h1]
   ·simp only[aA,qW,PyData.depthAll];refine Nat.max_le.mpr ⟨?_,h2⟩;simp[dat,qW,PyData.depth,PyData.depthAll,W.ke_depthAll]
 have hs:((Shape.list (.tuple [.list .int,.int])).has (dat (.lst (l.map λz=>PV.tup [.ints z.1,.int z.2]))))=true:=by
  have key:∀l:List (List Int×Int),((qW (l.map λz=>PV.tup [.ints z.1,.int z.2])).all (Shape.has (.tuple [.list .int,.int])))=true:=λl=>by
   induction l with
   |nil=>rfl
   |cons z r ih=>have hg:(Shape.list .int).has (.list (z.1.map PyData.int))=true:=list_map_has λ_=>rfl;simp only[aA,qW,List.all_cons,ih,Bool.and_true];simp only[dat,qW,Shape.has,Shape.hasAll]at hg ⊢;rw[hg];rfl
  simp only[dat,Shape.has];exact key l
 have sh:SeqAt.shaped (dat (.lst (l.map λz=>PV.tup [.ints z.1,.int z.2])))=true:=by obtain⟨h1,h2⟩:=ly l;unfold SeqAt.shaped;simp only[dat,PyData.canLay0,PyData.depth,h1,Bool.true_and,decide_eq_true_eq];lia
 exact⟨ar l,ar l,sh,sh,SeqAt.noMix_of_shape (.list (.tuple [.list .int,.int])) rfl _ _ hs hs⟩
theorem xj (T:Top K mg cFE cNN cBA cBL cBP cBT cHP cNW cNP cNO cK cR):Ok P w K mg base 2 "_law_right" ["_law_found","_law_due_here"] (zz K (Gr cR) (λas=>∃ps,as=[.lst ps,.lst ps]/\ps.length<=900/\∀q∈ps,Hz q) λ_=>true):=by
 refine HQ T.JX w5 (λas ⟨a,h,_⟩=>by rw[h];rfl) (λf cdv A outer s H E hr=>⟨_,(gq (jq (L2.PW.pt (qI (lO (pD (mF T.gJ (xv 0) (nW (by rfl) T.wg vU)))) (vz (Bc (wG T.jW (xv 0)) (wG T.jW (xv 1))))))
 (gG (iu tH))
 iT)
 (gq (Gi (k:=2) aQ rfl (Km (xv 0)) w5.nd rfl (Or.inl rfl)
 (gq (jq (L2.PW.pt (qI (lO (pD (mF T.gJ (xv 2) (nW (by rfl) T.JS Ht)))) (qI (Bc (wG T.jW (xv 2)) gw) (qI (lO (pD (mF T.gJ (xl_of (jL (xv 2) gw (λ_ _=>rfl))) (nW (by rfl) T.wg vU)))) (vz (lO (pD (Le (ym T) hr (gm (BL (jL (xv 2) gw (λ_ _=>rfl))) gF)))))))))
 (gG (iu tH))
 iT)
 (gG (jq (M6 hr.units (Mv (jt (Ia (N':=["_law_number"]) (cap:=[]) (zV rfl rfl rfl rfl tT tT rfl) rfl (Mv (xl_of (jL (xv 2) gw (λ_ _=>rfl)))) (λ_ _ _=>(DR 0)) (λ_ _ _=>(lO (pD (Le (ym T) hr (gm (xn 0) gF))))) (λ_ _ _=>(xn 0))))) (Mv (jt (mO gF))))
 (gG (iu tH))
 iT))))
 (gG (iu (La hr.units (Mv (xv 0)) (Mv (xv 1))))))),λas hp=>?_⟩)
 obtain⟨ps,rfl,pl',hq⟩:=hp;have i1:∀xs,jN K (.tup xs) (.ty "tuple")=true:=λxs=>kJ rfl rfl T.oA;have i2:∀xs,jN K (.lst xs) (.ty "list")=true:=λxs=>kJ rfl rfl T.lG;have i3:∀xs,jN K (.ints xs) (.ty "list")=true:=λxs=>kJ rfl rfl T.lG;refine⟨⟨⟨rfl,tT,_,_,_,rfl,rfl,T.lG⟩,λ_=>⟨⟨rfl,tT⟩,rfl,tT⟩⟩,λq=>?_,λ_=>?_⟩
 ·exfalso;have q:¬jN K (.lst ps) (.ty "list")=true\/¬(ps.length:Int)=(ps.length:Int):=q;rcases q with q|q
  ·exact q (i2 _)
  ·exact q rfl
 refine⟨⟨rfl,rfl⟩,λi Z=>∃v2,Z=[.fr (.lst ps),.fr (.lst ps),v2],⟨.un,rfl⟩,?_,?_⟩
 ·rintro i q Z hi ⟨v2,rfl⟩;have hi:ps[i]?=some q:=hi;obtain⟨x,c,rfl,xl⟩:=hq q (bK hi);have h0:sr (.tup [.ints x,.int c]) 0:=⟨by show -(2:Int)<=0;decide,by show(0:Int)<2;decide⟩;have h1:sr (.tup [.ints x,.int c]) 1:=⟨by show -(2:Int)<=1;decide,by show(1:Int)<2;decide⟩;refine⟨⟨⟨rfl,tT,_,_,_,rfl,rfl,T.oA⟩,λ_=>⟨⟨⟨rfl,tT⟩,tT⟩,λ_=>⟨⟨⟨⟨rfl,tT,h0⟩,rfl⟩,tT,_,_,_,rfl,rfl,T.lG⟩,λ_=>⟨⟨⟨⟨rfl,tT,h1⟩,rfl⟩,tT⟩,c,rfl⟩⟩⟩⟩,λq=>?_,λ_=>?_⟩
  ·exfalso;have q:¬jN K (.tup [.ints x,.int c]) (.ty "tuple")=true\/¬(2:Int)=2\/¬jN K (.ints x) (.ty "list")=true\/¬true=true:=q;rcases q with q|q|q|q
   ·exact q (i1 _)
   ·exact q rfl
   ·exact q (i3 _)
   ·exact q rfl
  refine⟨⟨⟨⟨⟨rfl,tT,h0⟩,rfl⟩,by show x.length<=1000;lia,λn _=>⟨⟨⟨rfl,tT⟩,n,rfl⟩,λ_=>rfl⟩⟩,tT,tT⟩,λq=>?_,λ_=>⟨_,rfl⟩⟩;exfalso;refine q ?_;show(x.filter λn=>decide (¬true=true)).map _=[];rw[fe.mpr λ_ _=>by decide];rfl
 ·rintro Z ⟨v2,rfl⟩;refine⟨⟨rfl,rfl,Dd hq⟩,?_⟩;show PV.bl (decide (Mq (.lst ps) (.lst ps)))=PV.bl true;rw[aM (Ez _)]
theorem wU (T:Top K mg cFE cNN cBA cBL cBP cBT cHP cNW cNP cNO cK cR):Ok P w K mg base 1 "_law_no_other" ["_law_kept"] (zz K (Gr cR) (λas=>as=[.ob 1 ((cNN:Nat):Int)]) λ_=>true):=by
 refine HQ T.zm xP (λas h=>by rw[h];rfl) (λf cdv A outer s H E hr=>⟨_,(gq (jq (L2.PW.pt (qI (pD (lW jC T.gJ (xv 0) (jY (by rfl) T.xQ))) (qI (pD (lW jC T.gJ (xv 0) (jY (by rfl) T.uQ))) (vz (pD (lW jC T.gJ (xv 0) (jY (by rfl) T.p6)))))))
 (gG (iu tH))
 iT)
 (gq (jq (L2.PW.pt (qI (pD (lW jC T.gJ (xv 0) (jY (by rfl) T.u9))) (qI (pD (lW jC T.gJ (xv 0) (jY (by rfl) T.sW))) (vz (pD (lW jC T.gJ (xv 0) (jY (by rfl) T.uF)))))))
 (gG (iu tH))
 iT)
 (gG (iu (rT (yJ (lW jC T.gJ (xv 0) (jY (by rfl) T.uO))) (pe_one (yJ (lW jC T.gJ (xv 0) (jY (by rfl) T.tU))))))))),λas hp=>?_⟩)
 subst hp;have a1:iK K (.ob 1 ((cNN:Nat):Int)) (.cls cBA)=false:=iB rfl T.qK;have a2:iK K (.ob 1 ((cNN:Nat):Int)) (.cls cBL)=false:=iB rfl T.p7;have a3:iK K (.ob 1 ((cNN:Nat):Int)) (.cls cBP)=false:=iB rfl T.m6;have a4:iK K (.ob 1 ((cNN:Nat):Int)) (.cls cBT)=false:=iB rfl T.pO;have a5:iK K (.ob 1 ((cNN:Nat):Int)) (.cls cHP)=false:=iB rfl T.oF;have a6:iK K (.ob 1 ((cNN:Nat):Int)) (.cls cNW)=false:=iB rfl T.pG;have a7:iK K (.ob 1 ((cNN:Nat):Int)) (.cls cNP)=false:=iB rfl T.p8;have a8:iK K (.ob 1 ((cNN:Nat):Int)) (.cls cNO)=false:=iB rfl T.qT;refine⟨⟨⟨rfl,tT,.inr ⟨cNN,_,_,rfl,T.jm,rfl,T.qK⟩⟩,λ_=>⟨⟨rfl,tT,.inr ⟨cNN,_,_,rfl,T.jm,rfl,T.p7⟩⟩,λ_=>⟨rfl,tT,.inr ⟨cNN,_,_,rfl,T.jm,rfl,T.m6⟩⟩⟩⟩,λh=>?_,λ_=>?_⟩
 ·have h:iK K (.ob 1 ((cNN:Nat):Int)) (.cls cBA)=true\/iK K (.ob 1 ((cNN:Nat):Int)) (.cls cBL)=true\/iK K (.ob 1 ((cNN:Nat):Int)) (.cls cBP)=true:=h;rw[a1,a2,a3]at h;rcases h with h|h|h<;>cases h
 refine⟨⟨⟨rfl,tT,.inr ⟨cNN,_,_,rfl,T.jm,rfl,T.pO⟩⟩,λ_=>⟨⟨rfl,tT,.inr ⟨cNN,_,_,rfl,T.jm,rfl,T.oF⟩⟩,λ_=>⟨rfl,tT,.inr ⟨cNN,_,_,rfl,T.jm,rfl,T.pG⟩⟩⟩⟩,λh=>?_,λ_=>?_⟩
 ·have h:iK K (.ob 1 ((cNN:Nat):Int)) (.cls cBT)=true\/iK K (.ob 1 ((cNN:Nat):Int)) (.cls cHP)=true\/iK K (.ob 1 ((cNN:Nat):Int)) (.cls cNW)=true:=h;rw[a4,a5,a6]at h;rcases h with h|h|h<;>cases h
 refine⟨⟨⟨rfl,tT,.inr ⟨cNN,_,_,rfl,T.jm,rfl,T.p8⟩⟩,λ_=>⟨rfl,tT,.inr ⟨cNN,_,_,rfl,T.jm,rfl,T.qT⟩⟩⟩,?_⟩;show PV.bl (decide (¬iK K (.ob 1 ((cNN:Nat):Int)) (.cls cNP)=true/\¬iK K (.ob 1 ((cNN:Nat):Int)) (.cls cNO)=true))=PV.bl true;rw[a7,a8];rfl
theorem Cp:PSs X sts (ts X.K G Er λ_ _=>False):=λ_ _ _ _ _ _ ⟨_,_,_,_,c,_⟩=>c.elim
theorem sX (T:Top K mg cFE cNN cBA cBL cBP cBT cHP cNW cNP cNO cK cR):NP P w K mg base 8 "free_parts" ["kind","f"] (Nv K (Gr cR) (λas=>∃p f,as=[.ob 0 p,.ints f]/\iG p/\f.length<=100/\Tz p f=[]) λ_=>.err cNN):=by
 refine Q7 T.pA gR (λas ⟨a,b,h,_⟩=>by rw[h];rfl) (λf cdv A outer s H E hr=>⟨_,(gq (gU (i:=2) gR.nd rfl (Or.inl rfl) (jt (xf (jG T) hr (gm (xv 0) (gm (jt (xf (jf T) hr (gm (xv 0) (gm (xl 1) gF)))) gF)))))
  (gq (jq (lO (pW 2)) (gG (uZ Nq rfl T.Ep (by rfl) T.tM (gm Eg gF))) iT) Cp)),λas hp=>?_⟩)
 obtain⟨p,f,rfl,hp,fl,e⟩:=hp;refine⟨⟨⟨rfl,⟨⟨rfl,rfl,tT⟩,p,f,rfl,by lia⟩,tT⟩,p,Tz p f,rfl,hp,by rw[e];exact be _,g8 p f,jz p f⟩,λx ex=>?_⟩;have ex:x=[]:=by have ex:x=o5 p (Tz p f):=ex;rw[ex,e];rfl
 refine⟨.inl rfl,λ_=>⟨⟨tT,tT⟩,rfl⟩,λq=>?_⟩;have q:¬¬¬x=[]:=q;exact q λz=>z ex
theorem zG (T:Top K mg cFE cNN cBA cBL cBP cBT cHP cNW cNP cNO cK cR):Ok P w K mg base 9 "_law_refused" ["_law_kind","_law_row"] (zz K (Gr cR) (λas=>∃p f,as=[.ob 0 p,.ints f]/\iG p/\f.length<=100/\Tz p f=[]) λ_=>true):=by
 refine HQ T.CZ oY (λas ⟨a,b,h,_⟩=>by rw[h];rfl) (λf cdv A outer s H E hr=>⟨_,(gq (nH (i:=2) oY.nd rfl (Or.inl rfl) Mt)
 (gq (Ik (i:=3) (j:=2) jC (sX T) hr rfl rfl rfl rfl (by rfl) T.pQ oY.nd rfl rfl rfl rfl rfl (by decide) (by decide) (λ_ _=>(gm (xv 0) (gm (xl 1) gF))))
 (gG (iu (rT (lW jC T.gJ (xv 2) (jY (by rfl) T.tM)) (rT (lW jC T.gJ (xv 2) (nW (by rfl) T.vG ut)) (pe_one (Le (wU T) hr (gm (xv 2) gF))))))))),λas hp=>?_⟩)
 obtain⟨p,f,rfl,hp⟩:=hp;refine⟨tT,λv ev=>?_⟩;have ev:v=.non:=ev;subst ev;refine⟨⟨rfl,rfl,tT⟩,⟨p,f,rfl,hp⟩,(λq eq=>nomatch eq),λc ec=>?_⟩;have ec:Rs.err cNN=.err c:=ec;cases ec;refine⟨T.Qs,⟨⟨rfl,tT,.inr ⟨cNN,_,_,rfl,T.jm,rfl,T.Bv⟩⟩,λ_=>⟨⟨rfl,tT,.inr ⟨cNN,_,_,rfl,T.jm,rfl,T.Bj⟩⟩,λ_=>⟨⟨rfl,tT⟩,rfl⟩⟩⟩,?_⟩;show PV.bl (decide _)=PV.bl true;rw[aM];exact⟨iB rfl T.Bv,iB rfl T.Bj,rfl⟩
open Pl in
theorem By {p:Int}(hp:iG p){x:Pl p}(mx:Mo x){a:Int}(a0:0<a)(a1:a<p):ls (con p a*x)≠[]/\o5 p (ls (con p a*x))=ls x:=by
 have p2:2<=p:=hp.1;have nd:¬p ∣ a:=λz=>by have:=Int.le_of_dvd a0 z;lia
 have get:∀n,(ls (con p a*x)).getD n 0=pl p (a*(ls x).getD n 0):=λn=>by
  have e:con p a*x=mk p (yH a (ls x)):=by have:=oZ (p:=p) a (ls x);rw[iI]at this;exact this
  rw[e,tY,iJ,iy]
 have pos:=mx.pos;have top:(ls (con p a*x)).getD ((ls x).length-1) 0=a:=by have l1:(ls x).getD ((ls x).length-1) 0=1:=mx;rw[get,l1,bR,jU (by lia)];exact bB (by lia) a1
 have le:(ls (con p a*x)).length<=(ls x).length:=km (iY _).form λn hn=>by rw[get,gD (xs:=ls x) hn,bd,jO]
 have ge:(ls x).length<=(ls (con p a*x)).length:=c6 λh=>by rw[gD (xs:=ls (con p a*x)) (by lia)]at top;lia
 have el:(ls (con p a*x)).length=(ls x).length:=by lia
 have ne:ls (con p a*x)≠[]:=fH.mp (by lia);have la:gB (ls (con p a*x))=a:=by show(ls (con p a*x)).getD ((ls (con p a*x)).length-1) 0=a;rw[el];exact top
 refine⟨ne,?_⟩;have nl:=Gj hp (iY (con p a*x)) ne;rw[iI,la]at nl;obtain⟨t,ht⟩:=jB hp nd;have ci:=Ae ht;have e:x=mk p (o5 p (ls (con p a*x))):=by have:=congrArg (λy=>con p t*y) nl;have this:con p t*(con p a*x)=con p t*(con p a*mk p (o5 p (ls (con p a*x)))):=this;rw[<- mul_assoc,<- mul_assoc,ci,one_mul,one_mul]at this;exact this
 have G:=wk hp (iY (con p a*x)).form (iY (con p a*x)).red;have eN:ls (mk p (o5 p (ls (con p a*x))))=o5 p (ls (con p a*x)):=oM ⟨G.form,G.red⟩;rw[<- eN,<- e]
open Pl in
theorem Hc {p:Int}{a:Int}(a0:0<a)(a1:a<p):ls (con p a*(1:Pl p))=[a]:=by
 rw[mul_comm,one_mul];refine oM ⟨λ_=>by show a≠0;lia,λn=>?_⟩
 match n with
 |0=>show pl p a=a;rw[jU (by lia)];exact bB (by lia) a1
 |n+1=>exact jO p
open Pl in
theorem yE {p:Int}(l:List (Int×Int))(q:Int×Int):Pr (jw p (l++[q])) id=mk p [-q.1,1]^q.2.toNat*Pr (jw p l) id:=by
 induction l with
 |nil=>rfl
 |cons z l ih=>show mk p [-z.1,1]^z.2.toNat*Pr (jw p (l++[q])) id=mk p [-q.1,1]^q.2.toNat*(mk p [-z.1,1]^z.2.toNat*Pr (jw p l) id);rw[ih];generalize mk p [-z.1,1]^z.2.toNat=u;generalize mk p [-q.1,1]^q.2.toNat=v;generalize Pr (jw p l) id=y;grind
theorem Fq {p:Int}(p2:2<=p){f:Li}(h:∀m∈f,p ∣ m):Tz p f=[]:=by
 refine(Kd (g:=[]) p2 λn=>?_).trans rfl;show p ∣ f.getD n 0-0;rw[aW];by_cases hn:n<f.length
 ·exact h _ (FM.getD_mem hn)
 ·rw[gD (by lia)];exact aI p
theorem Ac {p:Int}{l:Li}(h:∀m∈l,p ∣ m)(k:Option Int):∀m∈j7 l none k,p ∣ m:=λm hm=>by unfold j7 at hm;exact h m (List.drop_subset _ _ (List.take_subset _ _ hm))
open Pl in
theorem Lz (T:Top K mg cFE cNN cBA cBL cBP cBT cHP cNW cNP cNO cK cR){f:Addr}{fd:FuncData}(F:Fun K "law" "law" uC f fd):FnOk P w K mg base CX0 10 f fd ["_law_script"] (qi K):=by
 refine N6 (G:=Gr cR) F jH (λcdv A outer s H E hr=>⟨_,(gq (gP (i:=1) jH.nd rfl (Or.inl rfl) (JL (yo T) hr (gm (JL (jr T) hr (gm (xr 0) (gm gw gF))) gF)))
 (gq (nH (i:=2) jH.nd rfl (Or.inl rfl) (Qj (Ea T) hr Ri (xn 1)))
 (gq (nH (i:=3) jH.nd rfl (Or.inl rfl) (xc (Cz T) hr (gm (xr 0) (gm (xn 1) gF))))
 (gq (gU (i:=4) jH.nd rfl (Or.inl rfl) (jt (mO (gm (lN gw (jx (JL (jr T) hr (gm (xr 0) (gm gw gF))) (Lh rfl T.Oj gw (kO (xn 1) gw)))) gF))))
 (gq (CJ 3 (k:=5) aQ rfl jH.nd rfl (Or.inl rfl)
 (gG (su (k:=6) aQ rfl (by rfl) T.rH (xJ 3 (hu_of hr) (xn 5)) jH.nd rfl (Or.inl rfl)
 (gG (gU (i:=4) jH.nd rfl (Or.inl rfl) (jt (xf (oN T) hr (gm (xl 4) (gm (xn 5) (gm (xn 1) gF))))))))))
 (gq (pM (i:=7) jH.nd rfl (Or.inl rfl) (mO gF))
 (gq (su (k:=6) aQ rfl (by rfl) T.rH (jT 4 T.jW) jH.nd rfl (Or.inl rfl)
 (gG (zc 7 (lN (mV 4 (xn 6) (λ_ _=>rfl)) (jF (xn 1) (kO (jx (sZ (JL (jr T) hr (gm (xr 0) (gm (xn 6) gF))) gw) gw) gw))))))
 (jo 7 (gq (pM (i:=7) jH.nd rfl (Or.inl rfl) (G5 (xl 7) (jt (m9 (jt (mO (gm (jF gw (xn 1)) (gm (kO gw (xn 1)) gF)))) mJ (nZ (jx (JL (jr T) hr (gm (xr 0) (gm gw gF))) gw)) (λ_ _=>.inl rfl)))))
 (jo 7 (gq (nH (i:=8) jH.nd rfl (Or.inl rfl) (xc (Mu T) hr (gm (xv 3) (gm (xn 1) gF))))
 (gq (jq (lO (pD (Le (xj T) hr (gm (xc (oE T) hr (gm (xv 2) (gm (jt (Bh T.wg (xl 7) (λ_=>.inl rfl))) gF))) (gm (xv 8) gF)))))
 (gG (iu tH))
 iT)
 (gq (jq (lO (pD (Le (zG T) hr (gm (xv 2) (gm (jt (m9 (jt (mO (gm (kO gw (xn 1)) (gm gw (gm (jF gw (xn 1)) gF))))) mJ (nZ (jx (JL (jr T) hr (gm (xr 0) (gm gw gF))) gw)) (λ_ _=>.inl rfl))) gF)))))
 (gG (iu tH))
 iT)
 (gq (gU (i:=9) jH.nd rfl (Or.inl rfl) (jt (Bh T.wg (xl 7) (λ_=>.inl rfl))))
 (gG (iu (rT (Le (xj T) hr (gm (xc (oE T) hr (gm (xv 2) (gm (xl 7) gF))) (gm (xv 8) gF))) (pe_one (Mj hr.units (Mv (xl 7)) (Mv (xl 9))))))))))))))))))))),λns h63 hbits=>?_⟩)
 clear hbits;refine⟨⟨⟨⟨⟨rfl,tT,tT⟩,tT,rfl,by show(0:Int)<=0;decide⟩,tT⟩,_,rfl⟩,λp ep=>?_⟩;replace ep:p=lR (ns.getD 0 0):=ep;have hp:iG p:=by rw[ep];exact yP _
 clear ep;have p2:2<=p:=hp.1;have p9:p<=9973:=hp.2.1;refine⟨⟨rfl,hp⟩,λkd ekd=>?_⟩;replace ekd:kd=.ob 0 p:=ekd;subst ekd;refine⟨⟨⟨rfl,rfl,tT⟩,ns,p,rfl,by lia⟩,λdv edv=>?_⟩;replace edv:dv=lJ (qZ (lC ns p)):=edv;have dc:=Ii (show 0<p by lia) ns;have n24:=yz ns p;subst edv;generalize (lC ns p).length=n at dc n24;generalize qZ (lC ns p)=l at dc;refine iR (Z':=[.fr (.scr ns),.fr (.int p),.fr (.ob 0 p),.fr (lJ l),.un,.un,.un,.un,.un,.un]) rfl ?_;have mxp:0<(if p-1 > (1:Int) then p-1 else 1):=by split<;>lia
 refine⟨⟨⟨⟨tT,⟨⟨rfl,tT,tT⟩,tT,rfl,by show(0:Int)<=3;decide⟩,⟨tT,rfl,tT⟩,mxp⟩,tT⟩,tT⟩,λr0 er0=>?_⟩;replace er0:r0=[1+ns.getD 3 0 % (if p-1 > (1:Int) then p-1 else 1)]:=er0;obtain⟨a,ea,a0,a1⟩:∃a,r0=[a]/\0<a/\a<p:=by
  refine⟨_,er0,?_,?_⟩
  ·have:=bx (ns.getD 3 0) (Int.ne_of_gt mxp);lia
  ·have:=bj (ns.getD 3 0) mxp;split at this<;>split<;>lia
 clear er0 mxp;have FF:=JB hp dc;have mo:∀m:List (Int×Int),Mo (Pr (jw p m) id):=λm=>Mo.pr p2 λq hq=>by obtain⟨z,_,rfl⟩:=bW.mp hq;exact qP p2 z.1
 have cl:∀{x:Pl p},Mo x->ls (con p a*x)≠[]:=λm=>(By hp m a0 a1).1;rw[<- Hc a0 a1]at ea;refine iR (Z':=[.fr (.scr ns),.fr (.int p),.fr (.ob 0 p),.fr (lJ l),.fr (.ints r0),.un,.un,.un,.un,.un]) rfl ?_;subst ea;have bigL:∀x:Pl p,(ls x).length<=200->(ls x).length<=900:=λ_ h=>by lia
 refine⟨l,rfl,λi Z=>∃v5 v6,Z=[.fr (.scr ns),.fr (.int p),.fr (.ob 0 p),.fr (lJ l),.fr (.ints (ls (con p a*Pr (jw p (l.take i)) id))),v5,v6,.un,.un,.un]/\(ls (con p a*Pr (jw p (l.take i)) id)).length=((l.take i).map λq=>q.2.toNat).sum+1,⟨.un,.un,rfl,by rw[show(l.take 0)=[] from rfl];exact congrArg List.length (Hc a0 a1)⟩,?_,?_⟩
 ·rintro i q Z hq ⟨v5,v6,rfl,le⟩;have qm:q∈l:=bK hq;obtain⟨q0,q1,q2⟩:=dc.rg q qm;have lk:=pI dc.nd q qm;have qn:=dc.le q qm;have et:l.take (i+1)=l.take i++[q]:=by rw[dt,hq];rfl
  have part:((l.take i).map λq=>q.2.toNat).sum<=n:=by have e:=dc.sm;rw[<- List.take_append_drop i l,bF,List.sum_append]at e;lia
  have gk:(iw (sU (lJ l)) q.1).getD 0=q.2:=by rw[lF,lk];rfl
  refine⟨⟨rfl,l,q.2,rfl,lk⟩,⟨?_,?_⟩,λk Z=>∃v6,Z=[.fr (.scr ns),.fr (.int p),.fr (.ob 0 p),.fr (lJ l),.fr (.ints (ls (con p a*(mk p [-q.1,1]^k*Pr (jw p (l.take i)) id)))),.fr (.int q.1),v6,.un,.un,.un]/\(ls (con p a*(mk p [-q.1,1]^k*Pr (jw p (l.take i)) id))).length=((l.take i).map λq=>q.2.toNat).sum+1+k,⟨v6,?_,?_⟩,?_,?_⟩
  ·show -(2:Int)^62<=(iw (sU (lJ l)) q.1).getD 0;rw[gk];lia
  ·show(iw (sU (lJ l)) q.1).getD 0<2^62;rw[gk];lia
  ·show _=[_,_,_,_,Sl.fr (.ints (ls (con p a*(1*Pr (jw p (l.take i)) id)))),_,_,_,_,_];rw[one_mul];rfl
  ·show(ls (con p a*(1*Pr (jw p (l.take i)) id))).length=_;rw[one_mul];exact le
  ·rintro k Z hk ⟨v6,rfl,lk'⟩;have hk:k<((iw (sU (lJ l)) q.1).getD 0).toNat:=hk;rw[gk]at hk;have m1:=(Mo.pow p2 (qP p2 q.1) k).mul p2 (mo (l.take i));have st:con p a*(mk p [-q.1,1]^(k+1)*Pr (jw p (l.take i)) id)=mk p [-q.1,1]*(con p a*(mk p [-q.1,1]^k*Pr (jw p (l.take i)) id)):=by show con p a*((mk p [-q.1,1]^k*mk p [-q.1,1])*Pr (jw p (l.take i)) id)=_;generalize mk p [-q.1,1]^k=u;generalize mk p [-q.1,1]=v;generalize Pr (jw p (l.take i)) id=y;generalize con p a=c;grind
   refine⟨⟨⟨rfl,rfl,rfl,tT⟩,ls (con p a*(mk p [-q.1,1]^k*Pr (jw p (l.take i)) id)),q.1,p,rfl,cl m1,by lia,q0,q1,p9⟩,λf1 ef1=>⟨.fr (.int (k:Int)),?_,?_⟩⟩
   ·replace ef1:f1=Dm p (ls (con p a*(mk p [-q.1,1]^k*Pr (jw p (l.take i)) id))) q.1:=ef1;rw[ef1,Hi p2 (cl m1),st];rfl
   ·rw[st,G7 p2 (cl m1),lk'];lia
  ·rintro Z ⟨v6,rfl,lk'⟩;have en:((iw (sU (lJ l)) q.1).getD 0).toNat=q.2.toNat:=by rw[gk]
   refine⟨.fr (.int q.1),v6,?_,?_⟩
   ·show[_,_,_,_,Sl.fr (.ints (ls (con p a*(mk p [-q.1,1]^((iw (sU (lJ l)) q.1).getD 0).toNat*Pr (jw p (l.take i)) id)))),_,_,_,_,_]=_;rw[en,et,yE]
   ·have lk':(ls (con p a*(mk p [-q.1,1]^((iw (sU (lJ l)) q.1).getD 0).toNat*Pr (jw p (l.take i)) id))).length=((l.take i).map λq=>q.2.toNat).sum+1+((iw (sU (lJ l)) q.1).getD 0).toNat:=lk';rw[en]at lk';rw[et,yE,lk',bF,List.sum_append];show _=_+(q.2.toNat+0)+1;lia
 rintro Z ⟨v5,v6,rfl,le⟩;rw[cC]at le;rw[dc.sm]at le;refine iR (Z':=[.fr (.scr ns),.fr (.int p),.fr (.ob 0 p),.fr (lJ l),.fr (.ints (ls (con p a*Pr (jw p l) id))),v5,v6,.un,.un,.un]) (by rw[cC]) ?_;have nr:=(By hp (mo l) a0 a1).2;have ne:=cl (mo l);have rz:=xZ (con p a*Pr (jw p l) id);have nl:(ls (Pr (jw p l) id)).length<=31:=by rw[Av p2,dc.sm];lia
 generalize ls (con p a*Pr (jw p l) id)=row at le nr ne rz;refine⟨⟨tT,tT⟩,λh0 eh0=>?_⟩;replace eh0:h0=[]:=eh0;refine iR (Z':=[.fr (.scr ns),.fr (.int p),.fr (.ob 0 p),.fr (lJ l),.fr (.ints row),v5,v6,.ow (.ints h0),.un,.un]) rfl ?_;have ml:∀z:Int,IntMulOk p z:=λz=>o7 ⟨by show -(2:Int)^64<p;lia,by show p<(2:Int)^64;lia⟩;have mr:∀z:Int,IntMulOk z p:=λz=>jZ ⟨by show -(2:Int)^64<p;lia,by show p<(2:Int)^64;lia⟩;refine⟨.inl rfl,⟨by show -(2:Int)^62<=(row.length:Int);lia,by show(row.length:Int)<2^62;lia⟩,λi Z=>∃v6 h,Z=[.fr (.scr ns),.fr (.int p),.fr (.ob 0 p),.fr (lJ l),.fr (.ints row),v5,v6,.ow (.ints h),.un,.un]/\h.length=i/\∀n,n<i->p ∣ h.getD n 0-row.getD n 0,⟨v6,h0,rfl,by rw[eh0];rfl,λn hn=>absurd hn (Nat.not_lt_zero n)⟩,?_,?_⟩
 ·rintro i Z hi ⟨v6,h,rfl,hl,hd⟩;have hi:i<(row.length:Int).toNat:=hi;have il:i<row.length:=by lia
  have b0:-((row.length:Nat):Int)<=(i:Int)/\(i:Int)<((row.length:Nat):Int):=by lia
  have x0:jP row.length (i:Int)=i:=by unfold jP;rw[ae (by lia)];lia
  have d2:∀z:Int,Bt z 2:=λz=>⟨by show(0:Int)<2;decide,by decide⟩;refine⟨rfl,⟨⟨.inl rfl,rfl,b0⟩,rfl,⟨⟨⟨⟨⟨rfl,rfl,tT⟩,tT,rfl,by show(0:Int)<=(i:Int);lia⟩,tT,d2 _⟩,tT,by show(0:Int)<7;decide⟩,tT⟩,ml _⟩,by show h.length<sizeLine;exact small1000 (by lia),.fr (.int (i:Int)),h++[row.getD i 0+p*(ns.getD i 0 / 2 % 7-3)],?_,by rw[aN,hl];rfl,λn hn=>?_⟩
  ·show[_,_,_,_,_,_,_,Sl.ow (.ints (h++[row.getD (jP row.length (i:Int)) 0+p*(ns.getD (i:Int).toNat 0 / 2 % 7-3)])),_,_]=_;rw[x0];rfl
  ·by_cases c:n<i
   ·rw[gQ,aS (by lia),<- gQ];exact hd n c
   ·have e:n=i:=by lia
    subst e;rw[gQ,aX (by lia),hl,Nat.sub_self];exact⟨ns.getD n 0 / 2 % 7-3,by show row.getD n 0+_-row.getD n 0=_;lia⟩
 rintro Z ⟨v6,h,rfl,hl,hd⟩;replace hl:h.length=row.length:=by have hl:h.length=(row.length:Int).toNat:=hl;lia
 replace hd:∀n,n<row.length->p ∣ h.getD n 0-row.getD n 0:=λn hn=>hd n (by show n<(row.length:Int).toNat;lia);have tz:∀m∈j7 [3*p,0-p] none (some (ns.getD 5 0 % 3)),p ∣ m:=Ac (λm hm=>by
  rcases az.mp hm with rfl|hm
  ·exact eS ..
  ·rw[bw.mp hm];exact⟨-1,by lia⟩) _
 have tl:=sG [3*p,0-p] none (some (ns.getD 5 0 % 3));have tl:(j7 [3*p,0-p] none (some (ns.getD 5 0 % 3))).length<=2:=tl;refine⟨⟨rfl,⟨⟨⟨⟨tT,rfl,mr _⟩,⟨tT,rfl⟩,tT⟩,tT⟩,tT,⟨⟨⟨rfl,tT,tT⟩,tT,rfl,by show(0:Int)<=5;decide⟩,tT,by show(0:Int)<3;decide⟩⟩,by show h.length+(j7 [3*p,0-p] none (some (ns.getD 5 0 % 3))).length<=sizeLine;exact bM (small1000 (by lia))⟩,λg eg=>?_⟩;replace eg:g=h++j7 [3*p,0-p] none (some (ns.getD 5 0 % 3)):=eg;have gl:g.length<=100:=by rw[eg,aN];lia
 have gz:Tz p g=row:=by
  refine Eq.trans (Kd p2 λn=>?_) rz;rw[eg];by_cases c:n<h.length
  ·rw[gQ,aS c,<- gQ];exact hd n (by lia)
  ·rw[gQ,aX (by lia),<- gQ,gD (xs:=row) (by lia),aW];by_cases d:n-h.length<(j7 [3*p,0-p] none (some (ns.getD 5 0 % 3))).length
   ·exact tz _ (FM.getD_mem d)
   ·rw[gD (by lia)];exact aI p
 clear eg tz tl hd hl;refine iR (Z':=[.fr (.scr ns),.fr (.int p),.fr (.ob 0 p),.fr (lJ l),.fr (.ints row),v5,v6,.ow (.ints g),.un,.un]) rfl ?_;refine⟨⟨⟨rfl,rfl,tT⟩,l,p,n,rfl,hp,dc,n24⟩,λdu edu=>?_⟩;replace edu:du=.lst (lz (jw p l) 24):=by have edu:du=.lst (lz (jw p (sU (lJ l))) 24):=edu;rw[edu,lF]
 subst edu;have fp:JZ p g=.lst (lz (jw p l) 24):=by rw[KQ hp FF.1 (λq hq=>(FF.2 q hq).1) (by rw[gz,nr]) nl,Ly p2 FF.1 λq hq=>⟨(FF.2 q hq).1,aG (FF.2 q hq).2 n24⟩]
 have dl:(lz (jw p l) 24).length<=900:=by unfold lz;rw[aa];refine aG (cM _ _) ?_;rw[aE];decide
 have dp:∀q∈lz (jw p l) 24,Hz q:=λq hq=>by
  obtain⟨c,_,rfl⟩:=bW.mp hq;refine⟨_,_,rfl,?_⟩;have e:=tG (L:=jw p l) (g:=id) (h:=ind (c+1)) λq hq=>by
   have:=(FF.2 q hq).1;unfold ind;split
   ·show 1<=q.2;lia
   ·exact be _
  have m1:Mo (Pr (jw p l) (ind (c+1))):=Mo.pr p2 FF.1.mo;have m2:Mo (Pr (jw p l) λm=>id m-ind (c+1) m):=Mo.pr p2 FF.1.mo;have:=Mo.len p2 m2 m1;rw[<- e]at this;have:=m2.pos;lia
 generalize lz (jw p l) 24=D at fp dl dp;have pre1:∃ps,[JZ p g,.lst D]=[PV.lst ps,.lst ps]/\ps.length<=900/\∀q∈ps,Hz q:=⟨D,by rw[fp],dl,dp⟩;have pre0:∃p' f,[PV.ob 0 p,PV.ints g]=[.ob 0 p',.ints f]/\iG p'/\f.length<=100/\(o5 p' (Tz p' f)).length<=31/\Tz p' f≠[]:=⟨p,g,rfl,hp,gl,by rw[gz,nr];exact nl,by rw[gz];exact ne⟩;refine iR (Z':=[.fr (.scr ns),.fr (.int p),.fr (.ob 0 p),.fr (lJ l),.fr (.ints row),v5,v6,.fr (.ints g),.fr (.lst D),.un]) rfl ?_;refine⟨⟨⟨⟨⟨rfl,rfl,tT⟩,pre0⟩,rfl,tT⟩,pre1⟩,λq=>?_,λ_=>?_⟩
 ·have q:¬true=true:=q;exact absurd rfl q
 have sl:=sG [0-p,0,3*p] none (some (ns.getD 4 0 % 4));have sl:(j7 [0-p,0,3*p] none (some (ns.getD 4 0 % 4))).length<=3:=sl;have sz:Tz p (j7 [0-p,0,3*p] none (some (ns.getD 4 0 % 4)))=[]:=Fq p2 (Ac (λm hm=>by
  rcases az.mp hm with rfl|hm
  ·exact⟨-1,by lia⟩
  rcases az.mp hm with rfl|hm
  ·exact aI p
  ·rw[bw.mp hm];exact eS ..) _)
 refine⟨⟨⟨rfl,⟨⟨⟨⟨tT,rfl⟩,tT,⟨tT,rfl,mr _⟩,tT⟩,tT⟩,tT,⟨⟨⟨rfl,tT,tT⟩,tT,rfl,by show(0:Int)<=4;decide⟩,tT,by show(0:Int)<4;decide⟩⟩,tT⟩,p,j7 [0-p,0,3*p] none (some (ns.getD 4 0 % 4)),rfl,hp,by lia,sz⟩,λq=>?_,λ_=>?_⟩
 ·have q:¬true=true:=q;exact absurd rfl q
 refine⟨rfl,λk ek=>?_⟩;replace ek:k=g:=ek;subst ek;refine⟨⟨⟨⟨⟨⟨rfl,rfl,tT⟩,pre0⟩,rfl,tT⟩,pre1⟩,λ_=>⟨rfl,rfl⟩⟩,?_⟩;show PV.bl (decide _)=PV.bl true;rw[aM];exact⟨rfl,rfl⟩
end
end iU
theorem PySem.Challenge.cw_factorforge_k24_squares_of_roots_holds : PySem.Challenge.rw_factorforge_k24_squares_of_roots.Holds :=
  iU.pre fun T => iU.Lz T
